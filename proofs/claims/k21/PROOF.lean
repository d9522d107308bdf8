import PyProof.Rows.All
import Wide.All
import OpenK.AllK
import Wide.FinOn
import HandS.ForMost
import HandS.ForExc
import HandS.Deep
import HandS.Conv
import HandS.Sort
import HandS.Flow
import HandS.IsInst
import HandS.TupAny
import HandS.More
import HandS.Zip
import HandS.Walk
import KE.KDictKeyed
import KE.KeyNested
import KE.GoesMore
import KE.GoesEnum
import HandS.ExcIs
import HandS.Ends
import HandS.Iter
import HandS.Style
import KE.SortCalls
import HandS.TupSets
import HandS.SortRule
import HandS.SetFor
import HandS.Strs
import HandS.TupLe
import KE.DataMinMax
import HandS.DictComp
import KE.KDictWalk
import HandS.Rev
import PyProof.DictDisplay
import PySem.Challenge.RW_arrowworlds_k21_whole_steps_from_way_to
set_option Elab.async false
set_option linter.all false
set_option maxRecDepth 100000
set_option maxHeartbeats 2000000
namespace DW
open PySem PySem.Spec PyProof.Rows L2

abbrev D := PyData
/-- the draws' state as an argument -/
abbrev mD : D := .dict [(.none, .none)]

/-- an error that is held, by its address: nothing of it is told -/
def eD (a : Addr) : D := .dict [(.bool false, .int (a : Nat))]
/-- the script as an argument -/
def sD (ns : List Int) : D := .dict ((.bool true, .none) :: ns.map fun n => (.none, .int n))

def MObj (l s : Int) (c : Addr) (p : Int) : HO := .dK [(.inr "left", .int l), (.inr "seed", .int s), (.inr "cells", .ref c), (.inr "spot", .int p)]
def IsM : HO → Prop
  | .dK ((.inr x, _) :: _) => x = ("left" : Str)
  | _ => False
theorem isM_obj {l s p : Int} {c : Addr} : IsM (MObj l s c p) := rfl
def MOk (A : Addr → Prop) (u : Nat) (K : PySem.W.Frag) (H : Hp) (o : HO) : Prop := ∃ (l s : Int) (c : Addr) (p : Int) (cells : List Int), o = MObj l s c p ∧ 0 ≤ l ∧ 0 ≤ s ∧ s < 2147483647 ∧ 0 ≤ p ∧ p ≤ u ∧ H c = some (.lst (cells.map .int)) ∧ ¬ A c ∧ cells ≠ []
def MInv (A : Addr → Prop) (u : Nat) (K : PySem.W.Frag) (H : Hp) : Prop := ∀ a o, H a = some o → IsM o → MOk A u K H o

/-- what stood stands; only the draws' states may have gone on -/
structure Step (H H' : Hp) : Prop where
  keep : ∀ a o, H a = some o → ¬ IsM o → H' a = some o
  ms : ∀ a o, H a = some o → IsM o → ∃ o', H' a = some o' ∧ IsM o'
theorem Step.refl (H : Hp) : Step H H := ⟨fun _ _ h _ => h, fun _ o h m => ⟨o, h, m⟩⟩
theorem Step.trans {H H1 H2 : Hp} (a : Step H H1) (b : Step H1 H2) : Step H H2 :=
  ⟨fun x o h n => b.keep x o (a.keep x o h n) n, fun x o h m => let ⟨o1, h1, m1⟩ := a.ms x o h m; b.ms x o1 h1 m1⟩
theorem Step.new {H : Hp} {p : Addr} {o : HO} (h : H p = none) : Step H (upd H p o) :=
  ⟨fun a u e _ => by rw [upd_ne (ne_of_none e h)]; exact e, fun a u e m => ⟨u, by rw [upd_ne (ne_of_none e h)]; exact e, m⟩⟩
theorem Step.there {H H' : Hp} (a : Step H H') {x : Addr} (h : H x ≠ none) : H' x ≠ none := by
  cases e : H x with
  | none => exact absurd e h
  | some o =>
    by_cases m : IsM o
    · obtain ⟨o', h', _⟩ := a.ms x o e m
      rw [h']; simp
    · rw [a.keep x o e m]; simp
theorem Step.fresh {H H' : Hp} (a : Step H H') {x : Addr} (h : H' x = none) : H x = none := by
  cases e : H x with
  | none => rfl
  | some o => exact absurd h (a.there (by rw [e]; simp))
theorem Step.rd {H H' : Hp} (s : Step H H') {a : Addr} {xs : List V} (h : Rd H a (.lst xs)) : Rd H' a (.lst xs) := by
  rcases h with h | ⟨o, h⟩
  · exact .inl (s.keep _ _ h (fun m => m))
  · exact .inr ⟨o, s.keep _ _ h (fun m => m)⟩
theorem Step.rdT {H H' : Hp} (s : Step H H') {a : Addr} {xs : List V} (h : Rd H a (.tup xs)) : Rd H' a (.tup xs) := by
  rcases h with h | ⟨o, h⟩
  · exact .inl (s.keep _ _ h (fun m => m))
  · exact .inr ⟨o, s.keep _ _ h (fun m => m)⟩
theorem Step.sql {K : PySem.W.Frag} {H H' : Hp} (s : Step H H') {a : Addr} {xs : List V} (h : SqL K H a xs) : SqL K H' a xs := h.elim (fun h => .inl (s.rd h)) .inr
theorem Step.sqt {K : PySem.W.Frag} {H H' : Hp} (s : Step H H') {a : Addr} {xs : List V} (h : SqT K H a xs) : SqT K H' a xs := h.elim (fun h => .inl (s.rdT h)) .inr
theorem MInv.new {A : Addr → Prop} {u : Nat} {K : PySem.W.Frag} {H : Hp} {p : Addr} {o : HO} (m : MInv A u K H) (h : H p = none) (n : ¬ IsM o) : MInv A u K (upd H p o) := fun a v e i => by
  by_cases q : a = p
  · subst q; rw [upd_same] at e; cases e; exact absurd i n
  · rw [upd_ne q] at e
    obtain ⟨l, s, c, x, cells, h1, h2, h3, h4, h5, h6, h7, h8, h9⟩ := m a v e i
    exact ⟨l, s, c, x, cells, h1, h2, h3, h4, h5, h6, by rw [upd_ne (ne_of_none h7 h)]; exact h7, h8, h9⟩
/-- one's own object changes -/
theorem MInv.putA {A : Addr → Prop} {u : Nat} {K : PySem.W.Frag} {H : Hp} {p : Addr} {o : HO} (m : MInv A u K H) (h : A p) (n : ¬ IsM o) : MInv A u K (upd H p o) := fun a v e i => by
  by_cases q : a = p
  · subst q; rw [upd_same] at e; cases e; exact absurd i n
  · rw [upd_ne q] at e
    obtain ⟨l, s, c, x, cells, h1, h2, h3, h4, h5, h6, h7, h8, h9⟩ := m a v e i
    exact ⟨l, s, c, x, cells, h1, h2, h3, h4, h5, h6, by rw [upd_ne (fun z => h8 (by rw [z]; exact h))]; exact h7, h8, h9⟩
theorem MInv.mono {A : Addr → Prop} {u u' : Nat} {K : PySem.W.Frag} {H : Hp} (m : MInv A u K H) (h : u ≤ u') : MInv A u' K H := fun a v e i => by
  obtain ⟨l, s, c, x, cells, h1, h2, h3, h4, h5, h6, h7, h8, h9⟩ := m a v e i
  exact ⟨l, s, c, x, cells, h1, h2, h3, h4, h5, by omega, h7, h8, h9⟩
theorem MInv.less {A A' : Addr → Prop} {u : Nat} {K : PySem.W.Frag} {H : Hp} (m : MInv A u K H) (h : ∀ a, H a ≠ none → A' a → A a) : MInv A' u K H := fun a v e i => by
  obtain ⟨l, s, c, x, cells, h1, h2, h3, h4, h5, h6, h7, h8, h9⟩ := m a v e i
  exact ⟨l, s, c, x, cells, h1, h2, h3, h4, h5, h6, h7, fun z => h8 (h c (by rw [h7]; simp) z), h9⟩

/-- one's own new object is kept away too -/
def Aand (A : Addr → Prop) (p : Addr) : Addr → Prop := fun a => A a ∨ a = p
theorem MInv.newA {A : Addr → Prop} {u : Nat} {K : PySem.W.Frag} {H : Hp} {p : Addr} {o : HO} (m : MInv A u K H) (h : H p = none) (n : ¬ IsM o) : MInv (Aand A p) u K (upd H p o) := fun a v e i => by
  obtain ⟨l, s, c, x, cells, h1, h2, h3, h4, h5, h6, h7, h8, h9⟩ := m.new h n a v e i
  refine ⟨l, s, c, x, cells, h1, h2, h3, h4, h5, h6, h7, fun z => z.elim h8 fun z => ?_, h9⟩
  by_cases q : a = p
  · subst q; rw [upd_same] at e; cases e; exact n i
  · rw [upd_ne q] at e
    obtain ⟨l', s', c', x', cells', g1, g2, g3, g4, g5, g6, g7, g8, g9⟩ := m a v e i
    rw [h1] at g1
    simp only [MObj, HO.dK.injEq, List.cons.injEq, Prod.mk.injEq, V.ref.injEq, true_and] at g1
    rw [← g1.2.2.1, z, h] at g7
    cases g7
theorem MInv.un {A : Addr → Prop} {u : Nat} {K : PySem.W.Frag} {H : Hp} {p : Addr} (m : MInv (Aand A p) u K H) : MInv A u K H := m.less fun _ _ h => .inl h

/-! ### dicts -/
mutual
/-- hash of a key without texts -/
def kh : NestedKey → Int
  | .none => reduceHash 0xFCA86420
  | .num i => hashInt i
  | .text _ => 0
  | .tup ks => reduceHash (Builtin.Tuple.tupleHashOf (khs ks))
def khs : List NestedKey → List Int
  | [] => []
  | k :: ks => kh k :: khs ks
end
mutual
def noTx : NestedKey → Bool
  | .none | .num _ => true
  | .text _ => false
  | .tup ks => noTxs ks
def noTxs : List NestedKey → Bool
  | [] => true
  | k :: ks => noTx k && noTxs ks
end
/-- what may be asked of a key of a dict with tuples as keys -/
structure NkOk (k : NestedKey) : Prop where
  tx : noTx k = true
  dp : k.depth ≤ 8
  tu : ∃ ks, k = .tup ks
/-- a dict whose keys are tuples of ints and of such -/
def DxO (a : Addr) (xs : List (NestedKey × Addr × V)) : HO := .ext fun h => xs.length ≤ sizeLine ∧ (a == sysModules) = false ∧ (0 < xs.length ∧ ∀ p ∈ xs, NkOk p.1) ∧ ∃ ys : List (NestedKey × Addr × Value),
  Paired (fun (p : NestedKey × Addr × V) (q : NestedKey × Addr × Value) => p.1 = q.1 ∧ p.2.1 = q.2.1 ∧ RelV p.2.2 q.2.2) xs ys ∧
  ∃ o es ep, h.get? a = some o ∧ o.ExactDict ∧ o.data = .dict es ep ∧ es.toList = ys.map (fun x => (⟨kh x.1, .ref x.2.1, x.2.2⟩ : DictEntry)) ∧ (ys.map (·.1)).Nodup
def ikv (xs : List (Int × V)) : List (Key × V) := xs.map fun p => (.inl p.1, p.2)
abbrev xD (kvs : List (D × D)) : D := .dict ((.str "", .none) :: kvs)
/-- a range object -/
abbrev rngD (lo hi : Int) : D := .dict [(.str "r", .int lo), (.none, .int hi)]
def iks (xs : List (Int × V)) (vs : List D) : List (D × D) := (xs.map fun p => (.int p.1 : D)).zip vs
def nks (xs : List (NestedKey × Addr × V)) (vs : List D) : List (D × D) := (xs.map fun p => p.1.data).zip vs
theorem isM_ikv {xs : List (Int × V)} : ¬ IsM (.dK (ikv xs)) := by
  cases xs with
  | nil => exact fun m => m
  | cons p r => exact fun m => m
theorem isM_dx {a : Addr} {xs : List (NestedKey × Addr × V)} : ¬ IsM (DxO a xs) := fun m => m
/-! ### data in the heap, away from A -/
mutual
inductive Da (K : PySem.W.Frag) (A : Addr → Prop) (H : Hp) : V → D → Prop
  | non : Da K A H .non .none
  | bl (b : Bool) : Da K A H (.bl b) (.bool b)
  | int (i : Int) : Da K A H (.int i) (.int i)
  | str (x : Str) : Da K A H (.str x) (.str x)
  | lst {a : Addr} {xs : List V} {ds : List D} : H a = some (.lst xs) → ¬ A a → DaAll K A H xs ds → Da K A H (.ref a) (.list ds)
  | scr {a : Addr} {ns : List Int} : Rd H a (.lst (ns.map .int)) → ¬ A a → H a ≠ none → Da K A H (.ref a) (sD ns)
  | scrK {a : Addr} {ns : List Int} : SqL K (fun _ => none) a (ns.map .int) → Da K A H (.ref a) (sD ns)
  | tup {a : Addr} {xs : List V} {ds : List D} : H a = some (.tup xs) → ¬ A a → DaAll K A H xs ds → Da K A H (.ref a) (.tuple ds)
  | dct0 {a : Addr} : H a = some (.dK []) → ¬ A a → Da K A H (.ref a) (.dict [])
  | dctK {a : Addr} {o : Obj} {xs : List (Int × V)} {vs : List D} : H a = some (.frz o (.dK (ikv xs))) → ¬ A a → DaAll K A H (xs.map Prod.snd) vs → Da K A H (.ref a) (xD (iks xs vs))
  | dctN {a : Addr} {o : Obj} {xs : List (NestedKey × Addr × V)} {vs : List D} : H a = some (.frz o (DxO a xs)) → ¬ A a → DaAll K A H (xs.map fun p => .ref p.2.1) (xs.map fun p => p.1.data) → DaAll K A H (xs.map fun p => p.2.2) vs → Da K A H (.ref a) (xD (nks xs vs))
  | rng {a : Addr} {lo hi : Int} : H a = some (.rng lo hi) → ¬ A a → Da K A H (.ref a) (rngD lo hi)
  | mm {a : Addr} {o : HO} : H a = some o → IsM o → Da K A H (.ref a) mD
  | err (a : Addr) : Da K A H (.ref a) (eD a)
inductive DaAll (K : PySem.W.Frag) (A : Addr → Prop) (H : Hp) : List V → List D → Prop
  | nil : DaAll K A H [] []
  | cons {v : V} {vs : List V} {d : D} {ds : List D} : Da K A H v d → DaAll K A H vs ds → DaAll K A H (v :: vs) (d :: ds)
end
/-- what must hold of two places of time that data go over -/
structure Goes (A A' : Addr → Prop) (H H' : Hp) : Prop where
  keep : ∀ a o, ¬ A a → H a = some o → ¬ IsM o → H' a = some o
  ms : ∀ a o, H a = some o → IsM o → ∃ o', H' a = some o' ∧ IsM o'
  new : ∀ a, A' a → A a ∨ H a = none
theorem Goes.sql {K : PySem.W.Frag} {A A' : Addr → Prop} {H H' : Hp} (g : Goes A A' H H') {a : Addr} {xs : List V} (h : SqL K H a xs) (n : ¬ A a) : SqL K H' a xs := by
  rcases h with (h | ⟨o, h⟩) | h
  · exact .inl (.inl (g.keep _ _ n h (fun m => m)))
  · exact .inl (.inr ⟨o, g.keep _ _ n h (fun m => m)⟩)
  · exact .inr h
theorem Goes.rd {A A' : Addr → Prop} {H H' : Hp} (g : Goes A A' H H') {a : Addr} {xs : List V} (h : Rd H a (.lst xs)) (n : ¬ A a) : Rd H' a (.lst xs) := by
  rcases h with h | ⟨o, h⟩
  · exact .inl (g.keep _ _ n h (fun m => m))
  · exact .inr ⟨o, g.keep _ _ n h (fun m => m)⟩
theorem Goes.sqt {K : PySem.W.Frag} {A A' : Addr → Prop} {H H' : Hp} (g : Goes A A' H H') {a : Addr} {xs : List V} (h : SqT K H a xs) (n : ¬ A a) : SqT K H' a xs := by
  rcases h with (h | ⟨o, h⟩) | h
  · exact .inl (.inl (g.keep _ _ n h (fun m => m)))
  · exact .inl (.inr ⟨o, g.keep _ _ n h (fun m => m)⟩)
  · exact .inr h
theorem Goes.there {A A' : Addr → Prop} {H H' : Hp} (g : Goes A A' H H') {a : Addr} (n : ¬ A a) (h : H a ≠ none) : H' a ≠ none := by
  cases e : H a with
  | none => exact absurd e h
  | some o =>
    by_cases m : IsM o
    · obtain ⟨o', h', _⟩ := g.ms a o e m
      rw [h']; simp
    · rw [g.keep a o n e m]; simp
theorem Goes.notin {A A' : Addr → Prop} {H H' : Hp} (g : Goes A A' H H') {a : Addr} (n : ¬ A a) (h : H a ≠ none) : ¬ A' a := fun q => (g.new a q).elim n h
mutual
theorem Da.goes {K : PySem.W.Frag} {A A' : Addr → Prop} {H H' : Hp} (g : Goes A A' H H') : ∀ {v : V} {d : D}, Da K A H v d → Da K A' H' v d
  | _, _, .non => .non
  | _, _, .bl b => .bl b
  | _, _, .int i => .int i
  | _, _, .str x => .str x
  | _, _, .lst h n hs => .lst (g.keep _ _ n h (fun m => m)) (g.notin n (by rw [h]; simp)) (DaAll.goes g hs)
  | _, _, .scr h n t => .scr (g.rd h n) (g.notin n t) (g.there n t)
  | _, _, .scrK h => .scrK h
  | _, _, .tup h n hs => .tup (g.keep _ _ n h (fun m => m)) (g.notin n (by rw [h]; simp)) (DaAll.goes g hs)
  | _, _, .dct0 h n => .dct0 (g.keep _ _ n h (fun m => m)) (g.notin n (by rw [h]; simp))
  | _, _, .dctK h n hs => .dctK (g.keep _ _ n h (fun m => m)) (g.notin n (by rw [h]; simp)) (DaAll.goes g hs)
  | _, _, .dctN h n hk hs => .dctN (g.keep _ _ n h (fun m => m)) (g.notin n (by rw [h]; simp)) (DaAll.goes g hk) (DaAll.goes g hs)
  | _, _, .rng h n => .rng (g.keep _ _ n h (fun m => m)) (g.notin n (by rw [h]; simp))
  | _, _, .mm h m => let ⟨_, h', m'⟩ := g.ms _ _ h m; .mm h' m'
  | _, _, .err a => .err a
theorem DaAll.goes {K : PySem.W.Frag} {A A' : Addr → Prop} {H H' : Hp} (g : Goes A A' H H') : ∀ {vs : List V} {ds : List D}, DaAll K A H vs ds → DaAll K A' H' vs ds
  | _, _, .nil => .nil
  | _, _, .cons h t => .cons (Da.goes g h) (DaAll.goes g t)
end
theorem Step.goes {A : Addr → Prop} {H H' : Hp} (s : Step H H') : Goes A A H H' := ⟨fun a o _ h m => s.keep a o h m, s.ms, fun _ h => .inl h⟩
theorem goes_and {A : Addr → Prop} {H H' : Hp} {p : Addr} (s : Step H H') (h : H p = none) : Goes A (Aand A p) H H' :=
  ⟨fun a o _ h m => s.keep a o h m, s.ms, fun a q => q.elim .inl fun e => .inr (by rw [e]; exact h)⟩
theorem Goes.refl {A : Addr → Prop} {H : Hp} : Goes A A H H := (Step.refl H).goes
theorem Goes.less {A A' : Addr → Prop} {H : Hp} (h : ∀ a, A' a → A a) : Goes A A' H H := ⟨fun _ _ _ h _ => h, fun _ o h m => ⟨o, h, m⟩, fun a q => .inl (h a q)⟩
theorem Goes.trans {A A1 A2 : Addr → Prop} {H H1 H2 : Hp} (a : Goes A A1 H H1) (b : Goes A1 A2 H1 H2) : Goes A A2 H H2 where
  keep := fun x o n h m => b.keep x o (a.notin n (by rw [h]; simp)) (a.keep x o n h m) m
  ms := fun x o h m => let ⟨o1, h1, m1⟩ := a.ms x o h m; b.ms x o1 h1 m1
  new := fun x h => by
    rcases b.new x h with h | h
    · exact a.new x h
    · by_cases n : A x
      · exact .inl n
      · refine .inr ?_
        cases e : H x with
        | none => rfl
        | some o => exact absurd h (a.there n (by rw [e]; simp))
theorem DaAll.length {K : PySem.W.Frag} {A : Addr → Prop} {H : Hp} : ∀ {vs : List V} {ds : List D}, DaAll K A H vs ds → vs.length = ds.length
  | _, _, .nil => rfl
  | _, _, .cons _ t => congrArg (· + 1) t.length
theorem DaAll.get {K : PySem.W.Frag} {A : Addr → Prop} {H : Hp} : ∀ {vs : List V} {ds : List D} {i : Nat} {d : D}, DaAll K A H vs ds → ds[i]? = some d → ∃ v, vs[i]? = some v ∧ Da K A H v d
  | _, _, _, _, .nil, e => by simp at e
  | _, _, 0, _, .cons h _, e => by simp at e; subst e; exact ⟨_, rfl, h⟩
  | _, _, i + 1, d, .cons _ t, e => by
    obtain ⟨v, h1, h2⟩ := DaAll.get (i := i) (d := d) t (by simpa using e)
    exact ⟨v, by simpa using h1, h2⟩
theorem DaAll.get' {K : PySem.W.Frag} {A : Addr → Prop} {H : Hp} : ∀ {vs : List V} {ds : List D} {i : Nat} {v : V}, DaAll K A H vs ds → vs[i]? = some v → ∃ d, ds[i]? = some d ∧ Da K A H v d
  | _, _, _, _, .nil, e => by simp at e
  | _, _, 0, _, .cons h _, e => by simp at e; subst e; exact ⟨_, rfl, h⟩
  | _, _, i + 1, d, .cons _ t, e => by
    obtain ⟨v, h1, h2⟩ := DaAll.get' (i := i) (v := d) t (by simpa using e)
    exact ⟨v, by simpa using h1, h2⟩
theorem DaAll.append {K : PySem.W.Frag} {A : Addr → Prop} {H : Hp} : ∀ {vs ws : List V} {ds es : List D}, DaAll K A H vs ds → DaAll K A H ws es → DaAll K A H (vs ++ ws) (ds ++ es)
  | _, _, _, _, .nil, s => s
  | _, _, _, _, .cons h t, s => .cons h (t.append s)
theorem DaAll.take {K : PySem.W.Frag} {A : Addr → Prop} {H : Hp} : ∀ {vs : List V} {ds : List D} (n : Nat), DaAll K A H vs ds → DaAll K A H (vs.take n) (ds.take n)
  | _, _, 0, _ => .nil
  | _, _, _ + 1, .nil => .nil
  | _, _, n + 1, .cons h t => .cons h (t.take n)
theorem DaAll.drop {K : PySem.W.Frag} {A : Addr → Prop} {H : Hp} : ∀ {vs : List V} {ds : List D} (n : Nat), DaAll K A H vs ds → DaAll K A H (vs.drop n) (ds.drop n)
  | _, _, 0, h => h
  | _, _, _ + 1, .nil => .nil
  | _, _, n + 1, .cons _ t => t.drop n
theorem DaAll.set {K : PySem.W.Frag} {A : Addr → Prop} {H : Hp} {v : V} {d : D} (hv : Da K A H v d) : ∀ {vs : List V} {ds : List D} (i : Nat), DaAll K A H vs ds → DaAll K A H (vs.set i v) (ds.set i d)
  | _, _, _, .nil => .nil
  | _, _, 0, .cons _ t => .cons hv t
  | _, _, i + 1, .cons h t => .cons h (t.set hv i)
theorem DaAll.reverse {K : PySem.W.Frag} {A : Addr → Prop} {H : Hp} : ∀ {vs : List V} {ds : List D}, DaAll K A H vs ds → DaAll K A H vs.reverse ds.reverse
  | _, _, .nil => .nil
  | _, _, .cons h t => by
    rw [List.reverse_cons, List.reverse_cons]
    exact t.reverse.append (.cons h .nil)
theorem DaAll.ints {K : PySem.W.Frag} {A : Addr → Prop} {H : Hp} : ∀ (ns : List Int), DaAll K A H (ns.map .int) (ns.map .int)
  | [] => .nil
  | n :: r => .cons (.int n) (DaAll.ints r)
theorem DaAll.of_ints {K : PySem.W.Frag} {A : Addr → Prop} {H : Hp} : ∀ {ns : List Int} {vs : List V}, DaAll K A H vs (ns.map .int) → vs = ns.map .int
  | [], _, .nil => rfl
  | n :: r, _, .cons h t => by
    cases h
    rw [DaAll.of_ints t]
    rfl
theorem DaAll.of_bools {K : PySem.W.Frag} {A : Addr → Prop} {H : Hp} : ∀ {ns : List Bool} {vs : List V}, DaAll K A H vs (ns.map .bool) → vs = ns.map .bl
  | [], _, .nil => rfl
  | n :: r, _, .cons h t => by
    cases h
    rw [DaAll.of_bools t]
    rfl
/-! to the layer's own data -/
mutual
theorem Da.dp {K : PySem.W.Frag} {A : Addr → Prop} {H : Hp} : ∀ {v : V} {d : D}, Da K A H v d → d.canLay0 = true → Dp K H v d
  | _, _, .non, _ => .non
  | _, _, .bl b, _ => .bl b
  | _, _, .int i, _ => .int i
  | _, _, .str x, _ => .str x
  | _, _, .lst h _ hs, c => .lst (.inl (.inl h)) (DaAll.dp hs (by simpa [PyData.canLay0] using c))
  | _, _, .scr _ _ _, c => by simp [sD, PyData.canLay0] at c
  | _, _, .scrK _, c => by simp [sD, PyData.canLay0] at c
  | _, _, .tup h _ hs, c => .tup (.inl (.inl h)) (DaAll.dp hs (by simpa [PyData.canLay0] using c))
  | _, _, .dct0 _ _, c => by simp [PyData.canLay0] at c
  | _, _, .dctK _ _ _, c => by simp [PyData.canLay0] at c
  | _, _, .dctN _ _ _ _, c => by simp [PyData.canLay0] at c
  | _, _, .rng _ _, c => by simp [PyData.canLay0] at c
  | _, _, .mm _ _, c => by simp [PyData.canLay0] at c
  | _, _, .err _, c => by simp [eD, PyData.canLay0] at c
theorem DaAll.dp {K : PySem.W.Frag} {A : Addr → Prop} {H : Hp} : ∀ {vs : List V} {ds : List D}, DaAll K A H vs ds → PyData.canLayAll0 ds = true → DpAll K H vs ds
  | _, _, .nil, _ => .nil
  | _, _, .cons h t, c => by
    simp only [PyData.canLayAll0, Bool.and_eq_true] at c
    exact .cons (Da.dp h c.1) (DaAll.dp t c.2)
end
theorem Da.scrD {K : PySem.W.Frag} {A : Addr → Prop} {H : Hp} {v : V} {ns : List Int} (h : Da K A H v (sD ns)) : ∃ a, v = .ref a ∧ SqL K H a (ns.map .int) := by
  generalize e : sD ns = d at h
  cases h with
  | scr h n t =>
    rename_i a ms
    have e2 : ns = ms := by
      simp only [sD, PyData.dict.injEq, List.cons.injEq, true_and] at e
      have e3 := congrArg (List.map fun p : D × D => match p.2 with | .int i => i | _ => 0) e
      simpa [Function.comp_def] using e3
    subst e2
    exact ⟨_, rfl, .inl h⟩
  | scrK h =>
    rename_i a ms
    have e2 : ns = ms := by
      simp only [sD, PyData.dict.injEq, List.cons.injEq, true_and] at e
      have e3 := congrArg (List.map fun p : D × D => match p.2 with | .int i => i | _ => 0) e
      simpa [Function.comp_def] using e3
    subst e2
    refine ⟨_, rfl, ?_⟩
    rcases h with (h | ⟨o, h⟩) | h
    · cases h
    · cases h
    · exact .inr h
  | dct0 => simp [sD] at e
  | mm => simp [sD, mD] at e
  | err => simp [sD, eD] at e
  | rng => simp [sD, rngD] at e
  | dctK => simp [sD, xD] at e
  | dctN => simp [sD, xD] at e
  | _ => simp [sD] at e
/-- borrowed: its own node may be one that changes later -/
inductive Db (K : PySem.W.Frag) (N A : Addr → Prop) (H : Hp) : V → D → Prop
  | da {v : V} {d : D} : Da K A H v d → Db K N A H v d
  | lst {a : Addr} {xs : List V} {ds : List D} : H a = some (.lst xs) → ¬ N a → DaAll K A H xs ds → Db K N A H (.ref a) (.list ds)
theorem Db.lists {K : PySem.W.Frag} {N A : Addr → Prop} {H : Hp} {v : V} {ds : List D} (h : Db K N A H v (.list ds)) : ∃ a xs, v = .ref a ∧ H a = some (.lst xs) ∧ DaAll K A H xs ds := by
  cases h with
  | da h => cases h with | lst h1 _ h2 => exact ⟨_, _, rfl, h1, h2⟩
  | lst h1 _ h2 => exact ⟨_, _, rfl, h1, h2⟩
theorem Db.tuples {K : PySem.W.Frag} {N A : Addr → Prop} {H : Hp} {v : V} {ds : List D} (h : Db K N A H v (.tuple ds)) : ∃ a xs, v = .ref a ∧ H a = some (.tup xs) ∧ ¬ A a ∧ DaAll K A H xs ds := by
  cases h with
  | da h => cases h with | tup h1 h3 h2 => exact ⟨_, _, rfl, h1, h3, h2⟩
theorem Db.ints {K : PySem.W.Frag} {N A : Addr → Prop} {H : Hp} {v : V} {i : Int} (h : Db K N A H v (.int i)) : v = .int i := by
  cases h with
  | da h => cases h; rfl
theorem Db.bools {K : PySem.W.Frag} {N A : Addr → Prop} {H : Hp} {v : V} {i : Bool} (h : Db K N A H v (.bool i)) : v = .bl i := by
  cases h with
  | da h => cases h; rfl
theorem Db.strs {K : PySem.W.Frag} {N A : Addr → Prop} {H : Hp} {v : V} {i : Str} (h : Db K N A H v (.str i)) : v = .str i := by
  cases h with
  | da h => cases h; rfl
theorem Db.step {K : PySem.W.Frag} {N A : Addr → Prop} {H H' : Hp} (s : Step H H') {v : V} {d : D} (h : Db K N A H v d) : Db K N A H' v d := by
  cases h with
  | da h => exact .da (h.goes s.goes)
  | lst h1 h2 h4 => exact .lst (s.keep _ _ h1 (fun m => m)) h2 (h4.goes s.goes)
theorem Db.dp {K : PySem.W.Frag} {N A : Addr → Prop} {H : Hp} {v : V} {d : D} (h : Db K N A H v d) (c : d.canLay0 = true) : Dp K H v d := by
  cases h with
  | da h => exact h.dp c
  | lst h1 _ h4 => exact .lst (.inl (.inl h1)) (h4.dp (by simpa [PyData.canLay0] using c))
/-- seen from the caller -/
theorem Db.out {K : PySem.W.Frag} {N A : Addr → Prop} {H : Hp} {v : V} {d : D} (h : Db K N A H v d) (na : ∀ a, N a → A a) : Da K N H v d := by
  cases h with
  | da h => exact h.goes (.less na)
  | lst h1 h2 h4 => exact .lst h1 h2 (h4.goes (.less na))

/-! ### slots by data -/
/-- what may be read of a dict -/
def DicR (K : PySem.W.Frag) (A : Addr → Prop) (H : Hp) (a : Addr) (kvs : List (D × D)) : Prop :=
  (∃ (xs : List (Int × V)) (vs : List D), Rd H a (.dK (ikv xs)) ∧ DaAll K A H (xs.map Prod.snd) vs ∧ kvs = iks xs vs) ∨
  ∃ (xs : List (NestedKey × Addr × V)) (vs : List D), Rd H a (DxO a xs) ∧ DaAll K A H (xs.map fun p => .ref p.2.1) (xs.map fun p => p.1.data) ∧ DaAll K A H (xs.map fun p => p.2.2) vs ∧ kvs = nks xs vs
/-- a dict of one's own -/
def DicW (K : PySem.W.Frag) (A : Addr → Prop) (H : Hp) (a : Addr) (kvs : List (D × D)) : Prop :=
  (∃ (xs : List (Int × V)) (vs : List D), H a = some (.dK (ikv xs)) ∧ DaAll K A H (xs.map Prod.snd) vs ∧ kvs = iks xs vs) ∨
  ∃ (xs : List (NestedKey × Addr × V)) (vs : List D), H a = some (DxO a xs) ∧ DaAll K A H (xs.map fun p => .ref p.2.1) (xs.map fun p => p.1.data) ∧ DaAll K A H (xs.map fun p => p.2.2) vs ∧ kvs = nks xs vs
/-- what changes in its place: a list, a dict -/
inductive OC where
  | lst (xs : List D)
  | dic (kvs : List (D × D))
def OwnAt (K : PySem.W.Frag) (A : Addr → Prop) (H : Hp) (a : Addr) : OC → Prop
  | .lst xs => ∃ vs, H a = some (.lst vs) ∧ DaAll K A H vs xs
  | .dic kvs => DicW K A H a kvs
theorem DicW.rd {K : PySem.W.Frag} {A : Addr → Prop} {H : Hp} {a : Addr} {kvs : List (D × D)} (h : DicW K A H a kvs) : DicR K A H a kvs := by
  rcases h with ⟨xs, vs, h1, h2⟩ | ⟨xs, vs, h1, h2⟩
  · exact .inl ⟨xs, vs, .inl h1, h2⟩
  · exact .inr ⟨xs, vs, .inl h1, h2⟩
theorem OwnAt.some {K : PySem.W.Frag} {A : Addr → Prop} {H : Hp} {a : Addr} {c : OC} (h : OwnAt K A H a c) : ∃ o, H a = some o ∧ ¬ IsM o := by
  cases c with
  | lst xs => obtain ⟨vs, h, _⟩ := h; exact ⟨_, h, fun m => m⟩
  | dic kvs =>
    rcases h with ⟨xs, vs, h, _⟩ | ⟨xs, vs, h, _⟩
    · exact ⟨_, h, isM_ikv⟩
    · exact ⟨_, h, isM_dx⟩
theorem OwnAt.ne {K : PySem.W.Frag} {A : Addr → Prop} {H : Hp} {a : Addr} {c : OC} (h : OwnAt K A H a c) : H a ≠ none := by
  obtain ⟨o, e, _⟩ := h.some
  rw [e]; simp
theorem OwnAt.go {K : PySem.W.Frag} {A A' : Addr → Prop} {H H' : Hp} {a : Addr} {c : OC} (g : Goes A A' H H') (k : ∀ o, H a = Option.some o → ¬ IsM o → H' a = Option.some o) (h : OwnAt K A H a c) : OwnAt K A' H' a c := by
  cases c with
  | lst xs => obtain ⟨vs, h1, h2⟩ := h; exact ⟨vs, k _ h1 (fun m => m), h2.goes g⟩
  | dic kvs =>
    rcases h with ⟨xs, vs, h1, h2, h3⟩ | ⟨xs, vs, h1, h2, h3, h4⟩
    · exact .inl ⟨xs, vs, k _ h1 isM_ikv, h2.goes g, h3⟩
    · exact .inr ⟨xs, vs, k _ h1 isM_dx, h2.goes g, h3.goes g, h4⟩
theorem OwnAt.step {K : PySem.W.Frag} {A : Addr → Prop} {H H' : Hp} {a : Addr} {c : OC} (s : Step H H') (h : OwnAt K A H a c) : OwnAt K A H' a c := h.go s.goes fun o e m => s.keep a o e m
theorem DicR.goes {K : PySem.W.Frag} {A A' : Addr → Prop} {H H' : Hp} {a : Addr} {kvs : List (D × D)} (g : Goes A A' H H') (k : ∀ o, H a = some o → ¬ IsM o → H' a = some o) (h : DicR K A H a kvs) : DicR K A' H' a kvs := by
  have rd : ∀ u : HO, ¬ IsM u → Rd H a u → Rd H' a u := fun u n h => by
    rcases h with h | ⟨o, h⟩
    · exact .inl (k _ h n)
    · exact .inr ⟨o, k _ h (fun m => m)⟩
  rcases h with ⟨xs, vs, h1, h2, h3⟩ | ⟨xs, vs, h1, h2, h3, h4⟩
  · exact .inl ⟨xs, vs, rd _ isM_ikv h1, h2.goes g, h3⟩
  · exact .inr ⟨xs, vs, rd _ isM_dx h1, h2.goes g, h3.goes g, h4⟩
theorem DicR.step {K : PySem.W.Frag} {A : Addr → Prop} {H H' : Hp} {a : Addr} {kvs : List (D × D)} (s : Step H H') (h : DicR K A H a kvs) : DicR K A H' a kvs := h.goes s.goes fun o e m => s.keep a o e m
theorem Da.dicR {K : PySem.W.Frag} {A : Addr → Prop} {H : Hp} {v : V} {kvs : List (D × D)} (h : Da K A H v (xD kvs)) : ∃ a, v = .ref a ∧ DicR K A H a kvs := by
  generalize e : xD kvs = d at h
  cases h with
  | dctK h1 h2 h3 => cases e; exact ⟨_, rfl, .inl ⟨_, _, .inr ⟨_, h1⟩, h3, rfl⟩⟩
  | dctN h1 h2 h3 h4 => cases e; exact ⟨_, rfl, .inr ⟨_, _, .inr ⟨_, h1⟩, h3, h4, rfl⟩⟩
  | rng => simp [xD, rngD] at e
  | _ => simp [xD, sD, eD, mD] at e
inductive SV where
  | d (x : D)
  /-- what is one's own, which changes in its place -/
  | ob (c : OC)
abbrev SV.own (xs : List D) : SV := .ob (.lst xs)
abbrev SV.dic (kvs : List (D × D)) : SV := .ob (.dic kvs)
abbrev Rho := List (Option SV)
@[simp] def SV.val : SV → D
  | .d x => x
  | .ob (.lst xs) => .list xs
  | .ob (.dic kvs) => xD kvs
/-- the slots tell the data; N: the callers' lists that change, A: these and one's own -/
structure Rel (K : PySem.W.Frag) (N A : Addr → Prop) (H0 : Hp) (σ : L2.St) (H : Hp) (ρ : Rho) (u : Nat) : Prop where
  len : ρ.length = σ.length
  step : Step H0 H
  minv : MInv A u K H
  sub : ∀ a, N a → A a
  trk : ∀ a, A a → H a ≠ none
  ntrk : ∀ a, N a → H0 a ≠ none
  dat : ∀ (i : Nat) (x : D), ρ[i]? = some (some (SV.d x)) → ∃ v, σ[i]? = some (some v) ∧ Da K A H v x
  ob : ∀ (i : Nat) (c : OC), ρ[i]? = some (some (SV.ob c)) → ∃ a, σ[i]? = some (some (V.ref a)) ∧ OwnAt K A H a c ∧ A a ∧ H0 a = none
  dis : ∀ (i j : Nat) (c e : OC) (a : Addr), ρ[i]? = some (some (SV.ob c)) → ρ[j]? = some (some (SV.ob e)) → σ[i]? = some (some (V.ref a)) → σ[j]? = some (some (V.ref a)) → i = j
theorem Rel.own {K : PySem.W.Frag} {N A : Addr → Prop} {H0 : Hp} {σ : L2.St} {H : Hp} {ρ : Rho} {u : Nat} (R : Rel K N A H0 σ H ρ u) (i : Nat) (xs : List D) (h : ρ[i]? = some (some (SV.own xs))) : ∃ a vs, σ[i]? = some (some (V.ref a)) ∧ H a = some (.lst vs) ∧ DaAll K A H vs xs ∧ A a ∧ H0 a = none := by
  obtain ⟨a, h1, ⟨vs, h2, h3⟩, h4⟩ := R.ob i _ h
  exact ⟨a, vs, h1, h2, h3, h4⟩
section
variable {K : PySem.W.Frag} {N A : Addr → Prop} {H0 H H' : Hp} {σ : L2.St} {ρ : Rho} {u u' : Nat}
theorem Rel.go (R : Rel K N A H0 σ H ρ u) (s : Step H H') (m : MInv A u' K H') : Rel K N A H0 σ H' ρ u' where
  len := R.len
  step := R.step.trans s
  minv := m
  sub := R.sub
  trk := fun a h => s.there (R.trk a h)
  ntrk := R.ntrk
  dat := fun i x e => let ⟨v, h1, h2⟩ := R.dat i x e; ⟨v, h1, h2.goes s.goes⟩
  ob := fun i c e => let ⟨a, h1, h2, h4, h5⟩ := R.ob i c e; ⟨a, h1, h2.step s, h4, h5⟩
  dis := R.dis
theorem Rel.fresh (R : Rel K N A H0 σ H ρ u) {p : Addr} (h : H p = none) : ¬ A p := fun q => R.trk p q h
/-- a slot's value, borrowed -/
theorem Rel.val (R : Rel K N A H0 σ H ρ u) {i : Nat} {s : SV} (e : ρ[i]? = some (some s)) (n : ∀ kvs, s ≠ .dic kvs) : ∃ v, σ[i]? = some (some v) ∧ Db K N A H v s.val := by
  cases s with
  | d x =>
    obtain ⟨v, h1, h2⟩ := R.dat i x e
    exact ⟨v, h1, .da h2⟩
  | ob c =>
    cases c with
    | lst xs =>
      obtain ⟨a, vs, h1, h2, h3, h4, h5⟩ := R.own i xs e
      exact ⟨.ref a, h1, .lst h2 (fun n => R.ntrk a n h5) h3⟩
    | dic kvs => exact absurd rfl (n kvs)
/-- a slot is given data -/
theorem Rel.setD (R : Rel K N A H0 σ H ρ u) {i : Nat} {v : V} {x : D} (h : Da K A H v x) : Rel K N A H0 (σ.set i (some v)) H (ρ.set i (some (SV.d x))) u where
  len := by rw [List.length_set, List.length_set]; exact R.len
  step := R.step
  minv := R.minv
  sub := R.sub
  trk := R.trk
  ntrk := R.ntrk
  dat := fun j y e => by
    by_cases q : i = j
    · subst q
      by_cases hl : i < ρ.length
      · rw [List.getElem?_set_self hl] at e
        have e' : x = y := by simpa using e
        subst e'
        exact ⟨v, List.getElem?_set_self (by rw [← R.len]; exact hl), h⟩
      · rw [List.getElem?_eq_none (by rw [List.length_set]; omega)] at e; cases e
    · rw [List.getElem?_set_ne q] at e ⊢
      exact R.dat j y e
  ob := fun j y e => by
    by_cases q : i = j
    · subst q
      by_cases hl : i < ρ.length
      · rw [List.getElem?_set_self hl] at e; simp at e
      · rw [List.getElem?_eq_none (by rw [List.length_set]; omega)] at e; cases e
    · rw [List.getElem?_set_ne q] at e ⊢
      exact R.ob j y e
  dis := fun j k xs ys a e1 e2 s1 s2 => by
    by_cases q : i = j
    · subst q
      by_cases hl : i < ρ.length
      · rw [List.getElem?_set_self hl] at e1; simp at e1
      · rw [List.getElem?_eq_none (by rw [List.length_set]; omega)] at e1; cases e1
    · by_cases q2 : i = k
      · subst q2
        by_cases hl : i < ρ.length
        · rw [List.getElem?_set_self hl] at e2; simp at e2
        · rw [List.getElem?_eq_none (by rw [List.length_set]; omega)] at e2; cases e2
      · rw [List.getElem?_set_ne q] at e1 s1
        rw [List.getElem?_set_ne q2] at e2 s2
        exact R.dis j k xs ys a e1 e2 s1 s2
end
end DW

set_option Elab.async false
set_option linter.all false
set_option maxRecDepth 100000
set_option maxHeartbeats 2000000
namespace DW
open PySem PySem.Spec PyProof.Rows L2

/-! ### judgements over data -/
abbrev WE := Rho → Nat → (D → Nat → Prop) → Prop
abbrev WT := Rho → Nat → (Bool → Nat → Prop) → Prop
abbrev WA := Rho → Nat → (List D → Nat → Prop) → Prop

section
variable {X : Cx}
theorem PEi {e : Expr} {t t' : TE} (h : PE X e t) (k : ∀ σ H Q, t' σ H Q → t σ H Q) : PE X e t' := ⟨fun pins s σ H Q I q => h.run pins s σ H Q I (k _ _ _ q)⟩
theorem PTi {e : Expr} {t t' : TT} (h : PT X e t) (k : ∀ σ H Q, t' σ H Q → t σ H Q) : PT X e t' := ⟨fun pins s σ H Q I q => h.run pins s σ H Q I (k _ _ _ q)⟩
theorem PWi {e : Expr} {t t' : TT} (h : PW X e t) (k : ∀ σ H Q, t' σ H Q → t σ H Q) : PW X e t' := ⟨fun wh pins s σ H Q I q => h.run wh pins s σ H Q I (k _ _ _ q)⟩
theorem PAi {es : List Expr} {t t' : TA} (h : PA X es t) (k : ∀ σ H Q, t' σ H Q → t σ H Q) : PA X es t' := ⟨fun p pins s σ H Q I q => h.run p pins s σ H Q I (k _ _ _ q)⟩
theorem PSi {st : Stmt} {t t' : TS} (h : PS X st t) (k : ∀ E σ H, t' E σ H → t E σ H) : PS X st t' := ⟨fun pins s σ H E I q => h.run pins s σ H E I (k _ _ _ q)⟩
theorem PSsi {st : List Stmt} {t t' : TS} (h : PSs X st t) (k : ∀ E σ H, t' E σ H → t E σ H) : PSs X st t' := ⟨fun pins s σ H E I q => h.run pins s σ H E I (k _ _ _ q)⟩
end

/-- the value, free of one's own lists -/
def tD (K : PySem.W.Frag) (w : WE) : TE := fun σ H Q => ∃ (N A : Addr → Prop) (H0 : Hp) (ρ : Rho) (u : Nat) (Qd : D → Nat → Prop), Rel K N A H0 σ H ρ u ∧ w ρ u Qd ∧
  ∀ v H' d u', Step H H' → MInv A u' K H' → Da K A H' v d → Qd d u' → Q v H'
/-- the value, borrowed -/
def tBo (K : PySem.W.Frag) (w : WE) : TE := fun σ H Q => ∃ (N A : Addr → Prop) (H0 : Hp) (ρ : Rho) (u : Nat) (Qd : D → Nat → Prop), Rel K N A H0 σ H ρ u ∧ w ρ u Qd ∧
  ∀ v H' d u', Step H H' → MInv A u' K H' → Db K N A H' v d → Qd d u' → Q v H'
/-- a new list -/
def tF (K : PySem.W.Frag) (w : WA) : TE := fun σ H Q => ∃ (N A : Addr → Prop) (H0 : Hp) (ρ : Rho) (u : Nat) (Qd : List D → Nat → Prop), Rel K N A H0 σ H ρ u ∧ w ρ u Qd ∧
  ∀ p vs H' ds u', Step H H' → MInv (Aand A p) u' K H' → H p = none → H' p = some (.lst vs) → DaAll K (Aand A p) H' vs ds → Qd ds u' → Q (.ref p) H'
/-- a test -/
def tTe (K : PySem.W.Frag) (w : WT) : TT := fun σ H Q => ∃ (N A : Addr → Prop) (H0 : Hp) (ρ : Rho) (u : Nat) (Qd : Bool → Nat → Prop), Rel K N A H0 σ H ρ u ∧ w ρ u Qd ∧
  ∀ b H' u', Step H H' → MInv A u' K H' → Qd b u' → Q b H'
/-- arguments -/
def tAr (K : PySem.W.Frag) (w : WA) : TA := fun σ H Q => ∃ (N A : Addr → Prop) (H0 : Hp) (ρ : Rho) (u : Nat) (Qd : List D → Nat → Prop), Rel K N A H0 σ H ρ u ∧ w ρ u Qd ∧
  ∀ vs H' ds u', Step H H' → MInv A u' K H' → DaAll K A H' vs ds → Qd ds u' → Q vs H'
inductive DbAll (K : PySem.W.Frag) (N A : Addr → Prop) (H : Hp) : List V → List D → Prop
  | nil : DbAll K N A H [] []
  | cons {v : V} {vs : List V} {d : D} {ds : List D} : Db K N A H v d → DbAll K N A H vs ds → DbAll K N A H (v :: vs) (d :: ds)
theorem DbAll.step {K : PySem.W.Frag} {N A : Addr → Prop} {H H' : Hp} (s : Step H H') : ∀ {vs : List V} {ds : List D}, DbAll K N A H vs ds → DbAll K N A H' vs ds
  | _, _, .nil => .nil
  | _, _, .cons h t => .cons (h.step s) (t.step s)
/-- arguments, borrowed -/
def tAb (K : PySem.W.Frag) (w : WA) : TA := fun σ H Q => ∃ (N A : Addr → Prop) (H0 : Hp) (ρ : Rho) (u : Nat) (Qd : List D → Nat → Prop), Rel K N A H0 σ H ρ u ∧ w ρ u Qd ∧
  ∀ vs H' ds u', Step H H' → MInv A u' K H' → DbAll K N A H' vs ds → Qd ds u' → Q vs H'

/-- statements: ends over data -/
structure DE where
  nx : Rho → Nat → Prop
  rt : D → Nat → Prop
  bk : Rho → Nat → Prop := fun _ _ => False
  ct : Rho → Nat → Prop := fun _ _ => False
  ex : Value → Nat → Prop := fun _ _ => False
abbrev WS := DE → Rho → Nat → Prop
/-- with what may be let out -/
def tSx (K : PySem.W.Frag) (W : XK) (w : WS) : TS := fun E σ H => ∃ (N A : Addr → Prop) (H0 : Hp) (ρ : Rho) (u : Nat) (F : DE), Rel K N A H0 σ H ρ u ∧ w F ρ u ∧
  (∀ A' σ' H' ρ' u', Goes A A' H H' → Rel K N A' H0 σ' H' ρ' u' → F.nx ρ' u' → E.nx σ' H') ∧
  (∀ v H' d u', Step H0 H' → MInv N u' K H' → Da K N H' v d → F.rt d u' → E.rt v H') ∧
  (∀ A' σ' H' ρ' u', Goes A A' H H' → Rel K N A' H0 σ' H' ρ' u' → F.bk ρ' u' → E.bk σ' H') ∧
  (∀ A' σ' H' ρ' u', Goes A A' H H' → Rel K N A' H0 σ' H' ρ' u' → F.ct ρ' u' → E.ct σ' H') ∧
  (∀ c H' u', Step H0 H' → MInv N u' K H' → F.ex c u' → W c none H')
abbrev tSt (K : PySem.W.Frag) (w : WS) : TS := tSx K (fun _ _ _ => False) w

section
variable {X : Cx} {K : PySem.W.Frag}
theorem pb {e : Expr} {w : WE} (h : PE X e (tD K w)) : PE X e (tBo K w) := PEi h fun σ H Q ⟨N, A, H0, ρ, u, Qd, R, hw, k⟩ =>
  ⟨N, A, H0, ρ, u, Qd, R, hw, fun v H' d u' s m h q => k v H' d u' s m (.da h) q⟩
/-- a new list as a value -/
theorem pf {e : Expr} {w : WA} (h : PE X e (tF K w)) : PE X e (tD K fun ρ u Q => w ρ u fun ds u' => Q (.list ds) u') := PEi h fun σ H Q ⟨N, A, H0, ρ, u, Qd, R, hw, k⟩ =>
  ⟨N, A, H0, ρ, u, fun ds u' => Qd (.list ds) u', R, hw, fun p vs H' ds u' s m hp hq ha q => k (.ref p) H' (.list ds) u' s m.un (.lst hq (R.fresh hp) (ha.goes (.less fun a h => .inl h))) q⟩

/-! ### names, constants -/
@[simp] def isDic : SV → Bool
  | .ob (.dic _) => true
  | _ => false
theorem isDic_no {s : SV} (h : isDic s = false) : ∀ kvs, s ≠ .dic kvs := fun kvs e => by subst e; simp at h
@[simp] def wVar (i : Nat) : WE := fun ρ u Q => ∃ s, ρ[i]? = some (some s) ∧ isDic s = false ∧ Q s.val u
@[simp] def wVarD (i : Nat) : WE := fun ρ u Q => ∃ x, ρ[i]? = some (some (SV.d x)) ∧ Q x u
@[simp] def wC (d : D) : WE := fun _ u Q => Q d u
theorem pnB {i : Nat} {e : Expr} (h : PE X e (tVar i)) : PE X e (tBo K (wVar i)) := PEi h fun σ H Q ⟨N, A, H0, ρ, u, Qd, R, ⟨s, e, nd, hw⟩, k⟩ => by
  obtain ⟨v, h1, h2⟩ := R.val e (isDic_no nd)
  exact ⟨v, h1, k v H _ u (Step.refl H) R.minv h2 hw⟩
theorem pnD {i : Nat} {e : Expr} (h : PE X e (tVar i)) : PE X e (tD K (wVarD i)) := PEi h fun σ H Q ⟨N, A, H0, ρ, u, Qd, R, ⟨x, e, hw⟩, k⟩ => by
  obtain ⟨v, h1, h2⟩ := R.dat i x e
  exact ⟨v, h1, k v H _ u (Step.refl H) R.minv h2 hw⟩
theorem pcI {e : Expr} {i : Int} (h : PE X e (tC (.int i))) : PE X e (tD K (wC (.int i))) := PEi h fun σ H Q ⟨N, A, H0, ρ, u, Qd, R, hw, k⟩ => k _ H _ u (Step.refl H) R.minv (.int i) hw
theorem pcS {e : Expr} {i : Str} (h : PE X e (tC (.str i))) : PE X e (tD K (wC (.str i))) := PEi h fun σ H Q ⟨N, A, H0, ρ, u, Qd, R, hw, k⟩ => k _ H _ u (Step.refl H) R.minv (.str i) hw
theorem pcB {e : Expr} {i : Bool} (h : PE X e (tC (.bl i))) : PE X e (tD K (wC (.bool i))) := PEi h fun σ H Q ⟨N, A, H0, ρ, u, Qd, R, hw, k⟩ => k _ H _ u (Step.refl H) R.minv (.bl i) hw
theorem pcN {e : Expr} (h : PE X e (tC .non)) : PE X e (tD K (wC .none)) := PEi h fun σ H Q ⟨N, A, H0, ρ, u, Qd, R, hw, k⟩ => k _ H _ u (Step.refl H) R.minv .non hw

/-! ### two operands -/
/-- an operation over data: what it asks and gives (no own lists among what it gives) -/
def OpD (K : PySem.W.Frag) (r : R2) (f : D → D → (D → Prop) → Prop) : Prop :=
  ∀ (N A : Addr → Prop) (H : Hp) (x y : V) (c d : D) (Q : VK) (Qd : D → Prop) (u : Nat), (∀ p, H p = none → ¬ A p) → MInv A u K H → Db K N A H x c → Db K N A H y d → f c d Qd → (∀ v H' z, Step H H' → MInv A u K H' → Da K A H' v z → Qd z → Q v H') → r x y H Q
@[simp] def w2 (f : D → D → (D → Prop) → Prop) (wa wb : WE) : WE := fun ρ u Q => wa ρ u fun c u1 => wb ρ u1 fun d u2 => f c d fun z => Q z u2
theorem tOp_of {r : R2} {f : D → D → (D → Prop) → Prop} (o : OpD K r f) {wa wb : WE} : ∀ σ H Q, tD K (w2 f wa wb) σ H Q → tOp r (tBo K wa) (tBo K wb) σ H Q := fun σ H Q ⟨N, A, H0, ρ, u, Qd, R, hw, k⟩ =>
  ⟨N, A, H0, ρ, u, _, R, hw, fun x H1 c u1 s1 m1 hx q1 => ⟨N, A, H0, ρ, u1, _, R.go s1 m1, q1, fun y H2 d u2 s2 m2 hy q2 =>
    o N A H2 x y c d Q _ u2 (fun p hp => R.fresh ((s1.trans s2).fresh hp)) m2 (hx.step s2) hy q2 fun v H3 z s3 m3 hv qz => k v H3 z u2 ((s1.trans s2).trans s3) m3 hv qz⟩⟩
theorem p2 {r : R2} {f : D → D → (D → Prop) → Prop} {e a b : Expr} {wa wb : WE} (o : OpD K r f) (h : PE X e (tOp r (tBo K wa) (tBo K wb))) : PE X e (tD K (w2 f wa wb)) := PEi h (tOp_of o)
theorem pBin {op : Operator} {r : R2} {f : D → D → (D → Prop) → Prop} {a b : Expr} {pos : Pos} {wa wb : WE} (ho : OpR X (binaryOp op) r) (o : OpD K r f) (ha : PE X a (tBo K wa)) (hb : PE X b (tBo K wb)) : PE X (.BinOp a op b pos) (tD K (w2 f wa wb)) := PEi (pe_op ho ha hb) (tOp_of o)
theorem pCmp {op : CmpOp} {r : R2} {f : D → D → (D → Prop) → Prop} {a b : Expr} {pos : Pos} {wa wb : WE} (ho : OpR X (compareOp op) r) (o : OpD K r f) (ha : PE X a (tBo K wa)) (hb : PE X b (tBo K wb)) (hm : behindInMarks op b = false) : PE X (.Compare a [op] [b] pos) (tD K (w2 f wa wb)) := PEi (pe_cmpR ho ha hb hm) (tOp_of o)
/-- the same as a test -/
@[simp] def wTst (w : WE) : WT := fun ρ u Q => w ρ u fun d u' => ∃ b, d = .bool b ∧ Q b u'
theorem pT {e : Expr} {w : WE} (h : PE X e (tD K w)) (hv : ∀ t, PE X e t → PT X e (tB t)) : PT X e (tTe K (wTst w)) := PTi (hv _ h) fun σ H Q ⟨N, A, H0, ρ, u, Qd, R, hw, k⟩ =>
  ⟨N, A, H0, ρ, u, _, R, hw, fun v H' d u' s m hd ⟨b, e, q⟩ => ⟨b, by subst e; cases hd; rfl, k b H' u' s m q⟩⟩
theorem pTc {op : CmpOp} {r : R2} {f : D → D → (D → Prop) → Prop} {a b : Expr} {pos : Pos} {wa wb : WE} (ho : OpR X (compareOp op) r) (o : OpD K r f) (ha : PE X a (tBo K wa)) (hb : PE X b (tBo K wb)) (hm : behindInMarks op b = false) : PT X (.Compare a [op] [b] pos) (tTe K (wTst (w2 f wa wb))) :=
  PTi (pt_cmpR ho ha hb hm) fun σ H Q ⟨N, A, H0, ρ, u, Qd, R, hw, k⟩ => tOp_of o σ H _ ⟨N, A, H0, ρ, u, _, R, hw, fun v H' d u' s m hd ⟨b, e, q⟩ => ⟨b, by subst e; cases hd; rfl, k b H' u' s m q⟩⟩

/-! the operations -/
@[simp] def fAdd : D → D → (D → Prop) → Prop
  | .int i, .int j, Q => Q (.int (i + j))
  | .list xs, .list ys, Q => xs.length + ys.length ≤ 100000 ∧ Q (.list (xs ++ ys))
  | .tuple xs, .tuple ys, Q => xs.length + ys.length ≤ 100000 ∧ Q (.tuple (xs ++ ys))
  | _, _, _ => False
@[simp] def fII (g : Int → Int → D) (C : Int → Int → Prop) : D → D → (D → Prop) → Prop
  | .int i, .int j, Q => C i j ∧ Q (g i j)
  | _, _, _ => False
@[simp] def fI0 (g : Int → Int → D) : D → D → (D → Prop) → Prop
  | .int i, .int j, Q => Q (g i j)
  | _, _, _ => False
theorem od_II {C : Int → Int → Prop} {g : Int → Int → Int} : OpD K (rI C fun i j => .int (g i j)) (fII (fun i j => .int (g i j)) C) := fun N A H x y c d Q Qd u hf hm hx hy h k => by
  cases c <;> cases d <;> try exact h.elim
  rw [hx.ints, hy.ints]
  exact ⟨_, _, rfl, rfl, h.1, k _ H _ (Step.refl H) hm (.int _) h.2⟩
theorem od_I0 {g : Int → Int → Int} : OpD K (rI0 fun i j => .int (g i j)) (fI0 fun i j => .int (g i j)) := fun N A H x y c d Q Qd u hf hm hx hy h k => by
  cases c <;> cases d <;> try exact h.elim
  rw [hx.ints, hy.ints]
  exact ⟨_, _, rfl, rfl, k _ H _ (Step.refl H) hm (.int _) h⟩
theorem od_B0 {g : Int → Int → Bool} : OpD K (rI0 fun i j => .bl (g i j)) (fI0 fun i j => .bool (g i j)) := fun N A H x y c d Q Qd u hf hm hx hy h k => by
  cases c <;> cases d <;> try exact h.elim
  rw [hx.ints, hy.ints]
  exact ⟨_, _, rfl, rfl, k _ H _ (Step.refl H) hm (.bl _) h⟩
end
end DW

set_option Elab.async false
set_option linter.all false
set_option maxRecDepth 100000
set_option maxHeartbeats 2000000
namespace DW
open PySem PySem.Spec PyProof.Rows L2
theorem szOf {n : Nat} (h : n ≤ 100000) : n ≤ sizeLine := Nat.le_trans h (by decide)
theorem szLt {n : Nat} (h : n < 100000) : n < sizeLine := Nat.lt_of_lt_of_le h (by decide)
section
variable {X : Cx} {K : PySem.W.Frag}
theorem od_or1 {r r' : R2} {f : D → D → (D → Prop) → Prop} (h : OpD K r f) : OpD K (fun x y H Q => r x y H Q ∨ r' x y H Q) f := fun N A H x y c d Q Qd u hf hm hx hy q k => .inl (h N A H x y c d Q Qd u hf hm hx hy q k)

/-! ### + -/
def rAddD (K : PySem.W.Frag) : R2 := fun x y H Q => rI0 (fun i j => .int (i + j)) x y H Q ∨ rCat x y H Q ∨ rCatA K x y H Q
theorem op_addD : OpR X (binaryOp .Add) (rAddD X.K) := OpR.or op_add (OpR.or op_cat op_catA)
theorem od_add : OpD K (rAddD K) fAdd := fun N A H x y c d Q Qd u hf hm hx hy h k => by
  cases c <;> cases d <;> try exact h.elim
  · rw [hx.ints, hy.ints]
    exact .inl ⟨_, _, rfl, rfl, k _ H _ (Step.refl H) hm (.int _) h⟩
  · obtain ⟨a, xs, rfl, ha, hxs⟩ := hx.lists
    obtain ⟨b, ys, rfl, hb, hys⟩ := hy.lists
    refine .inr (.inl ⟨a, b, xs, ys, rfl, rfl, ha, hb, szOf (by rw [hxs.length, hys.length]; exact h.1), fun p hp => ?_⟩)
    exact k _ _ _ (Step.new hp) (hm.new hp (fun m => m)) (.lst upd_same (hf p hp) ((hxs.append hys).goes (Step.new hp).goes)) h.2
  · obtain ⟨a, xs, rfl, ha, na, hxs⟩ := hx.tuples
    obtain ⟨b, ys, rfl, hb, nb, hys⟩ := hy.tuples
    refine .inr (.inr ⟨a, b, xs, ys, rfl, rfl, .inl (.inl ha), .inl (.inl hb), szOf (by rw [hxs.length, hys.length]; exact h.1), fun e => ?_, fun _ e => ?_, fun _ _ p hp => ?_⟩)
    · subst e
      cases hxs
      exact k _ H _ (Step.refl H) hm (.tup hb nb hys) h.2
    · subst e
      cases hys
      have h2 := h.2
      rw [List.append_nil] at h2
      exact k _ H _ (Step.refl H) hm (.tup ha na hxs) h2
    · exact k _ _ _ (Step.new hp) (hm.new hp (fun m => m)) (.tup upd_same (hf p hp) ((hxs.append hys).goes (Step.new hp).goes)) h.2
/-- a new list from two -/
@[simp] def fAddL : D → D → (List D → Prop) → Prop
  | .list xs, .list ys, Q => xs.length + ys.length ≤ 100000 ∧ Q (xs ++ ys)
  | _, _, _ => False
theorem pAddF {a b : Expr} {pos : Pos} {wa wb : WE} (ha : PE X a (tBo X.K wa)) (hb : PE X b (tBo X.K wb)) : PE X (.BinOp a .Add b pos) (tF X.K fun ρ u Q => wa ρ u fun c u1 => wb ρ u1 fun d u2 => fAddL c d fun z => Q z u2) :=
  PEi (pe_op op_addD ha hb) fun σ H Q ⟨N, A, H0, ρ, u, Qd, R, hw, k⟩ => ⟨N, A, H0, ρ, u, _, R, hw, fun x H1 c u1 s1 m1 hx q1 => ⟨N, A, H0, ρ, u1, _, R.go s1 m1, q1, fun y H2 d u2 s2 m2 hy q2 => by
    cases c <;> cases d <;> try exact q2.elim
    obtain ⟨a, xs, rfl, ha, hxs⟩ := (hx.step s2).lists
    obtain ⟨b, ys, rfl, hb, hys⟩ := hy.lists
    refine .inr (.inl ⟨a, b, xs, ys, rfl, rfl, ha, hb, szOf (by rw [hxs.length, hys.length]; exact q2.1), fun p hp => ?_⟩)
    exact k p _ _ _ _ ((s1.trans s2).trans (Step.new hp)) (m2.newA hp (fun m => m)) ((s1.trans s2).fresh hp) upd_same ((hxs.append hys).goes (goes_and (Step.new hp) hp)) q2.2⟩⟩
/-! ### * -/
@[simp] def fMul : D → D → (D → Prop) → Prop
  | .int i, .int j, Q => ((-(2 ^ 64) < i ∧ i < 2 ^ 64) ∨ (-(2 ^ 64) < j ∧ j < 2 ^ 64)) ∧ Q (.int (i * j))
  | .list xs, .int j, Q => 0 ≤ j ∧ j ≤ 1000 ∧ xs.length ≤ 100 ∧ Q (.list (List.replicate j.toNat xs).flatten)
  | _, _, _ => False
def rMulD : R2 := fun x y H Q => rI CMul (fun i j => .int (i * j)) x y H Q ∨ rRep x y H Q
theorem op_mulD : OpR X (binaryOp .Mult) rMulD := OpR.or op_mul op_rep
theorem DaAll.rep {A : Addr → Prop} {H : Hp} {vs : List V} {ds : List D} (h : DaAll K A H vs ds) : ∀ n : Nat, DaAll K A H (List.replicate n vs).flatten (List.replicate n ds).flatten
  | 0 => .nil
  | n + 1 => by
    rw [List.replicate_succ, List.replicate_succ, List.flatten_cons, List.flatten_cons]
    exact h.append (DaAll.rep h n)
theorem od_mul : OpD K rMulD fMul := fun N A H x y c d Q Qd u hf hm hx hy h k => by
  cases c <;> cases d <;> try exact h.elim
  · rw [hx.ints, hy.ints]
    exact .inl ⟨_, _, rfl, rfl, h.1, k _ H _ (Step.refl H) hm (.int _) h.2⟩
  · obtain ⟨a, xs, rfl, ha, hxs⟩ := hx.lists
    rw [hy.ints]
    obtain ⟨h1, h2, h3, h4⟩ := h
    refine .inr ⟨a, _, xs, rfl, rfl, ha, by omega, by omega, szOf ?_, fun p hp => ?_⟩
    · rw [hxs.length]
      rename_i j
      exact Nat.le_trans (Nat.mul_le_mul h3 (by omega : j.toNat ≤ 1000)) (by decide)
    · exact k _ _ _ (Step.new hp) (hm.new hp (fun m => m)) (.lst upd_same (hf p hp) ((hxs.rep _).goes (Step.new hp).goes)) h4
/-! ### == != in -/
@[simp] def fEq (neg : Bool) : D → D → (D → Prop) → Prop := fun c d Q => SeqAt.shaped c = true ∧ SeqAt.shaped d = true ∧ Q (.bool (if neg then !PyData.eqv c d else PyData.eqv c d))
theorem od_eq : OpD K (rEqD K) (fEq false) := fun N A H x y c d Q Qd u hf hm hx hy h k =>
  ⟨c, d, hx.dp (SeqAt.canLay_of_shaped h.1), hy.dp (SeqAt.canLay_of_shaped h.2.1), h.1, h.2.1, k _ H _ (Step.refl H) hm (.bl _) h.2.2⟩
theorem od_ne : OpD K (rNeD K) (fEq true) := fun N A H x y c d Q Qd u hf hm hx hy h k =>
  ⟨c, d, hx.dp (SeqAt.canLay_of_shaped h.1), hy.dp (SeqAt.canLay_of_shaped h.2.1), h.1, h.2.1, k _ H _ (Step.refl H) hm (.bl _) h.2.2⟩
@[simp] def fIn (neg : Bool) : D → D → (D → Prop) → Prop
  | c, .list ds, Q => SeqAt.shaped c = true ∧ SeqAt.shaped (.list ds) = true ∧ Q (.bool (if neg then !ds.any (fun z => PyData.eqv z c) else ds.any (fun z => PyData.eqv z c)))
  | _, _, _ => False
theorem od_in : OpD K (rInD K) (fIn false) := fun N A H x y c d Q Qd u hf hm hx hy h k => by
  cases d <;> try exact h.elim
  exact ⟨c, _, hx.dp (SeqAt.canLay_of_shaped h.1), hy.dp (SeqAt.canLay_of_shaped h.2.1), h.1, h.2.1, k _ H _ (Step.refl H) hm (.bl _) h.2.2⟩
theorem od_notIn : OpD K (rNotInD K) (fIn true) := fun N A H x y c d Q Qd u hf hm hx hy h k => by
  cases d <;> try exact h.elim
  exact ⟨c, _, hx.dp (SeqAt.canLay_of_shaped h.1), hy.dp (SeqAt.canLay_of_shaped h.2.1), h.1, h.2.1, k _ H _ (Step.refl H) hm (.bl _) h.2.2⟩
/-! ### is None -/
@[simp] def isNon : D → Bool
  | .none => true
  | _ => false
theorem Db.isNon {N A : Addr → Prop} {H : Hp} {v : V} {d : D} (h : Db K N A H v d) : decide (v = .non) = isNon d := by
  cases h with
  | da h => cases h <;> simp [DW.isNon, sD, eD]
  | lst => simp [DW.isNon]
@[simp] def wIsN (neg : Bool) (w : WE) : WE := fun ρ u Q => w ρ u fun d u' => Q (.bool (if neg then !isNon d else isNon d)) u'
theorem pIsN {a : Expr} {w : WE} {j : Nat} {p p' : Pos} (h : PE X a (tBo X.K w)) : PE X (.Compare a [.Is] [.Constant .none j p'] p) (tD X.K (wIsN false w)) := PEi (pe_cmp (pc_isN h)) fun σ H Q ⟨N, A, H0, ρ, u, Qd, R, hw, k⟩ =>
  ⟨N, A, H0, ρ, u, _, R, hw, fun x H1 c u1 s1 m1 hx q1 => by
    show Q (.bl (decide (x = .non))) H1
    rw [hx.isNon]
    exact k _ _ _ _ s1 m1 (.bl _) q1⟩
theorem pNotN {a : Expr} {w : WE} {j : Nat} {p p' : Pos} (h : PE X a (tBo X.K w)) : PE X (.Compare a [.IsNot] [.Constant .none j p'] p) (tD X.K (wIsN true w)) := PEi (pe_cmp (pc_notN h)) fun σ H Q ⟨N, A, H0, ρ, u, Qd, R, hw, k⟩ =>
  ⟨N, A, H0, ρ, u, _, R, hw, fun x H1 c u1 s1 m1 hx q1 => by
    show Q (.bl (!decide (x = .non))) H1
    rw [hx.isNon]
    exact k _ _ _ _ s1 m1 (.bl _) q1⟩
/-! ### chains a < b < c -/
@[simp] def w3 (f g : D → D → (D → Prop) → Prop) (wa wb wc : WE) : WE := fun ρ u Q => wa ρ u fun c u1 => wb ρ u1 fun d u2 => f c d fun z => ∃ b, z = .bool b ∧ (if b = true then wc ρ u2 fun e u3 => g d e fun y => Q y u3 else Q (.bool false) u2)
theorem pChain {op op' : CmpOp} {r r' : R2} {f g : D → D → (D → Prop) → Prop} {a b c : Expr} {pos : Pos} {wa wb wc : WE} {t : TE → TE → TE → TE} (ho : OpD X.K r f) (ho' : OpD X.K r' g)
    (h : PE X (.Compare a [op, op'] [b, c] pos) (tChain r r' (tBo X.K wa) (tBo X.K wb) (tBo X.K wc))) : PE X (.Compare a [op, op'] [b, c] pos) (tD X.K (w3 f g wa wb wc)) := PEi h fun σ H Q ⟨N, A, H0, ρ, u, Qd, R, hw, k⟩ =>
  ⟨N, A, H0, ρ, u, _, R, hw, fun x H1 c u1 s1 m1 hx q1 => ⟨N, A, H0, ρ, u1, _, R.go s1 m1, q1, fun y H2 d u2 s2 m2 hy q2 =>
    ho N A H2 x y c d _ _ u2 (fun p hp => R.fresh ((s1.trans s2).fresh hp)) m2 (hx.step s2) hy q2 fun v H3 z s3 m3 hv ⟨b, e, qz⟩ => by
      subst e
      cases hv
      refine ⟨b, rfl, ?_⟩
      cases b with
      | false => exact k _ _ _ u2 ((s1.trans s2).trans s3) m3 (.bl false) qz
      | true => exact ⟨N, A, H0, ρ, u2, _, R.go ((s1.trans s2).trans s3) m3, qz, fun w H4 e u3 s4 m4 hw q4 =>
          ho' N A H4 y w d e _ _ u3 (fun p hp => R.fresh ((((s1.trans s2).trans s3).trans s4).fresh hp)) m4 ((hy.step s3).step s4) hw q4 fun v H5 z s5 m5 hv qz => k v H5 z u3 ((((s1.trans s2).trans s3).trans s4).trans s5) m5 hv qz⟩⟩⟩
/-! ### and, or, not, if -/
@[simp] def wAnd (wa wb : WE) : WE := fun ρ u Q => wa ρ u fun c u1 => ∃ b, c = .bool b ∧ if b = true then wb ρ u1 Q else Q (.bool false) u1
@[simp] def wOr (wa wb : WE) : WE := fun ρ u Q => wa ρ u fun c u1 => ∃ b, c = .bool b ∧ if b = true then Q (.bool true) u1 else wb ρ u1 Q
@[simp] def wNot (wa : WE) : WE := fun ρ u Q => wa ρ u fun c u1 => ∃ b, c = .bool b ∧ Q (.bool (!b)) u1
theorem pAnd {a b : Expr} {rest : List Expr} {pos : Pos} {wa wb : WE} (ha : PE X a (tD X.K wa)) (hb : PE X (.BoolOp .And (b :: rest) pos) (tD X.K wb)) : PE X (.BoolOp .And (a :: b :: rest) pos) (tD X.K (wAnd wa wb)) := PEi (pe_and ha hb) fun σ H Q ⟨N, A, H0, ρ, u, Qd, R, hw, k⟩ =>
  ⟨N, A, H0, ρ, u, _, R, hw, fun x H1 c u1 s1 m1 hx ⟨b, e, q⟩ => by
    subst e
    cases hx
    refine ⟨b, rfl, ?_⟩
    cases b with
    | false => exact k _ _ _ u1 s1 m1 (.bl false) q
    | true => exact ⟨N, A, H0, ρ, u1, _, R.go s1 m1, q, fun v H2 d u2 s2 m2 hd q2 => k v H2 d u2 (s1.trans s2) m2 hd q2⟩⟩
theorem pOr {a b : Expr} {rest : List Expr} {pos : Pos} {wa wb : WE} (ha : PE X a (tD X.K wa)) (hb : PE X (.BoolOp .Or (b :: rest) pos) (tD X.K wb)) : PE X (.BoolOp .Or (a :: b :: rest) pos) (tD X.K (wOr wa wb)) := PEi (pe_or ha hb) fun σ H Q ⟨N, A, H0, ρ, u, Qd, R, hw, k⟩ =>
  ⟨N, A, H0, ρ, u, _, R, hw, fun x H1 c u1 s1 m1 hx ⟨b, e, q⟩ => by
    subst e
    cases hx
    refine ⟨b, rfl, ?_⟩
    cases b with
    | true => exact k _ _ _ u1 s1 m1 (.bl true) q
    | false => exact ⟨N, A, H0, ρ, u1, _, R.go s1 m1, q, fun v H2 d u2 s2 m2 hd q2 => k v H2 d u2 (s1.trans s2) m2 hd q2⟩⟩
theorem pOne {op : BoolOp} {a : Expr} {pos : Pos} {wa : WE} (ha : PE X a (tD X.K wa)) : PE X (.BoolOp op [a] pos) (tD X.K wa) := pe_one ha
theorem pNot {a : Expr} {pos : Pos} {wa : WE} (ha : PE X a (tD X.K wa)) : PE X (.UnaryOp .Not a pos) (tD X.K (wNot wa)) := PEi (pe_not ha) fun σ H Q ⟨N, A, H0, ρ, u, Qd, R, hw, k⟩ =>
  ⟨N, A, H0, ρ, u, _, R, hw, fun x H1 c u1 s1 m1 hx ⟨b, e, q⟩ => ⟨b, by subst e; cases hx; rfl, k _ _ _ u1 s1 m1 (.bl _) q⟩⟩
/-- tests -/
@[simp] def wtAnd (wa wb : WT) : WT := fun ρ u Q => wa ρ u fun b u1 => if b = true then wb ρ u1 Q else Q false u1
@[simp] def wtOr (wa wb : WT) : WT := fun ρ u Q => wa ρ u fun b u1 => if b = true then Q true u1 else wb ρ u1 Q
@[simp] def wtNot (wa : WT) : WT := fun ρ u Q => wa ρ u fun b u1 => Q (!b) u1
theorem ptAnd1 {a : Expr} {pos : Pos} {wa : WT} (ha : PT X a (tTe X.K wa)) : PW X (.BoolOp .And [a] pos) (tTe X.K wa) := pw_and1 ha
theorem ptOr1 {a : Expr} {pos : Pos} {wa : WT} (ha : PT X a (tTe X.K wa)) : PW X (.BoolOp .Or [a] pos) (tTe X.K wa) := pw_or1 ha
theorem ptAnd {a b : Expr} {rest : List Expr} {pos : Pos} {wa wb : WT} (ha : PT X a (tTe X.K wa)) (hb : PW X (.BoolOp .And (b :: rest) pos) (tTe X.K wb)) : PW X (.BoolOp .And (a :: b :: rest) pos) (tTe X.K (wtAnd wa wb)) := PWi (pw_and ha hb) fun σ H Q ⟨N, A, H0, ρ, u, Qd, R, hw, k⟩ =>
  ⟨N, A, H0, ρ, u, _, R, hw, fun b H1 u1 s1 m1 q => by
    cases b with
    | false => exact k _ _ u1 s1 m1 q
    | true => exact ⟨N, A, H0, ρ, u1, _, R.go s1 m1, q, fun v H2 u2 s2 m2 q2 => k v H2 u2 (s1.trans s2) m2 q2⟩⟩
theorem ptOr {a b : Expr} {rest : List Expr} {pos : Pos} {wa wb : WT} (ha : PT X a (tTe X.K wa)) (hb : PW X (.BoolOp .Or (b :: rest) pos) (tTe X.K wb)) : PW X (.BoolOp .Or (a :: b :: rest) pos) (tTe X.K (wtOr wa wb)) := PWi (pw_or ha hb) fun σ H Q ⟨N, A, H0, ρ, u, Qd, R, hw, k⟩ =>
  ⟨N, A, H0, ρ, u, _, R, hw, fun b H1 u1 s1 m1 q => by
    cases b with
    | true => exact k _ _ u1 s1 m1 q
    | false => exact ⟨N, A, H0, ρ, u1, _, R.go s1 m1, q, fun v H2 u2 s2 m2 q2 => k v H2 u2 (s1.trans s2) m2 q2⟩⟩
theorem ptNot {a : Expr} {pos : Pos} {wa : WT} (ha : PT X a (tTe X.K wa)) : PT X (.UnaryOp .Not a pos) (tTe X.K (wtNot wa)) := PTi (pt_not ha) fun σ H Q ⟨N, A, H0, ρ, u, Qd, R, hw, k⟩ =>
  ⟨N, A, H0, ρ, u, _, R, hw, fun b H1 u1 s1 m1 q => k _ _ u1 s1 m1 q⟩
/-- an expression as a test -/
theorem ptV {e : Expr} {w : WE} (h : PE X e (tD X.K w)) (he : ∀ whole, isTrue e X.env whole = (do let v ← whole; standAt e.pos; holding [v] (truthy v)) := by intro _; rfl) : PT X e (tTe X.K (wTst w)) := pT h fun t g => pt_val g he
@[simp] def wIf (wc : WT) (wa wb : WE) : WE := fun ρ u Q => wc ρ u fun b u1 => if b = true then wa ρ u1 Q else wb ρ u1 Q
theorem pIf {c a b : Expr} {pos : Pos} {wc : WT} {wa wb : WE} (hc : PT X c (tTe X.K wc)) (ha : PE X a (tD X.K wa)) (hb : PE X b (tD X.K wb)) : PE X (.IfExp c a b pos) (tD X.K (wIf wc wa wb)) := PEi (pe_ifExp hc ha hb) fun σ H Q ⟨N, A, H0, ρ, u, Qd, R, hw, k⟩ =>
  ⟨N, A, H0, ρ, u, _, R, hw, fun b H1 u1 s1 m1 q => by
    cases b with
    | true => exact ⟨N, A, H0, ρ, u1, _, R.go s1 m1, q, fun v H2 d u2 s2 m2 hd q2 => k v H2 d u2 (s1.trans s2) m2 hd q2⟩
    | false => exact ⟨N, A, H0, ρ, u1, _, R.go s1 m1, q, fun v H2 d u2 s2 m2 hd q2 => k v H2 d u2 (s1.trans s2) m2 hd q2⟩⟩
theorem pIfB {c a b : Expr} {pos : Pos} {wc : WT} {wa wb : WE} (hc : PT X c (tTe X.K wc)) (ha : PE X a (tBo X.K wa)) (hb : PE X b (tBo X.K wb)) : PE X (.IfExp c a b pos) (tBo X.K (wIf wc wa wb)) := PEi (pe_ifExp hc ha hb) fun σ H Q ⟨N, A, H0, ρ, u, Qd, R, hw, k⟩ =>
  ⟨N, A, H0, ρ, u, _, R, hw, fun b H1 u1 s1 m1 q => by
    cases b with
    | true => exact ⟨N, A, H0, ρ, u1, _, R.go s1 m1, q, fun v H2 d u2 s2 m2 hd q2 => k v H2 d u2 (s1.trans s2) m2 hd q2⟩
    | false => exact ⟨N, A, H0, ρ, u1, _, R.go s1 m1, q, fun v H2 d u2 s2 m2 hd q2 => k v H2 d u2 (s1.trans s2) m2 hd q2⟩⟩
@[simp] def wNeg (w : WE) : WE := fun ρ u Q => w ρ u fun d u' => ∃ i, d = .int i ∧ Q (.int (-i)) u'
theorem pNeg {a : Expr} {pos : Pos} {wa : WE} (ha : PE X a (tD X.K wa)) : PE X (.UnaryOp .USub a pos) (tD X.K (wNeg wa)) := PEi (pe_un un_neg ha) fun σ H Q ⟨N, A, H0, ρ, u, Qd, R, hw, k⟩ =>
  ⟨N, A, H0, ρ, u, _, R, hw, fun x H1 c u1 s1 m1 hx ⟨i, e, q⟩ => ⟨i, by subst e; cases hx; rfl, k _ _ _ u1 s1 m1 (.int _) q⟩⟩
end
end DW

set_option Elab.async false
set_option linter.all false
set_option maxRecDepth 100000
set_option maxHeartbeats 2000000
namespace DW
open PySem PySem.Spec PyProof.Rows L2
section
variable {X : Cx} {K : PySem.W.Frag}
/-! ### arguments, displays -/
@[simp] def waNil : WA := fun _ u Q => Q [] u
@[simp] def waCons (w : WE) (ws : WA) : WA := fun ρ u Q => w ρ u fun d u1 => ws ρ u1 fun ds u2 => Q (d :: ds) u2
theorem paN : PA X [] (tAr X.K waNil) := PAi pa_nil fun σ H Q ⟨N, A, H0, ρ, u, Qd, R, hw, k⟩ => k [] H [] u (Step.refl H) R.minv .nil hw
theorem paC {e : Expr} {es : List Expr} {w : WE} {ws : WA} (h : PE X e (tD X.K w)) (hs : PA X es (tAr X.K ws)) (he : starEach (e :: es) X.env = (false, eval e X.env) :: starEach es X.env := by rfl) : PA X (e :: es) (tAr X.K (waCons w ws)) := PAi (pa_cons h hs he) fun σ H Q ⟨N, A, H0, ρ, u, Qd, R, hw, k⟩ =>
  ⟨N, A, H0, ρ, u, _, R, hw, fun v H1 d u1 s1 m1 hd q1 => ⟨N, A, H0, ρ, u1, _, R.go s1 m1, q1, fun vs H2 ds u2 s2 m2 hds q2 => k (v :: vs) H2 (d :: ds) u2 (s1.trans s2) m2 (.cons (hd.goes s2.goes) hds) q2⟩⟩
theorem pbN : PA X [] (tAb X.K waNil) := PAi pa_nil fun σ H Q ⟨N, A, H0, ρ, u, Qd, R, hw, k⟩ => k [] H [] u (Step.refl H) R.minv .nil hw
theorem pbC {e : Expr} {es : List Expr} {w : WE} {ws : WA} (h : PE X e (tBo X.K w)) (hs : PA X es (tAb X.K ws)) (he : starEach (e :: es) X.env = (false, eval e X.env) :: starEach es X.env := by rfl) : PA X (e :: es) (tAb X.K (waCons w ws)) := PAi (pa_cons h hs he) fun σ H Q ⟨N, A, H0, ρ, u, Qd, R, hw, k⟩ =>
  ⟨N, A, H0, ρ, u, _, R, hw, fun v H1 d u1 s1 m1 hd q1 => ⟨N, A, H0, ρ, u1, _, R.go s1 m1, q1, fun vs H2 ds u2 s2 m2 hds q2 => k (v :: vs) H2 (d :: ds) u2 (s1.trans s2) m2 (.cons (hd.step s2) hds) q2⟩⟩
@[simp] def wTup (ws : WA) : WE := fun ρ u Q => ws ρ u fun ds u1 => ds.length ≤ 100000 ∧ Q (.tuple ds) u1
theorem pTup {es : List Expr} {k : Nat} {pos : Pos} {ws : WA} (h : PA X es (tAr X.K ws)) : PE X (.Tuple es k pos) (tD X.K (wTup ws)) := PEi (pe_tup h) fun σ H Q ⟨N, A, H0, ρ, u, Qd, R, hw, k⟩ =>
  ⟨N, A, H0, ρ, u, _, R, hw, fun vs H1 ds u1 s1 m1 hd ⟨hl, q⟩ => ⟨szOf (by rw [hd.length]; exact hl), fun p hp =>
    k _ _ _ u1 (s1.trans (Step.new hp)) (m1.new hp (fun m => m)) (.tup upd_same (R.fresh (s1.fresh hp)) (hd.goes (Step.new hp).goes)) q⟩⟩
@[simp] def wLst (ws : WA) : WA := fun ρ u Q => ws ρ u fun ds u1 => ds.length ≤ 100000 ∧ Q ds u1
theorem pLstF {es : List Expr} {pos : Pos} {ws : WA} (h : PA X es (tAr X.K ws)) : PE X (.List es pos) (tF X.K (wLst ws)) := PEi (pe_lst h) fun σ H Q ⟨N, A, H0, ρ, u, Qd, R, hw, k⟩ =>
  ⟨N, A, H0, ρ, u, _, R, hw, fun vs H1 ds u1 s1 m1 hd ⟨hl, q⟩ => ⟨szOf (by rw [hd.length]; exact hl), fun p hp =>
    k p vs _ ds u1 (s1.trans (Step.new hp)) (m1.newA hp (fun m => m)) (s1.fresh hp) upd_same (hd.goes (goes_and (Step.new hp) hp)) q⟩⟩
theorem pDict0 {pos : Pos} : PE X (.Dict [] [] pos) (tD X.K (wC (.dict []))) := PEi pe_dnewK fun σ H Q ⟨N, A, H0, ρ, u, Qd, R, hw, k⟩ p hp =>
  k _ _ _ u (Step.new hp) (R.minv.new hp (fun m => m)) (.dct0 upd_same (R.fresh hp)) hw

/-! ### items -/
@[simp] def fIx : D → D → (D → Prop) → Prop
  | .list xs, .int i, Q => ∃ z, atI xs i = some z ∧ Q z
  | .tuple xs, .int i, Q => ∃ z, atI xs i = some z ∧ Q z
  | _, _, _ => False
def rIxD2 (K : PySem.W.Frag) : R2 := fun x y H Q => rIxL K x y H Q ∨ rIxT K x y H Q
theorem ix_D : IxR X (rIxD2 X.K) := IxR.or ix_list ix_tup
theorem DaAll.at {A : Addr → Prop} {H : Hp} {vs : List V} {ds : List D} (h : DaAll K A H vs ds) {i : Int} {z : D} (e : atI ds i = some z) : ∃ v, atI vs i = some v ∧ Da K A H v z := by
  unfold atI at e ⊢
  rw [h.length]
  cases q : ixN ds.length i with
  | none => rw [q] at e; cases e
  | some j =>
    rw [q] at e
    exact h.get e
theorem od_ix : OpD K (rIxD2 K) fIx := fun N A H x y c d Q Qd u hf hm hx hy h k => by
  cases c <;> cases d <;> try exact h.elim
  · obtain ⟨a, xs, rfl, ha, hxs⟩ := hx.lists
    rw [hy.ints]
    obtain ⟨z, e, q⟩ := h
    obtain ⟨v, hv, hd⟩ := hxs.at e
    exact .inl ⟨a, xs, _, v, rfl, rfl, .inl (.inl ha), hv, k v H z (Step.refl H) hm hd q⟩
  · obtain ⟨a, xs, rfl, ha, _, hxs⟩ := hx.tuples
    rw [hy.ints]
    obtain ⟨z, e, q⟩ := h
    obtain ⟨v, hv, hd⟩ := hxs.at e
    exact .inr ⟨a, xs, _, v, rfl, rfl, .inl (.inl ha), hv, k v H z (Step.refl H) hm hd q⟩
theorem pIx {a b : Expr} {pos : Pos} {wa wb : WE} (ha : PE X a (tBo X.K wa)) (hb : PE X b (tBo X.K wb)) (hs : PlainIx b := by exact fun _ _ => rfl) : PE X (.Subscript a b pos) (tD X.K (w2 fIx wa wb)) := PEi (pe_ix ix_D ha hb hs) (tOp_of od_ix)
/-! ### slices -/
def cutD (xs : List D) (lo hi : Option Int) : List D := (xs.drop (HT.sIx xs.length 0 lo)).take (HT.sIx xs.length xs.length hi - HT.sIx xs.length 0 lo)
theorem DaAll.cut {A : Addr → Prop} {H : Hp} {vs : List V} {ds : List D} (h : DaAll K A H vs ds) (lo hi : Option Int) : DaAll K A H (cutV vs lo hi) (cutD ds lo hi) := by
  unfold cutV cutD
  rw [h.length]
  exact (h.drop _).take _
/-- a part of a slice -/
abbrev WO := Rho → Nat → (Option Int → Nat → Prop) → Prop
def tPo (K : PySem.W.Frag) (w : WO) : TO := fun σ H Q => ∃ (N A : Addr → Prop) (H0 : Hp) (ρ : Rho) (u : Nat) (Qd : Option Int → Nat → Prop), Rel K N A H0 σ H ρ u ∧ w ρ u Qd ∧
  ∀ o H' u', Step H H' → MInv A u' K H' → Qd o u' → Q o H'
theorem POi {e : Option Expr} {t t' : TO} (h : PO X e t) (k : ∀ σ H Q, t' σ H Q → t σ H Q) : PO X e t' := ⟨fun pins s σ H Q I q => h.run pins s σ H Q I (k _ _ _ q)⟩
@[simp] def woN : WO := fun _ u Q => Q none u
@[simp] def woS (w : WE) : WO := fun ρ u Q => w ρ u fun d u1 => ∃ i, d = .int i ∧ Q (some i) u1
theorem poN : PO X none (tPo X.K woN) := POi po_none fun σ H Q ⟨N, A, H0, ρ, u, Qd, R, hw, k⟩ => k none H u (Step.refl H) R.minv hw
theorem poS {e : Expr} {w : WE} (h : PE X e (tD X.K w)) : PO X (some e) (tPo X.K (woS w)) := POi (po_some h) fun σ H Q ⟨N, A, H0, ρ, u, Qd, R, hw, k⟩ =>
  ⟨N, A, H0, ρ, u, _, R, hw, fun v H1 d u1 s1 m1 hd ⟨i, e, q⟩ => ⟨i, by subst e; cases hd; rfl, k _ _ u1 s1 m1 q⟩⟩
def rSlD (K : PySem.W.Frag) : V → Option Int → Option Int → Hp → VK → Prop := fun x lo hi H Q => rSlL K x lo hi H Q ∨ rSlA K x lo hi H Q
theorem sl_D : SlR X (rSlD X.K) := SlR.or sl_list sl_tupA
@[simp] def wSl (we : WE) (wl wh : WO) : WE := fun ρ u Q => we ρ u fun c u1 => wl ρ u1 fun lo u2 => wh ρ u2 fun hi u3 => match c with
  | .list xs => Q (.list (cutD xs lo hi)) u3
  | .tuple xs => Q (.tuple (cutD xs lo hi)) u3
  | _ => False
theorem pSl {e : Expr} {lo hi : Option Expr} {p1 p2 : Pos} {we : WE} {wl wh : WO} (he : PE X e (tBo X.K we)) (hl : PO X lo (tPo X.K wl)) (hh : PO X hi (tPo X.K wh)) : PE X (.Subscript e (.Slice lo hi none p1) p2) (tD X.K (wSl we wl wh)) :=
  PEi (pe_slice sl_D he hl hh) fun σ H Q ⟨N, A, H0, ρ, u, Qd, R, hw, k⟩ => ⟨N, A, H0, ρ, u, _, R, hw, fun x H1 c u1 s1 m1 hx q1 => ⟨N, A, H0, ρ, u1, _, R.go s1 m1, q1, fun lo H2 u2 s2 m2 q2 => ⟨N, A, H0, ρ, u2, _, R.go (s1.trans s2) m2, q2, fun hi H3 u3 s3 m3 q3 => by
    have hx3 := hx.step (s2.trans s3)
    have s := (s1.trans s2).trans s3
    cases c <;> try exact q3.elim
    · obtain ⟨a, xs, rfl, ha, hxs⟩ := hx3.lists
      exact .inl ⟨a, xs, rfl, .inl (.inl ha), fun p hp => k _ _ _ u3 (s.trans (Step.new hp)) (m3.new hp (fun m => m)) (.lst upd_same (R.fresh (s.fresh hp)) ((hxs.cut lo hi).goes (Step.new hp).goes)) q3⟩
    · obtain ⟨a, xs, rfl, ha, na, hxs⟩ := hx3.tuples
      refine .inr ⟨a, xs, rfl, .inl (.inl ha), fun e => ?_, fun _ p hp => ?_⟩
      · rename_i ds
        have e2 : cutD ds lo hi = ds := by
          unfold cutD
          rw [← hxs.length, e.1, e.2, List.drop_zero, Nat.sub_zero, hxs.length, List.take_length]
        have q3' : Qd (.tuple (cutD ds lo hi)) u3 := q3
        rw [e2] at q3'
        exact k _ _ _ u3 s m3 (.tup ha na hxs) q3'
      · exact k _ _ _ u3 (s.trans (Step.new hp)) (m3.new hp (fun m => m)) (.tup upd_same (R.fresh (s.fresh hp)) ((hxs.cut lo hi).goes (Step.new hp).goes)) q3⟩⟩⟩
/-- a slice of a list is a new list -/
@[simp] def wSlF (we : WE) (wl wh : WO) : WA := fun ρ u Q => we ρ u fun c u1 => wl ρ u1 fun lo u2 => wh ρ u2 fun hi u3 => match c with
  | .list xs => Q (cutD xs lo hi) u3
  | _ => False
theorem pSlF {e : Expr} {lo hi : Option Expr} {p1 p2 : Pos} {we : WE} {wl wh : WO} (he : PE X e (tBo X.K we)) (hl : PO X lo (tPo X.K wl)) (hh : PO X hi (tPo X.K wh)) : PE X (.Subscript e (.Slice lo hi none p1) p2) (tF X.K (wSlF we wl wh)) :=
  PEi (pe_slice sl_D he hl hh) fun σ H Q ⟨N, A, H0, ρ, u, Qd, R, hw, k⟩ => ⟨N, A, H0, ρ, u, _, R, hw, fun x H1 c u1 s1 m1 hx q1 => ⟨N, A, H0, ρ, u1, _, R.go s1 m1, q1, fun lo H2 u2 s2 m2 q2 => ⟨N, A, H0, ρ, u2, _, R.go (s1.trans s2) m2, q2, fun hi H3 u3 s3 m3 q3 => by
    have hx3 := hx.step (s2.trans s3)
    have s := (s1.trans s2).trans s3
    cases c <;> try exact q3.elim
    obtain ⟨a, xs, rfl, ha, hxs⟩ := hx3.lists
    exact .inl ⟨a, xs, rfl, .inl (.inl ha), fun p hp => k p _ _ _ u3 (s.trans (Step.new hp)) (m3.newA hp (fun m => m)) (s.fresh hp) upd_same ((hxs.cut lo hi).goes (goes_and (Step.new hp) hp)) q3⟩⟩⟩⟩
/-! ### built-ins of one argument -/
/-- a call by values, over data -/
def CallD (K : PySem.W.Frag) (r : List V → Hp → VK → Prop) (f : List D → (D → Prop) → Prop) : Prop :=
  ∀ (N A : Addr → Prop) (H : Hp) (xs : List V) (ds : List D) (Q : VK) (Qd : D → Prop) (u : Nat), (∀ p, H p = none → ¬ A p) → MInv A u K H → DbAll K N A H xs ds → f ds Qd → (∀ v H' z, Step H H' → MInv A u K H' → Da K A H' v z → Qd z → Q v H') → r xs H Q
@[simp] def wCall (f : List D → (D → Prop) → Prop) (ws : WA) : WE := fun ρ u Q => ws ρ u fun ds u1 => f ds fun z => Q z u1
theorem tCB_of {r : List V → Hp → VK → Prop} {f : List D → (D → Prop) → Prop} (o : CallD K r f) {ws : WA} : ∀ σ H Q, tD K (wCall f ws) σ H Q → tCB r (tAb K ws) σ H Q := fun σ H Q ⟨N, A, H0, ρ, u, Qd, R, hw, k⟩ =>
  ⟨N, A, H0, ρ, u, _, R, hw, fun vs H1 ds u1 s1 m1 hd q1 => o N A H1 vs ds Q _ u1 (fun p hp => R.fresh (s1.fresh hp)) m1 hd q1 fun v H2 z s2 m2 hv qz => k v H2 z u1 (s1.trans s2) m2 hv qz⟩
theorem pCB {e : Expr} {w : WA} {t : TE} {r : List V → Hp → VK → Prop} {f : List D → (D → Prop) → Prop} {ws : WA} (o : CallD X.K r f) (h : PE X e (tCB r (tAb X.K ws))) : PE X e (tD X.K (wCall f ws)) := PEi h (tCB_of o)
@[simp] def fLen : List D → (D → Prop) → Prop
  | [.list xs], Q => Q (.int xs.length)
  | [.tuple xs], Q => Q (.int xs.length)
  | [.dict kvs], Q => ∃ ns, .dict kvs = sD ns ∧ Q (.int (ns.length : Nat))
  | _, _ => False
def rLenD (K : PySem.W.Frag) : List V → Hp → VK → Prop := fun xs H Q => ∃ p ys, xs = [.ref p] ∧ (SqL K H p ys ∨ SqT K H p ys) ∧ Q (.int ys.length) H
theorem cd_len : CallD K (rLenD K) fLen := fun N A H xs ds Q Qd u hf hm hx h k => by
  cases hx with
  | nil => exact h.elim
  | cons h1 ht =>
    rename_i v vs d ds
    cases ht with
    | cons _ _ => cases d <;> exact h.elim
    | nil =>
      cases d <;> try exact h.elim
      · obtain ⟨a, xs, rfl, ha, hxs⟩ := h1.lists
        exact ⟨a, xs, rfl, .inl (.inl (.inl ha)), by rw [hxs.length]; exact k _ H _ (Step.refl H) hm (.int _) h⟩
      · obtain ⟨a, xs, rfl, ha, _, hxs⟩ := h1.tuples
        exact ⟨a, xs, rfl, .inr (.inl (.inl ha)), by rw [hxs.length]; exact k _ H _ (Step.refl H) hm (.int _) h⟩
      · obtain ⟨ns, e, q⟩ := h
        rw [e] at h1
        cases h1 with
        | da h1 =>
          obtain ⟨a, rfl, ha⟩ := h1.scrD
          exact ⟨a, _, rfl, .inl ha, by rw [List.length_map]; exact k _ H _ (Step.refl H) hm (.int _) q⟩
theorem pLen {x : Str} {e : Expr} {p pos : Pos} {w : WE} (hx : x = "len") (hg : Gl X x) (hm : X.mg x = none) (h : PE X e (tBo X.K w)) (he : starEach [e] X.env = (false, eval e X.env) :: starEach [] X.env := by rfl) : PE X (.Call (.Name x p) [e] [] pos) (tD X.K (wCall fLen (waCons w waNil))) := by
  subst hx
  exact PEi (pe_callB call_len_seq hg hm PySem.boot_len (pbC h pbN he) (by decide) (by decide) he rfl) (tCB_of cd_len)
end
end DW

set_option Elab.async false
set_option linter.all false
set_option maxRecDepth 100000
set_option maxHeartbeats 2000000
namespace DW
open PySem PySem.Spec PyProof.Rows L2
section
variable {X : Cx} {K : PySem.W.Frag}
theorem pB1 {id : String} {x : Str} {e : Expr} {p pos : Pos} {w : WE} {r : List V → Hp → VK → Prop} {f : List D → (D → Prop) → Prop} (hc : CallR X (.builtin id) r) (o : CallD X.K r f) (hg : Gl X x) (hm : X.mg x = none) (hv : bootBuiltins x = some (.builtin id)) (h : PE X e (tBo X.K w))
    (hn : x ≠ "__name__" := by decide) (hdb : (x == ("__debug__" : Str)) = false := by decide) (he : starEach [e] X.env = (false, eval e X.env) :: starEach [] X.env := by rfl) : PE X (.Call (.Name x p) [e] [] pos) (tD X.K (wCall f (waCons w waNil))) :=
  PEi (pe_callB hc hg hm hv (pbC h pbN he) hn hdb he rfl) (tCB_of o)
theorem pB2 {id : String} {x : Str} {e e2 : Expr} {p pos : Pos} {w w2 : WE} {r : List V → Hp → VK → Prop} {f : List D → (D → Prop) → Prop} (hc : CallR X (.builtin id) r) (o : CallD X.K r f) (hg : Gl X x) (hm : X.mg x = none) (hv : bootBuiltins x = some (.builtin id)) (h : PE X e (tBo X.K w)) (h2 : PE X e2 (tBo X.K w2))
    (hn : x ≠ "__name__" := by decide) (hdb : (x == ("__debug__" : Str)) = false := by decide) (he : starEach [e, e2] X.env = (false, eval e X.env) :: starEach [e2] X.env := by rfl) (he2 : starEach [e2] X.env = (false, eval e2 X.env) :: starEach [] X.env := by rfl)
    (hpl : (backTo pos (starEach [e2] X.env)).any (·.1) = false := by rfl) : PE X (.Call (.Name x p) [e, e2] [] pos) (tD X.K (wCall f (waCons w (waCons w2 waNil)))) :=
  PEi (pe_callB hc hg hm hv (pbC h (pbC h2 pbN he2) he) hn hdb he hpl) (tCB_of o)
theorem pT1 {T : String} {x : Str} {e : Expr} {p pos : Pos} {w : WE} {r : List V → Hp → VK → Prop} {f : List D → (D → Prop) → Prop} (hc : CallR X (.type T) r) (o : CallD X.K r f) (hg : Gl X x) (hm : X.mg x = none) (hv : bootBuiltins x = some (.type T)) (h : PE X e (tBo X.K w))
    (hn : x ≠ "__name__" := by decide) (hdb : (x == ("__debug__" : Str)) = false := by decide) (he : starEach [e] X.env = (false, eval e X.env) :: starEach [] X.env := by rfl) : PE X (.Call (.Name x p) [e] [] pos) (tD X.K (wCall f (waCons w waNil))) :=
  PEi (pe_callTy hc hg hm hv (pbC h pbN he) hn hdb he rfl) (tCB_of o)
theorem db1 {N A : Addr → Prop} {H : Hp} {xs : List V} {ds : List D} {d : D} (h : DbAll K N A H xs ds) (e : ds = [d]) : ∃ v, xs = [v] ∧ Db K N A H v d := by
  subst e
  cases h with
  | cons h1 ht => cases ht; exact ⟨_, rfl, h1⟩
theorem db2 {N A : Addr → Prop} {H : Hp} {xs : List V} {ds : List D} {d d2 : D} (h : DbAll K N A H xs ds) (e : ds = [d, d2]) : ∃ v v2, xs = [v, v2] ∧ Db K N A H v d ∧ Db K N A H v2 d2 := by
  subst e
  cases h with
  | cons h1 ht =>
    obtain ⟨v2, e, h2⟩ := db1 ht rfl
    subst e
    exact ⟨_, _, rfl, h1, h2⟩
/-- int(i) -/
@[simp] def fInt : List D → (D → Prop) → Prop
  | [.int i], Q => Q (.int i)
  | _, _ => False
theorem cd_int : CallD K (fun xs H Q => (∃ i, xs = [.int i] ∧ Q (.int i) H) ∨ ∃ k, xs = [.bl k] ∧ Q (.int (if k then 1 else 0)) H) fInt := fun N A H xs ds Q Qd u hf hm hx h k => by
  unfold fInt at h
  split at h
  · obtain ⟨v, rfl, hv⟩ := db1 hx rfl
    rw [hv.ints]
    exact .inl ⟨_, rfl, k _ H _ (Step.refl H) hm (.int _) h⟩
  · exact h.elim
/-- max, min of two ints -/
@[simp] def fMax2 : List D → (D → Prop) → Prop
  | [.int i, .int j], Q => Q (.int (if j > i then j else i))
  | _, _ => False
@[simp] def fMin2 : List D → (D → Prop) → Prop
  | [.int i, .int j], Q => Q (.int (if j < i then j else i))
  | _, _ => False
theorem cd_max2 : CallD K (fun xs H Q => ∃ i j, xs = [.int i, .int j] ∧ Q (.int (if j > i then j else i)) H) fMax2 := fun N A H xs ds Q Qd u hf hm hx h k => by
  unfold fMax2 at h
  split at h
  · obtain ⟨v, v2, rfl, hv, hv2⟩ := db2 hx rfl
    rw [hv.ints, hv2.ints]
    exact ⟨_, _, rfl, k _ H _ (Step.refl H) hm (.int _) h⟩
  · exact h.elim
theorem cd_min2 : CallD K (fun xs H Q => ∃ i j, xs = [.int i, .int j] ∧ Q (.int (if j < i then j else i)) H) fMin2 := fun N A H xs ds Q Qd u hf hm hx h k => by
  unfold fMin2 at h
  split at h
  · obtain ⟨v, v2, rfl, hv, hv2⟩ := db2 hx rfl
    rw [hv.ints, hv2.ints]
    exact ⟨_, _, rfl, k _ H _ (Step.refl H) hm (.int _) h⟩
  · exact h.elim
/-- all, any of a list of bools -/
def fAll (g : List Bool → Bool) : List D → (D → Prop) → Prop := fun ds Q => ∃ bs : List Bool, ds = [.list (bs.map .bool)] ∧ Q (.bool (g bs))
theorem cd_all : CallD K (rAll K) (fAll fun bs => bs.all id) := fun N A H xs ds Q Qd u hf hm hx ⟨bs, e, q⟩ k => by
  obtain ⟨v, rfl, hv⟩ := db1 hx e
  obtain ⟨a, vs, rfl, ha, hvs⟩ := hv.lists
  rw [hvs.of_bools] at ha
  exact ⟨a, bs, rfl, .inl (.inl ha), k _ H _ (Step.refl H) hm (.bl _) q⟩
theorem cd_any : CallD K (rAny K) (fAll fun bs => bs.any id) := fun N A H xs ds Q Qd u hf hm hx ⟨bs, e, q⟩ k => by
  obtain ⟨v, rfl, hv⟩ := db1 hx e
  obtain ⟨a, vs, rfl, ha, hvs⟩ := hv.lists
  rw [hvs.of_bools] at ha
  exact ⟨a, bs, rfl, .inl (.inl ha), k _ H _ (Step.refl H) hm (.bl _) q⟩
/-- tuple(x), list(x) -/
@[simp] def fTupOf : List D → (D → Prop) → Prop
  | [.list xs], Q => Q (.tuple xs)
  | [.tuple xs], Q => Q (.tuple xs)
  | _, _ => False
theorem cd_tup : CallD K (fun xs H Q => ∃ p ys, xs = [.ref p] ∧ ((SqL K H p ys ∧ ∀ l, H l = none → Q (.ref l) (upd H l (.tup ys))) ∨ (SqT K H p ys ∧ Q (.ref p) H))) fTupOf := fun N A H xs ds Q Qd u hf hm hx h k => by
  unfold fTupOf at h
  split at h
  · obtain ⟨v, rfl, hv⟩ := db1 hx rfl
    obtain ⟨a, vs, rfl, ha, hvs⟩ := hv.lists
    exact ⟨a, vs, rfl, .inl ⟨.inl (.inl ha), fun p hp => k _ _ _ (Step.new hp) (hm.new hp (fun m => m)) (.tup upd_same (hf p hp) (hvs.goes (Step.new hp).goes)) h⟩⟩
  · obtain ⟨v, rfl, hv⟩ := db1 hx rfl
    obtain ⟨a, vs, rfl, ha, na, hvs⟩ := hv.tuples
    exact ⟨a, vs, rfl, .inr ⟨.inl (.inl ha), k _ H _ (Step.refl H) hm (.tup ha na hvs) h⟩⟩
  · exact h.elim
@[simp] def fLstOf : List D → (List D → Prop) → Prop
  | [.list xs], Q => Q xs
  | [.tuple xs], Q => Q xs
  | _, _ => False
theorem pListOfF {x : Str} {e : Expr} {p pos : Pos} {w : WE} (hx : x = "list") (hg : Gl X x) (hm : X.mg x = none) (h : PE X e (tBo X.K w)) (he : starEach [e] X.env = (false, eval e X.env) :: starEach [] X.env := by rfl) :
    PE X (.Call (.Name x p) [e] [] pos) (tF X.K fun ρ u Q => w ρ u fun d u1 => fLstOf [d] fun z => Q z u1) := by
  subst hx
  refine PEi (pe_callTy call_list_of hg hm boot_list (pbC h pbN he) (by decide) (by decide) he rfl) fun σ H Q ⟨N, A, H0, ρ, u, Qd, R, hw, k⟩ => ?_
  refine ⟨N, A, H0, ρ, u, fun ds u1 => ∃ d, ds = [d] ∧ fLstOf [d] fun z => Qd z u1, R, ?_, ?_⟩
  · show w ρ u fun d u1 => ∃ d', [d] = [d'] ∧ _
    have e : (fun (d : D) (u1 : Nat) => ∃ d', [d] = [d'] ∧ fLstOf [d'] fun z => Qd z u1) = fun d u1 => fLstOf [d] fun z => Qd z u1 := by
      funext d u1
      exact propext ⟨fun ⟨d', e, h⟩ => by cases e; exact h, fun h => ⟨d, rfl, h⟩⟩
    rw [e]
    exact hw
  · rintro vs H1 ds u1 s1 m1 hd ⟨d, rfl, q⟩
    obtain ⟨v, rfl, hv⟩ := db1 hd rfl
    cases d <;> try exact q.elim
    · obtain ⟨a, vs, rfl, ha, hvs⟩ := hv.lists
      exact ⟨a, vs, rfl, .inl (.inl (.inl ha)), fun p hp => k p _ _ _ u1 (s1.trans (Step.new hp)) (m1.newA hp (fun m => m)) (s1.fresh hp) upd_same (hvs.goes (goes_and (Step.new hp) hp)) q⟩
    · obtain ⟨a, vs, rfl, ha, na, hvs⟩ := hv.tuples
      exact ⟨a, vs, rfl, .inr (.inl (.inl ha)), fun p hp => k p _ _ _ u1 (s1.trans (Step.new hp)) (m1.newA hp (fun m => m)) (s1.fresh hp) upd_same (hvs.goes (goes_and (Step.new hp) hp)) q⟩
/-! ### ranges -/
def rgD (a b : Int) : List D := (List.range (b - a).toNat).map fun i => .int (a + (i : Nat))
theorem da_rg {A : Addr → Prop} {H : Hp} (a b : Int) : DaAll K A H (rgV a b) (rgD a b) := by
  unfold rgV rgD
  generalize (List.range (b - a).toNat) = l
  induction l with
  | nil => exact .nil
  | cons i r ih => exact .cons (.int _) ih
/-- a range's ends -/
abbrev WR := Rho → Nat → (Int → Int → Nat → Prop) → Prop
def tRg (K : PySem.W.Frag) (w : WR) : L2.St → Hp → (Int → Int → Hp → Prop) → Prop := fun σ H Q => ∃ (N A : Addr → Prop) (H0 : Hp) (ρ : Rho) (u : Nat) (Qd : Int → Int → Nat → Prop), Rel K N A H0 σ H ρ u ∧ w ρ u Qd ∧
  ∀ a b H' u', Step H H' → MInv A u' K H' → Qd a b u' → Q a b H'
theorem PRgi {e : Expr} {t t' : L2.St → Hp → (Int → Int → Hp → Prop) → Prop} (h : PRg X e t) (k : ∀ σ H Q, t' σ H Q → t σ H Q) : PRg X e t' := fun pins s σ H Q I q => h pins s σ H Q I (k _ _ _ q)
@[simp] def wr1 (w : WE) : WR := fun ρ u Q => w ρ u fun d u1 => ∃ n, d = .int n ∧ Q 0 n u1
@[simp] def wr2 (w w2 : WE) : WR := fun ρ u Q => w ρ u fun d u1 => w2 ρ u1 fun d2 u2 => ∃ n n2, d = .int n ∧ d2 = .int n2 ∧ Q n n2 u2
theorem pRg1 {a : Expr} {p pos : Pos} {w : WE} (hg : Gl X "range") (hm : X.mg "range" = none) (h : PE X a (tD X.K w)) (na : starEach [a] X.env = (false, eval a X.env) :: starEach [] X.env := by rfl) : PRg X (.Call (.Name "range" p) [a] [] pos) (tRg X.K (wr1 w)) :=
  PRgi (prg_1 hg hm h na) fun σ H Q ⟨N, A, H0, ρ, u, Qd, R, hw, k⟩ => ⟨N, A, H0, ρ, u, _, R, hw, fun v H1 d u1 s1 m1 hd ⟨n, e, q⟩ => ⟨n, by subst e; cases hd; rfl, k _ _ _ u1 s1 m1 q⟩⟩
theorem pRg2 {a b : Expr} {p pos : Pos} {w w2 : WE} (hg : Gl X "range") (hm : X.mg "range" = none) (h : PE X a (tD X.K w)) (h2 : PE X b (tD X.K w2)) (na : starEach [a, b] X.env = (false, eval a X.env) :: starEach [b] X.env := by rfl) (nb : starEach [b] X.env = (false, eval b X.env) :: starEach [] X.env := by rfl) (hp : (backTo pos (starEach [b] X.env)).any (·.1) = false := by rfl) :
    PRg X (.Call (.Name "range" p) [a, b] [] pos) (tRg X.K (wr2 w w2)) :=
  PRgi (prg_2 hg hm h h2 na nb hp) fun σ H Q ⟨N, A, H0, ρ, u, Qd, R, hw, k⟩ => ⟨N, A, H0, ρ, u, _, R, hw, fun v H1 d u1 s1 m1 hd q1 => ⟨N, A, H0, ρ, u1, _, R.go s1 m1, q1, fun v2 H2 d2 u2 s2 m2 hd2 ⟨n, n2, e, e2, q⟩ =>
    ⟨n, n2, by subst e; cases hd; rfl, by subst e2; cases hd2; rfl, k _ _ _ u2 (s1.trans s2) m2 q⟩⟩⟩
theorem pListRgF {e : Expr} {p pos : Pos} {w : WR} (hc : X.calm = true) (hg : Gl X "list") (hm : X.mg "list" = none) (h : PRg X e (tRg X.K w)) (na : starEach [e] X.env = (false, eval e X.env) :: starEach [] X.env := by rfl) :
    PE X (.Call (.Name "list" p) [e] [] pos) (tF X.K fun ρ u Q => w ρ u fun a b u1 => RgOk a b ∧ Q (rgD a b) u1) := PEi (pe_listRg hc hg hm h na) fun σ H Q ⟨N, A, H0, ρ, u, Qd, R, hw, k⟩ =>
  ⟨N, A, H0, ρ, u, _, R, hw, fun a b H1 u1 s1 m1 ⟨ok, q⟩ => ⟨ok, fun p hp => k p _ _ _ u1 (s1.trans (Step.new hp)) (m1.newA hp (fun m => m)) (s1.fresh hp) upd_same (da_rg a b) q⟩⟩
theorem pTupRg {e : Expr} {p pos : Pos} {w : WR} (hc : X.calm = true) (hg : Gl X "tuple") (hm : X.mg "tuple" = none) (h : PRg X e (tRg X.K w)) (na : starEach [e] X.env = (false, eval e X.env) :: starEach [] X.env := by rfl) :
    PE X (.Call (.Name "tuple" p) [e] [] pos) (tD X.K fun ρ u Q => w ρ u fun a b u1 => RgOk a b ∧ Q (.tuple (rgD a b)) u1) := PEi (pe_tupRg hc hg hm h na) fun σ H Q ⟨N, A, H0, ρ, u, Qd, R, hw, k⟩ =>
  ⟨N, A, H0, ρ, u, _, R, hw, fun a b H1 u1 s1 m1 ⟨ok, q⟩ => ⟨ok, fun p hp => k _ _ _ u1 (s1.trans (Step.new hp)) (m1.new hp (fun m => m)) (.tup upd_same (R.fresh (s1.fresh hp)) (da_rg a b)) q⟩⟩
end
end DW

set_option Elab.async false
set_option linter.all false
set_option maxRecDepth 100000
set_option maxHeartbeats 2000000
namespace DW
open PySem PySem.Spec PyProof.Rows L2
/-! ### enumerate of a tuple -/
theorem meets_enum1 {v : Value} {o : Obj} {H : Heap → Prop} (B : Begins v o H) :
    Meets (Builtin.«enumerate.__new__» ⟨[.type "enumerate", v], []⟩) (fun _ R s => H s.heap ∧
      R (.ok (.ret (.ref (s.heap.push o).objs.size))) { s with heap := (s.heap.push o).push { cls := .type "enumerate", data := .fields #[.none, .bool false, .ref s.heap.objs.size, rawInt 0, .none, .none] } }) :=
  .of_wp fun prog w A R s h => by
    obtain ⟨hp, g, d, tk, os⟩ := s; obtain ⟨h1, h⟩ := h
    have hsub := sub_enumerate
    have q1 : ∀ {A' : Around} {E : Value → Shared → Prop} {Q : Value → Shared → Prop}, Q (.ref hp.objs.size) ⟨hp.push o, g, d, tk, os⟩ → wpAny (model prog w) A' (pyIter v) Q E ⟨hp, g, d, tk, os⟩ :=
      fun q => B.iter prog w _ _ ⟨hp, g, d, tk, os⟩ _ h1 q
    wp_walk using q1
    refine wpAny_stack_any fun st => wpAny_pure ?_
    split
    · rename_i c _ _ _ _ _
      cases (c == Value.type "enumerate")
      · wp_walk using q1
        exact ⟨_, rfl, h⟩
      · wp_walk using q1
        exact ⟨_, rfl, h⟩
    · wp_walk using q1
      exact ⟨_, rfl, h⟩
theorem call_enum1 {prog : Program} {w : World} {A : Around} {E : Value → Shared → Prop} {s : Shared} {v : Value} {o : Obj} {H : Heap → Prop} {Q : Value → Shared → Prop} (B : Begins v o H) (h1 : H s.heap)
    (h : ∀ h', IsEnum h' (s.heap.objs.size + 1) s.heap.objs.size 0 .none → h'.get? s.heap.objs.size = some o → h'.objs.size = s.heap.objs.size + 2 →
      (∀ b o, s.heap.get? b = some o → h'.get? b = some o) → Q (.ref (s.heap.objs.size + 1)) { s with heap := h' }) :
    wpAny (model prog w) A (call (.type "enumerate") [v]) Q E s := by
  refine callType_new F.called_enumerate (by decide) (F.typeCall_enumerate_1 _) (F.newCall_enumerate_1 _) (fun obj => F.args_object_init_2 obj _) F.entry_enumerate_new
    (meets_enum1 B) ⟨h1, ?_⟩
  have hz : (s.heap.push o).objs.size = s.heap.objs.size + 1 := Heap.size_push ..
  show _ ∧ _
  rw [hz]
  have he : IsEnum ((s.heap.push o).push { cls := .type "enumerate", data := .fields #[.none, .bool false, .ref s.heap.objs.size, rawInt 0, .none, .none] }) (s.heap.objs.size + 1) s.heap.objs.size 0 .none := by
    have := Heap.get?_push_size (s.heap.push o) (o := { cls := .type "enumerate", data := .fields #[.none, .bool false, .ref s.heap.objs.size, rawInt 0, .none, .none] }) rfl
    rw [hz] at this; exact this
  refine ⟨⟨_, he, rfl⟩, h _ he (Heap.get?_push_of_some _ (Heap.get?_push_size _ B.free)) (by rw [Heap.size_push, hz]) fun b o x => Heap.get?_push_of_some _ (Heap.get?_push_of_some _ x)⟩
/-- the tuple at a, each item in a new pair -/
def IteT (K : PySem.W.Frag) (a : Addr) : It :=
  ⟨fun i H => ∃ (xs : List V) (x : V), SqT K H a xs ∧ xs[i]? = some x, fun i H v H' => ∃ T x, v = .ref T ∧ H T = none ∧ H' = upd H T (.tup [.int (i : Nat), x]) ∧ ∀ xs, SqT K H a xs → xs[i]? = some x, fun i H => ∃ xs : List V, SqT K H a xs ∧ xs.length ≤ i⟩
theorem turn_enumT {P : Program} {w : World} {K : PySem.W.Frag} {elts : List Expr} {kk : Nat} {tpos : Pos} (a e it : Addr) :
    Turn P w K (.Tuple elts kk tpos) (IteT K a) [e, it] e (fun i h => (∃ old, IsEnum h e it ((i : Nat) : Int) old) ∧ h.IsTupleIter it a i ∧ e ≠ it ∧ e ≠ a ∧ a ≠ it) where
  mem := by simp
  obj := fun i h st b hb => by
    obtain ⟨⟨old, he⟩, ⟨o, ho, hc, hd⟩, _⟩ := st
    have e' : b = e ∨ b = it := by simpa using hb
    rcases e' with z | z
    · rw [z]; exact ⟨_, he, fun v q => nomatch q⟩
    · rw [z]; exact ⟨o, ho, fun v q => by rw [hd] at q; cases q⟩
  keep := fun i h h' st k => let ⟨⟨old, he⟩, hi, hne⟩ := st; ⟨⟨old, k e (by simp) _ he⟩, hi.at fun o q => k it (by simp) o q, hne⟩
  item := by
    intro X hP hw hK hc i pins s σ H E I hf st hg
    subst hP hw hK
    obtain ⟨⟨old, he⟩, hit, hne, hea, hai⟩ := st
    obtain ⟨xs, x, hq, hx⟩ := hg
    obtain ⟨its, rv, p, hz⟩ := I.tuple hq
    obtain ⟨u, hu, ru⟩ := rv.get hx
    have hel : e < s.heap.objs.size := Heap.lt_size he
    have hil : it < s.heap.objs.size := by obtain ⟨_, q, _⟩ := hit; exact Heap.lt_size q
    have hi : i < its.toArray.size := by
      have := (List.getElem?_eq_some_iff.mp hu).1
      simpa using this
    have Dr := Draws.tuple (prog := X.prog) (w := X.w) (A := X.A.in1) (I.ok.hd hc) it a hai its.toArray
    refine wpAny_pyNext_enum_itemD Dr he ⟨hit, p⟩ hi hne (by simp [hne, hea]) fun x' h' tk hP ho hs' hT hsz hk => ?_
    have ex : x' = u := by
      have h1 : its.toArray[i]? = some u := by simpa using hu
      rw [h1] at hP; exact (Option.some.inj hP).symm
    subst ex
    refine ⟨_, rfl, wpAny_letOwnedTupleGo_enum (s := { s with heap := h', toks := tk + 1 }) ho fun h'' he' sb => ?_⟩
    have hT2 : h''.get? s.heap.objs.size = some { cls := .type "tuple", data := .seq #[.int i tk, x'] } := (sb.2 _ (Nat.ne_of_gt hel)).trans hT
    have new : ObjOk X.prog X.w (upd H s.heap.objs.size (.tup [.int (i : Nat), x])) h'' s.heap.objs.size (.tup [.int (i : Nat), x]) :=
      ⟨by show 2 ≤ sizeLine; decide, [.int i tk, x'], .cons ⟨_, rfl⟩ (.cons ru .nil), ⟨_, hT2, rfl, _, rfl⟩⟩
    have I1 : Inv X pins σ (upd H s.heap.objs.size (.tup [.int (i : Nat), x])) { s with heap := h'', toks := tk + 1 } :=
      I.turnedNew (ch := [e, it]) (fun b ob hb q => (sb.2 b (fun z => hb (by simp [z]))).trans (hk b ob (fun z => hb (by simp [z])) (fun z => hb (by simp [z])) q)) hf (Nat.le_refl _) new
    refine ⟨.ref s.heap.objs.size, _, I1, rfl, ⟨_, x, rfl, I.hok.fresh (Nat.le_refl _), rfl, fun ys hy => by rw [I.tuple_inj hy hq]; exact hx⟩, ⟨⟨x', ?_⟩, hs'.1.at fun o q => (sb.2 it (Ne.symm hne)).trans q, hne, hea, hai⟩, fun b hb => ?_⟩
    · have e1 : ((i + 1 : Nat) : Int) = (i : Int) + 1 := by omega
      rw [e1]; exact he'
    · have hb' : b < s.heap.objs.size := by
        have e' : b = e ∨ b = it := by simpa using hb
        rcases e' with z | z
        · rw [z]; exact hel
        · rw [z]; exact hil
      rw [upd_ne (Nat.ne_of_lt hb')]
      exact (hf b hb).1
  done := by
    intro X hP hw hK hc i pins s σ H E I hf st hg
    subst hP hw hK
    obtain ⟨⟨old, he⟩, hit, hne, hea, hai⟩ := st
    obtain ⟨xs, hq, hx⟩ := hg
    obtain ⟨its, rv, p, hz⟩ := I.tuple hq
    obtain ⟨f0, f1, f2, f3, f4, f5⟩ := hf it (by simp)
    have hl := rv.length
    have hT : s.TypeIs (.ref e) "enumerate" := ⟨_, he, rfl⟩
    unfold pyNext
    refine wpAny_bind (wpAny_attempt (wpAny_callSpecial?_slot (name := Str.ofString "__next__") hT F.slot_enumerate_next
      (wpAny_call_entry F.slot_enumerate_next hT F.entry_enumerate_next ?_ (F.args_enumerate_next_1 _))))
    show wpAny _ _ (field (.ref e) 2 >>= _) _ _ _
    refine wpAny_bind (wpAny_field he rfl (x := .ref it) rfl ?_)
    refine wpAny_bind (wpAny_nextOf_tuple_end (I.ok.hd hc) hit p (by simp; omega) fun h' x he' hx' => ?_)
    obtain ⟨o, ho, hcl⟩ := hx'
    refine wpAny_bind (wpAny_isInstance (T := "StopIteration") (b := true) ⟨o, ho, hcl⟩ isSubtype_stop ?_)
    exact wpAny_pure ⟨rfl, I.turned (t' := s.toks) (fun b o hb q => he' b o hb q) f0 f1 f3 f4 f5⟩
  self := fun A i s Q E st h => let ⟨⟨_, he⟩, _⟩ := st; wpAny_pyIter_enum he h
def iEnumT (K : PySem.W.Frag) (ta : TA) : TI := fun σ H R => ta σ H fun vs H1 => ∃ a xs, vs = [.ref a] ∧ ((SqL K H1 a xs ∧ R (Ite K a) H1) ∨ (SqT K H1 a xs ∧ R (IteT K a) H1))
theorem pi_enumA {X : Cx} {e : Expr} {ta : TA} {p pos tpos : Pos} {elts : List Expr} {kk : Nat} (hg : Gl X "enumerate") (hm : X.mg "enumerate" = none) (ha : PA X [e] ta) (hs : starEach [e] X.env = [(false, eval e X.env)] := by rfl) :
    PI X (.Tuple elts kk tpos) (.Call (.Name "enumerate" p) [e] [] pos) (iEnumT X.K ta) := by
  refine ⟨fun pins s σ H R I h => ?_⟩
  refine Call_ (ld_blt I hg hm boot_enumerate (PyProof.Rows.callWith_type1 (thn (ha.run pos pins s σ H _ I h) fun us s1 ⟨vs, H1, I1, r1, q1⟩ => ?_) hs rfl))
  obtain ⟨a, xs, ex, hq⟩ := q1
  subst ex
  cases r1 with
  | cons r rr =>
    cases rr
    cases r
    have fpok : ∀ b ∈ [s1.heap.objs.size + 1, s1.heap.objs.size], FpOk X pins H1 b := fun b hb => by
      have e' : b = s1.heap.objs.size + 1 ∨ b = s1.heap.objs.size := by simpa using hb
      have hle : s1.heap.objs.size ≤ b := by
        rcases e' with z | z
        · rw [z]; exact Nat.le_add_right _ _
        · rw [z]; exact Nat.le_refl _
      exact I1.fpOk hle (I1.hok.fresh hle)
    rcases hq with ⟨hq, q⟩ | ⟨hq, q⟩
    · obtain ⟨its, rv, p', hz⟩ := I1.list hq
      refine call_enumerate_list p'.isList fun h' he hit hsz hk => wpAny_pyIter_enum he ?_
      have I2 : Inv X pins σ H1 { s1 with heap := h' } := I1.kept (t' := s1.toks) hk
      exact ⟨s1.heap.objs.size + 1, [s1.heap.objs.size + 1, s1.heap.objs.size], _, _, H1, rfl, I2, turn_enum a (s1.heap.objs.size + 1) s1.heap.objs.size, ⟨⟨.none, he⟩, hit, Nat.succ_ne_self _⟩, fpok, q⟩
    · obtain ⟨its, rv, p', hz⟩ := I1.tuple hq
      have hal : a < s1.heap.objs.size := p'.lt
      refine call_enum1 (begins_tuple a its.toArray) p' fun h' he hit hsz hk => wpAny_pyIter_enum he ?_
      have I2 : Inv X pins σ H1 { s1 with heap := h' } := I1.kept (t' := s1.toks) hk
      exact ⟨s1.heap.objs.size + 1, [s1.heap.objs.size + 1, s1.heap.objs.size], _, _, H1, rfl, I2, turn_enumT a (s1.heap.objs.size + 1) s1.heap.objs.size, ⟨⟨.none, he⟩, ⟨_, hit, rfl, rfl⟩, Nat.succ_ne_self _, Nat.ne_of_gt (Nat.lt_succ_of_lt hal), Nat.ne_of_lt hal⟩, fpok, q⟩
/-! ### a list or a tuple, walked -/
def iSeq (K : PySem.W.Frag) (tl : TE) : TI := fun σ H R => tl σ H fun x H1 => ∃ a xs, x = .ref a ∧ ((SqL K H1 a xs ∧ R (Itl K a) H1) ∨ (SqT K H1 a xs ∧ R (Itt K a) H1))
theorem pi_seq {X : Cx} {tg l : Expr} {tl : TE} (hl : PE X l tl) : PI X tg l (iSeq X.K tl) := by
  refine ⟨fun pins s σ H R I h => ?_⟩
  refine thn (hl.run pins s σ H _ I h) fun v s1 ⟨x, H1, I1, r1, q1⟩ => ?_
  obtain ⟨a, xs, e, hq⟩ := q1
  subst e
  cases r1
  rcases hq with ⟨hq, q⟩ | ⟨hq, q⟩
  · obtain ⟨its, rv, p, hz⟩ := I1.list hq
    refine wpAny_pyIter_list p.isList ?_
    refine ⟨s1.heap.objs.size, [s1.heap.objs.size], _, _, H1, rfl, I1.kept (t' := s1.toks) fun b o e => Heap.get?_push_of_some _ e, turn_list a _, ⟨_, Heap.get?_push_size _ rfl, rfl, rfl⟩, fun b hb => ?_, q⟩
    have e : b = s1.heap.objs.size := by simpa using hb
    subst e
    exact I1.fpOk (Nat.le_refl _) (I1.hok.fresh (Nat.le_refl _))
  · obtain ⟨its, rv, p, hz⟩ := I1.tuple hq
    refine wpAny_pyIter_tuple (show s1.heap.IsTuple a its.toArray from p) ?_
    refine ⟨s1.heap.objs.size, [s1.heap.objs.size], _, _, H1, rfl, I1.kept (t' := s1.toks) fun b o e => Heap.get?_push_of_some _ e, turn_tuple a _, ⟨_, Heap.get?_push_size _ rfl, rfl, rfl⟩, fun b hb => ?_, q⟩
    have e : b = s1.heap.objs.size := by simpa using hb
    subst e
    exact I1.fpOk (Nat.le_refl _) (I1.hok.fresh (Nat.le_refl _))
end DW

set_option Elab.async false
set_option linter.all false
set_option maxRecDepth 100000
set_option maxHeartbeats 2000000
namespace DW
open PySem PySem.Spec PyProof.Rows L2
/-! ### walks over data -/
structure ItG (K : PySem.W.Frag) (J : It) (ds : List D) (G : (Addr → Prop) → Hp → Prop) : Prop where
  over : ∀ A A' H H', Goes A A' H H' → G A H → G A' H'
  goes : ∀ i A H, i < ds.length → G A H → J.go i H
  stops : ∀ A H, G A H → J.stop ds.length H
  yields : ∀ i A H x H', i < ds.length → G A H → (∀ p, H p = none → ¬ A p) → J.yld i H x H' → Step H H' ∧ (∀ u, MInv A u K H → MInv A u K H') ∧ ∃ d, ds[i]? = some d ∧ Da K A H' x d
def ItOk (K : PySem.W.Frag) (A : Addr → Prop) (J : It) (ds : List D) (H : Hp) : Prop := ∃ G, ItG K J ds G ∧ G A H
def tIt (K : PySem.W.Frag) (w : WA) : TI := fun σ H R => ∃ (N A : Addr → Prop) (H0 : Hp) (ρ : Rho) (u : Nat) (Qd : List D → Nat → Prop), Rel K N A H0 σ H ρ u ∧ w ρ u Qd ∧
  ∀ J H' ds u', Step H H' → MInv A u' K H' → ItOk K A J ds H' → Qd ds u' → R J H'
section
variable {X : Cx} {K : PySem.W.Frag}
theorem PIi {tg e : Expr} {t t' : TI} (h : PI X tg e t) (k : ∀ σ H Q, t' σ H Q → t σ H Q) : PI X tg e t' := ⟨fun pins s σ H Q I q => h.run pins s σ H Q I (k _ _ _ q)⟩
theorem PIor {tg e : Expr} {t t' : TI} (h : PI X tg e t) (h' : PI X tg e t') : PI X tg e (fun σ H R => t σ H R ∨ t' σ H R) := ⟨fun pins s σ H Q I q => q.elim (fun q => h.run pins s σ H Q I q) fun q => h'.run pins s σ H Q I q⟩
theorem it_list {a : Addr} {vs : List V} {ds : List D} {A : Addr → Prop} {H : Hp} (h : H a = some (.lst vs)) (n : ¬ A a) (hd : DaAll K A H vs ds) : ItOk K A (Itl K a) ds H := by
  refine ⟨fun A H => H a = some (.lst vs) ∧ ¬ A a ∧ DaAll K A H vs ds, ⟨fun A A' H H' g ⟨h1, h2, h3⟩ => ⟨g.keep _ _ h2 h1 (fun m => m), g.notin h2 (by rw [h1]; simp), h3.goes g⟩, fun i A H hi ⟨h1, h2, h3⟩ => ?_, fun A H ⟨h1, h2, h3⟩ => ?_, fun i A H x H' hi ⟨h1, h2, h3⟩ _ y => ?_⟩, h, n, hd⟩
  · have hl : i < vs.length := by rw [h3.length]; exact hi
    exact ⟨vs, vs[i], .inl (.inl h1), by simp [hl]⟩
  · exact ⟨vs, .inl (.inl h1), by rw [h3.length]; exact Nat.le_refl _⟩
  · obtain ⟨e, y⟩ := y
    subst e
    have e := y vs (.inl (.inl h1))
    obtain ⟨d, h4, h5⟩ := h3.get' e
    exact ⟨Step.refl _, fun _ m => m, d, h4, h5⟩
theorem it_tup {a : Addr} {vs : List V} {ds : List D} {A : Addr → Prop} {H : Hp} (h : SqT K H a vs) (n : ¬ A a) (t : H a ≠ none) (hd : DaAll K A H vs ds) : ItOk K A (Itt K a) ds H := by
  refine ⟨fun A H => SqT K H a vs ∧ ¬ A a ∧ H a ≠ none ∧ DaAll K A H vs ds, ⟨fun A A' H H' g ⟨h1, h2, h4, h3⟩ => ⟨g.sqt h1 h2, g.notin h2 h4, g.there h2 h4, h3.goes g⟩, fun i A H hi ⟨h1, h2, h4, h3⟩ => ?_, fun A H ⟨h1, h2, h4, h3⟩ => ?_, fun i A H x H' hi ⟨h1, h2, h4, h3⟩ _ y => ?_⟩, h, n, t, hd⟩
  · have hl : i < vs.length := by rw [h3.length]; exact hi
    exact ⟨vs, vs[i], h1, by simp [hl]⟩
  · exact ⟨vs, h1, by rw [h3.length]; exact Nat.le_refl _⟩
  · obtain ⟨e, y⟩ := y
    subst e
    have e := y vs h1
    obtain ⟨d, h4, h5⟩ := h3.get' e
    exact ⟨Step.refl _, fun _ m => m, d, h4, h5⟩
theorem it_rng {lo : Int} {n : Nat} {A : Addr → Prop} {H : Hp} : ItOk K A (Itr lo n) ((List.range n).map fun i => .int (lo + (i : Nat))) H := by
  refine ⟨fun _ _ => True, ⟨fun _ _ _ _ _ h => h, fun i A H hi _ => by simpa [Itr] using hi, fun A H _ => by simp [Itr], fun i A H x H' hi _ _ y => ?_⟩, trivial⟩
  obtain ⟨e, y⟩ := y
  subst e y
  have hi' : i < n := by simpa using hi
  exact ⟨Step.refl _, fun _ m => m, .int (lo + i), by simp [hi'], .int _⟩
theorem it_enum {a : Addr} {vs : List V} {ds : List D} {A : Addr → Prop} {H : Hp} (h : H a = some (.lst vs)) (n : ¬ A a) (hd : DaAll K A H vs ds) : ItOk K A (Ite K a) (ds.zipIdx.map fun p => .tuple [.int (p.2 : Nat), p.1]) H := by
  refine ⟨fun A H => H a = some (.lst vs) ∧ ¬ A a ∧ DaAll K A H vs ds, ⟨fun A A' H H' g ⟨h1, h2, h3⟩ => ⟨g.keep _ _ h2 h1 (fun m => m), g.notin h2 (by rw [h1]; simp), h3.goes g⟩, fun i A H hi ⟨h1, h2, h3⟩ => ?_, fun A H ⟨h1, h2, h3⟩ => ?_, fun i A H x H' hi ⟨h1, h2, h3⟩ hf y => ?_⟩, h, n, hd⟩
  · have hl : i < vs.length := by rw [h3.length]; simpa using hi
    exact ⟨vs, vs[i], .inl (.inl h1), by simp [hl]⟩
  · exact ⟨vs, .inl (.inl h1), by rw [h3.length]; simp⟩
  · obtain ⟨T, z, e, hT, e2, y⟩ := y
    subst e e2
    have e := y vs (.inl (.inl h1))
    obtain ⟨d, h4, h5⟩ := h3.get' e
    refine ⟨Step.new hT, fun u m => m.new hT (fun m => m), .tuple [.int (i : Nat), d], ?_, .tup upd_same (hf T hT) (.cons (.int _) (.cons (h5.goes (Step.new hT).goes) .nil))⟩
    rw [List.getElem?_map, List.getElem?_zipIdx, h4]
    simp
theorem it_enumT {a : Addr} {vs : List V} {ds : List D} {A : Addr → Prop} {H : Hp} (h : SqT K H a vs) (n : ¬ A a) (t : H a ≠ none) (hd : DaAll K A H vs ds) : ItOk K A (IteT K a) (ds.zipIdx.map fun p => .tuple [.int (p.2 : Nat), p.1]) H := by
  refine ⟨fun A H => SqT K H a vs ∧ ¬ A a ∧ H a ≠ none ∧ DaAll K A H vs ds, ⟨fun A A' H H' g ⟨h1, h2, h4, h3⟩ => ⟨g.sqt h1 h2, g.notin h2 h4, g.there h2 h4, h3.goes g⟩, fun i A H hi ⟨h1, h2, h4, h3⟩ => ?_, fun A H ⟨h1, h2, h4, h3⟩ => ?_, fun i A H x H' hi ⟨h1, h2, h4, h3⟩ hf y => ?_⟩, h, n, t, hd⟩
  · have hl : i < vs.length := by rw [h3.length]; simpa using hi
    exact ⟨vs, vs[i], h1, by simp [hl]⟩
  · exact ⟨vs, h1, by rw [h3.length]; simp⟩
  · obtain ⟨T, z, e, hT, e2, y⟩ := y
    subst e e2
    have e := y vs h1
    obtain ⟨d, h4, h5⟩ := h3.get' e
    refine ⟨Step.new hT, fun u m => m.new hT (fun m => m), .tuple [.int (i : Nat), d], ?_, .tup upd_same (hf T hT) (.cons (.int _) (.cons (h5.goes (Step.new hT).goes) .nil))⟩
    rw [List.getElem?_map, List.getElem?_zipIdx, h4]
    simp
@[simp] def seqD : D → (List D → Prop) → Prop
  | .list xs, Q => Q xs
  | .tuple xs, Q => Q xs
  | _, _ => False
def enumD (ds : List D) : List D := ds.zipIdx.map fun p => .tuple [.int (p.2 : Nat), p.1]
@[simp] def wi1 (w : WE) : WA := fun ρ u Q => w ρ u fun d u1 => seqD d fun ds => Q ds u1
@[simp] def wiE (w : WE) : WA := fun ρ u Q => w ρ u fun d u1 => seqD d fun ds => Q (enumD ds) u1
theorem piSeq {tg e : Expr} {w : WE} (h : PE X e (tD X.K w)) : PI X tg e (tIt X.K (wi1 w)) := PIi (pi_seq h) fun σ H Q ⟨N, A, H0, ρ, u, Qd, R, hw, k⟩ =>
  ⟨N, A, H0, ρ, u, _, R, hw, fun v H1 d u1 s1 m1 hd q => by
    cases d <;> try exact q.elim
    · cases hd with
      | lst h1 h2 h3 => exact ⟨_, _, rfl, .inl ⟨.inl (.inl h1), k _ _ _ u1 s1 m1 (it_list h1 h2 h3) q⟩⟩
    · cases hd with
      | tup h1 h2 h3 => exact ⟨_, _, rfl, .inr ⟨.inl (.inl h1), k _ _ _ u1 s1 m1 (it_tup (.inl (.inl h1)) h2 (by rw [h1]; simp) h3) q⟩⟩⟩
theorem piEnum {elts : List Expr} {kk : Nat} {tpos : Pos} {e : Expr} {p pos : Pos} {w : WE} (hg : Gl X "enumerate") (hm : X.mg "enumerate" = none) (h : PE X e (tD X.K w)) (he : starEach [e] X.env = (false, eval e X.env) :: starEach [] X.env := by rfl) :
    PI X (.Tuple elts kk tpos) (.Call (.Name "enumerate" p) [e] [] pos) (tIt X.K (wiE w)) := PIi (pi_enumA hg hm (paC h paN he) he) fun σ H Q ⟨N, A, H0, ρ, u, Qd, R, hw, k⟩ =>
  ⟨N, A, H0, ρ, u, fun ds u1 => ∃ d, ds = [d] ∧ seqD d fun ds => Qd (enumD ds) u1, R, by
    show w ρ u fun d u1 => ∃ d', [d] = [d'] ∧ _
    have e : (fun (d : D) (u1 : Nat) => ∃ d', [d] = [d'] ∧ seqD d' fun ds => Qd (enumD ds) u1) = fun d u1 => seqD d fun ds => Qd (enumD ds) u1 := by
      funext d u1
      exact propext ⟨fun ⟨d', e, h⟩ => by cases e; exact h, fun h => ⟨d, rfl, h⟩⟩
    rw [e]
    exact hw, fun vs H1 ds u1 s1 m1 hd ⟨d, e, q⟩ => by
    subst e
    cases hd with
    | cons hd ht =>
      cases ht
      cases d <;> try exact q.elim
      · cases hd with
        | lst h1 h2 h3 => exact ⟨_, _, rfl, .inl ⟨.inl (.inl h1), k _ _ _ u1 s1 m1 (it_enum h1 h2 h3) q⟩⟩
      · cases hd with
        | tup h1 h2 h3 => exact ⟨_, _, rfl, .inr ⟨.inl (.inl h1), k _ _ _ u1 s1 m1 (it_enumT (.inl (.inl h1)) h2 (by rw [h1]; simp) h3) q⟩⟩⟩
theorem one_arg_w {w : WE} {ρ : Rho} {u : Nat} {P : D → Nat → Prop} (h : w ρ u P) : waCons w waNil ρ u fun ds u1 => ∃ d, ds = [d] ∧ P d u1 := by
  show w ρ u fun d u1 => ∃ d', [d] = [d'] ∧ P d' u1
  have e : (fun (d : D) (u1 : Nat) => ∃ d', [d] = [d'] ∧ P d' u1) = P := by
    funext d u1
    exact propext ⟨fun ⟨d', e, h⟩ => by cases e; exact h, fun h => ⟨d, rfl, h⟩⟩
  rw [e]
  exact h
theorem two_arg_w {w w2 : WE} {ρ : Rho} {u : Nat} {P : D → D → Nat → Prop} (h : w ρ u fun d u1 => w2 ρ u1 fun d2 u2 => P d d2 u2) : waCons w (waCons w2 waNil) ρ u fun ds u1 => ∃ d d2, ds = [d, d2] ∧ P d d2 u1 := by
  show w ρ u fun d u1 => w2 ρ u1 fun d2 u2 => ∃ e e2, [d, d2] = [e, e2] ∧ P e e2 u2
  have e : (fun (d : D) (u1 : Nat) => w2 ρ u1 fun d2 u2 => ∃ e e2, [d, d2] = [e, e2] ∧ P e e2 u2) = fun d u1 => w2 ρ u1 fun d2 u2 => P d d2 u2 := by
    funext d u1
    have e2 : (fun (d2 : D) (u2 : Nat) => ∃ e e2, [d, d2] = [e, e2] ∧ P e e2 u2) = fun d2 u2 => P d d2 u2 := by
      funext d2 u2
      exact propext ⟨fun ⟨e, e2, h1, h2⟩ => by cases h1; exact h2, fun h => ⟨d, d2, rfl, h⟩⟩
    rw [e2]
  rw [e]
  exact h
def big62 (j : Int) : Prop := -(2 ^ 62) ≤ j ∧ j < 2 ^ 62
@[simp] def wiR1 (w : WE) : WA := fun ρ u Q => w ρ u fun d u1 => ∃ j, d = .int j ∧ big62 j ∧ Q (rgD 0 j) u1
@[simp] def wiR2 (w w2 : WE) : WA := fun ρ u Q => w ρ u fun d u1 => w2 ρ u1 fun d2 u2 => ∃ i j, d = .int i ∧ d2 = .int j ∧ big62 i ∧ big62 j ∧ Q (rgD i j) u2
theorem piRg1 {tg a : Expr} {p pos : Pos} {w : WE} (hg : Gl X "range") (hm : X.mg "range" = none) (h : PE X a (tD X.K w)) (he : starEach [a] X.env = (false, eval a X.env) :: starEach [] X.env := by rfl) : PI X tg (.Call (.Name "range" p) [a] [] pos) (tIt X.K (wiR1 w)) :=
  PIi (pi_range1 hg hm (paC h paN he) he) fun σ H Q ⟨N, A, H0, ρ, u, Qd, R, hw, k⟩ => ⟨N, A, H0, ρ, u, _, R, one_arg_w hw, fun vs H1 ds u1 s1 m1 hd ⟨d, e, j, e2, b, q⟩ => by
    subst e e2
    cases hd with
    | cons hd ht =>
      cases ht
      cases hd
      refine ⟨j, rfl, b.1, b.2, ?_⟩
      have := k (Itr 0 j.toNat) H1 (rgD 0 j) u1 s1 m1 (by unfold rgD; rw [Int.sub_zero]; exact it_rng) q
      exact this⟩
theorem piRg2 {tg a b : Expr} {p pos : Pos} {w w2 : WE} (hg : Gl X "range") (hm : X.mg "range" = none) (h : PE X a (tD X.K w)) (h2 : PE X b (tD X.K w2)) (he : starEach [a, b] X.env = (false, eval a X.env) :: starEach [b] X.env := by rfl) (he2 : starEach [b] X.env = (false, eval b X.env) :: starEach [] X.env := by rfl)
    (he3 : starEach [a, b] X.env = [(false, eval a X.env), (false, eval b X.env)] := by rfl) (he4 : starEach [b] X.env = [(false, eval b X.env)] := by rfl) : PI X tg (.Call (.Name "range" p) [a, b] [] pos) (tIt X.K (wiR2 w w2)) :=
  PIi (pi_range2 hg hm (paC h (paC h2 paN he2) he) he3 he4) fun σ H Q ⟨N, A, H0, ρ, u, Qd, R, hw, k⟩ => ⟨N, A, H0, ρ, u, _, R, two_arg_w hw, fun vs H1 ds u1 s1 m1 hd ⟨d, d2, e, i, j, e2, e3, b, b2, q⟩ => by
    subst e e2 e3
    cases hd with
    | cons hd ht =>
      cases ht with
      | cons hd2 ht =>
        cases ht
        cases hd
        cases hd2
        exact ⟨i, j, rfl, ⟨b.1, b.2, b2.1, b2.2⟩, k (Itr i (j - i).toNat) H1 (rgD i j) u1 s1 m1 it_rng q⟩⟩
/-! ### targets -/
def Off (is : List Nat) (σ σ' : L2.St) : Prop := σ'.length = σ.length ∧ ∀ i : Nat, i ∉ is → σ'[i]? = σ[i]?
theorem Off.refl {is : List Nat} {σ : L2.St} : Off is σ σ := ⟨rfl, fun _ _ => rfl⟩
theorem Off.trans {is js : List Nat} {σ σ1 σ2 : L2.St} (a : Off is σ σ1) (b : Off js σ1 σ2) : Off (is ++ js) σ σ2 := ⟨b.1.trans a.1, fun i h => by
  rw [List.mem_append, not_or] at h
  rw [b.2 i h.2, a.2 i h.1]⟩
theorem wipe_get (σ : L2.St) : ∀ (vs : List Nat) (i : Nat), (wipe σ vs)[i]? = if i ∈ vs then (σ[i]?).map (fun _ => none) else σ[i]?
  | [], i => by simp [wipe]
  | v :: vs, i => by
    unfold wipe
    have hl := wipe_length σ vs
    by_cases h : v = i
    · subst h
      rw [if_pos (by simp)]
      by_cases hi : v < σ.length
      · rw [List.getElem?_set_self (by omega), List.getElem?_eq_getElem hi]; rfl
      · rw [List.getElem?_eq_none (by rw [List.length_set]; omega), List.getElem?_eq_none (by omega)]; rfl
    · rw [List.getElem?_set_ne h, wipe_get σ vs i]
      have e : i ∈ v :: vs ↔ i ∈ vs := by
        rw [List.mem_cons]
        exact ⟨fun q => q.elim (fun q => absurd q.symm h) id, .inr⟩
      by_cases q : i ∈ vs
      · rw [if_pos q, if_pos (e.mpr q)]
      · rw [if_neg q, if_neg (fun z => q (e.mp z))]
theorem Off.wiped {is vs : List Nat} {σ σ2 : L2.St} (h : Off is (wipe σ vs) σ2) (sub : ∀ i ∈ is, i ∈ vs) : wipe σ2 vs = wipe σ vs := by
  apply List.ext_getElem?
  intro i
  rw [wipe_get, wipe_get]
  by_cases q : i ∈ vs
  · rw [if_pos q, if_pos q]
    have hl : σ2.length = σ.length := by rw [h.1, wipe_length]
    by_cases hi : i < σ.length
    · rw [List.getElem?_eq_getElem hi, List.getElem?_eq_getElem (by omega)]; rfl
    · rw [List.getElem?_eq_none (by omega), List.getElem?_eq_none (by omega)]
  · rw [if_neg q, if_neg q, h.2 i (fun z => q (sub i z)), wipe_get, if_neg q]
abbrev WB := D → Rho → Option Rho
def tGt (K : PySem.W.Frag) (is : List Nat) (b : WB) : TG := fun v σ H Q => ∃ (N A : Addr → Prop) (H0 : Hp) (ρ ρ' : Rho) (u : Nat) (d : D), Rel K N A H0 σ H ρ u ∧ Da K A H v d ∧ b d ρ = some ρ' ∧ ∀ σ', Off is σ σ' → Rel K N A H0 σ' H ρ' u → Q σ' H
abbrev WBs := List D → Rho → Option Rho
def tGs (K : PySem.W.Frag) (is : List Nat) (b : WBs) : TGs := fun vs σ H Q => ∃ (N A : Addr → Prop) (H0 : Hp) (ρ ρ' : Rho) (u : Nat) (ds : List D), Rel K N A H0 σ H ρ u ∧ DaAll K A H vs ds ∧ b ds ρ = some ρ' ∧ ∀ σ', Off is σ σ' → Rel K N A H0 σ' H ρ' u → Q σ' H
theorem PGi {tg : Expr} {t t' : TG} (h : PG X tg t) (k : ∀ v σ H Q, t' v σ H Q → t v σ H Q) : PG X tg t' := ⟨fun pins s σ H v u Q I r q => h.run pins s σ H v u Q I r (k _ _ _ _ q)⟩
theorem PGsi {ts : List Expr} {t t' : TGs} (h : PGs X ts t) (k : ∀ v σ H Q, t' v σ H Q → t v σ H Q) : PGs X ts t' := ⟨fun pins s σ H v u Q I r q => h.run pins s σ H v u Q I r (k _ _ _ _ q)⟩
@[simp] def bName (i : Nat) : WB := fun d ρ => some (ρ.set i (some (.d d)))
@[simp] def bTup (b : WBs) : WB := fun d ρ => match d with
  | .tuple ds => b ds ρ
  | _ => none
@[simp] def bNil : WBs := fun ds ρ => match ds with
  | [] => some ρ
  | _ => none
@[simp] def bCons (b : WB) (bs : WBs) : WBs := fun ds ρ => match ds with
  | d :: r => (b d ρ).bind fun ρ' => bs r ρ'
  | [] => none
theorem pgName {i : Nat} {e : Expr} (h : PG X e (gName i)) : PG X e (tGt X.K [i] (bName i)) := PGi h fun v σ H Q ⟨N, A, H0, ρ, ρ', u, d, R, hd, hb, k⟩ => by
  have e : ρ.set i (some (.d d)) = ρ' := Option.some.inj hb
  subst e
  exact k _ ⟨List.length_set, fun j hj => List.getElem?_set_ne (fun z => hj (by simp [z]))⟩ (R.setD hd)
theorem pgNil : PGs X [] (tGs X.K [] bNil) := PGsi pgs_nil fun vs σ H Q ⟨N, A, H0, ρ, ρ', u, ds, R, hd, hb, k⟩ => by
  cases hd with
  | cons _ _ => cases hb
  | nil =>
    have e : ρ = ρ' := Option.some.inj hb
    subst e
    exact ⟨rfl, k _ Off.refl R⟩
theorem pgCons {e : Expr} {es : List Expr} {is js : List Nat} {b : WB} {bs : WBs} (h : PG X e (tGt X.K is b)) (hs : PGs X es (tGs X.K js bs)) (he : (assignEach (e :: es) X.env).map (·.2) = assign e X.env :: (assignEach es X.env).map (·.2) := by rfl) : PGs X (e :: es) (tGs X.K (is ++ js) (bCons b bs)) :=
  PGsi (pgs_cons h hs he) fun vs σ H Q ⟨N, A, H0, ρ, ρ', u, ds, R, hd, hb, k⟩ => by
    cases hd with
    | nil => cases hb
    | @cons v vs d ds h1 ht =>
      have hb' : (b d ρ).bind (fun ρ' => bs ds ρ') = some ρ' := hb
      cases q : b d ρ with
      | none => rw [q] at hb'; cases hb'
      | some ρ1 =>
        rw [q] at hb'
        exact ⟨v, vs, rfl, N, A, H0, ρ, ρ1, u, d, R, h1, q, fun σ1 o1 R1 => ⟨N, A, H0, ρ1, ρ', u, ds, R1, ht, hb', fun σ2 o2 R2 => k σ2 (o1.trans o2) R2⟩⟩
theorem pgTup {es : List Expr} {kk : Nat} {pos : Pos} {is : List Nat} {b : WBs} {n : Nat} (hc : X.calm = true) (h : PGs X es (tGs X.K is b)) (hn : (assignEach es X.env).length = n := by rfl) (hst : (assignEach es X.env).findIdx? (·.1) = none := by rfl)
    (hlen : ∀ ds ρ ρ', b ds ρ = some ρ' → ds.length = n) : PG X (.Tuple es kk pos) (tGt X.K is (bTup b)) := PGi (pg_tup hc h hn hst) fun v σ H Q ⟨N, A, H0, ρ, ρ', u, d, R, hd, hb, k⟩ => by
  cases d <;> first | (cases hb; done) | skip
  cases hd with
  | tup h1 h2 h3 => exact ⟨_, _, rfl, .inl (.inl h1), by rw [h3.length]; exact hlen _ _ _ hb, N, A, H0, ρ, ρ', u, _, R, h3, hb, k⟩
theorem bNil_len : ∀ ds ρ ρ', bNil ds ρ = some ρ' → ds.length = 0 := fun ds ρ ρ' h => by
  cases ds with
  | nil => rfl
  | cons _ _ => cases h
theorem bCons_len {b : WB} {bs : WBs} {n : Nat} (h : ∀ ds ρ ρ', bs ds ρ = some ρ' → ds.length = n) : ∀ ds ρ ρ', bCons b bs ds ρ = some ρ' → ds.length = n + 1 := fun ds ρ ρ' e => by
  cases ds with
  | nil => cases e
  | cons d r =>
    have e' : (b d ρ).bind (fun ρ' => bs r ρ') = some ρ' := e
    cases q : b d ρ with
    | none => rw [q] at e'; cases e'
    | some ρ1 => rw [q] at e'; exact congrArg (· + 1) (h r ρ1 ρ' e')
theorem bLen {b : WBs} {n m : Nat} (h : ∀ ds ρ ρ', b ds ρ = some ρ' → ds.length = n) (e : n = m) : ∀ ds ρ ρ', b ds ρ = some ρ' → ds.length = m := by
  subst e; exact h
/-! ### for -/
@[simp] def wLoop (b : WB) (body : WS) (F : DE) : List D → Rho → Nat → Prop
  | [], ρ, u => F.nx ρ u
  | x :: xs, ρ, u => ∃ ρ', b x ρ = some ρ' ∧ body { nx := wLoop b body F xs, rt := F.rt, bk := F.nx, ct := wLoop b body F xs, ex := F.ex } ρ' u
@[simp] def wFor (wi : WA) (b : WB) (body : WS) : WS := fun F ρ u => wi ρ u fun ds u1 => wLoop b body F ds ρ u1
theorem Rel.goes0 {K : PySem.W.Frag} {N A : Addr → Prop} {H0 : Hp} {σ : L2.St} {H : Hp} {ρ : Rho} {u : Nat} (R : Rel K N A H0 σ H ρ u) : ∀ p, H p = none → ¬ A p := fun p hp => R.fresh hp
theorem psFor {tg iter : Expr} {body : List Stmt} {pos : Pos} {wi : WA} {is : List Nat} {b : WB} {wb : WS} {W : XK} (hp : PassesOwn (model X.prog X.w) X.A X.env X.xe) (hc : X.calm = true) (hi : PI X tg iter (tIt X.K wi)) (hg : PG X tg (tGt X.K is b)) (hb : PSs X body (tSx X.K W wb))
    (hs : ∀ x, foldedSetIterable iter X.env x = pure x := by intro _; rfl) : PS X (.For tg iter body [] pos) (tSx X.K W (wFor wi b wb)) := PSi (ps_for hp hc hi hg hb hs) fun E σ H ⟨N, A, H0, ρ, u, F, R, hw, k1, k2, k3, k4, k5⟩ =>
  ⟨N, A, H0, ρ, u, _, R, hw, fun J H1 ds u1 s1 m1 ⟨G, hG, g1⟩ q1 => by
    refine ⟨fun i m σ' H' => m = ds.length - i ∧ i ≤ ds.length ∧ ∃ A' ρ' u', Goes A A' H H' ∧ Goes A A' H1 H' ∧ G A' H' ∧ Rel X.K N A' H0 σ' H' ρ' u' ∧ wLoop b wb F (ds.drop i) ρ' u',
      ⟨ds.length, by simp, Nat.zero_le _, A, ρ, u1, s1.goes, Goes.refl, g1, R.go s1 m1, q1⟩, ?_⟩
    rintro i m σ2 H2 ⟨rfl, hi, A2, ρ2, u2, g2, g2', gg2, R2, w2⟩
    by_cases hlt : i < ds.length
    · refine .inr ⟨hG.goes i A2 H2 hlt gg2, fun σ' H' => ∃ A' ρ' u', Goes A A' H H' ∧ Goes A A' H1 H' ∧ G A' H' ∧ Rel X.K N A' H0 σ' H' ρ' u' ∧ wLoop b wb F (ds.drop (i + 1)) ρ' u', fun σ' H' h => ⟨ds.length - (i + 1), by omega, rfl, hlt, h⟩, fun x H3 y => ?_⟩
      obtain ⟨s3, m3, d, hd, hda⟩ := hG.yields i A2 H2 x H3 hlt gg2 R2.goes0 y
      have e : ds.drop i = d :: ds.drop (i + 1) := by
        obtain ⟨h1, h2⟩ := List.getElem?_eq_some_iff.mp hd
        rw [← h2]
        exact List.drop_eq_getElem_cons h1
      rw [e] at w2
      obtain ⟨ρ3, hb3, w3⟩ := w2
      have R3 := R2.go s3 (m3 _ R2.minv)
      refine ⟨N, A2, H0, ρ2, ρ3, u2, d, R3, hda, hb3, fun σ4 _ R4 => ⟨N, A2, H0, ρ3, u2, _, R4, w3, ?_, ?_, ?_, ?_, k5⟩⟩
      · exact fun A' σ' H' ρ' u' g R' q => ⟨A', ρ', u', (g2.trans s3.goes).trans g, (g2'.trans s3.goes).trans g, hG.over _ _ _ _ g (hG.over _ _ _ _ s3.goes gg2), R', q⟩
      · exact fun v H' d u' s m hd q => k2 v H' d u' s m hd q
      · exact fun A' σ' H' ρ' u' g R' q => k1 A' σ' H' ρ' u' ((g2.trans s3.goes).trans g) R' q
      · exact fun A' σ' H' ρ' u' g R' q => ⟨A', ρ', u', (g2.trans s3.goes).trans g, (g2'.trans s3.goes).trans g, hG.over _ _ _ _ g (hG.over _ _ _ _ s3.goes gg2), R', q⟩
    · have e : i = ds.length := by omega
      subst e
      rw [List.drop_length] at w2
      exact .inl ⟨hG.stops A2 H2 gg2, k1 A2 σ2 H2 ρ2 u2 g2 R2 w2⟩⟩
end
end DW

set_option Elab.async false
set_option linter.all false
set_option maxRecDepth 100000
set_option maxHeartbeats 2000000
namespace DW
open PySem PySem.Spec PyProof.Rows L2
@[simp] def wipeR (ρ : Rho) : List Nat → Rho
  | [] => ρ
  | v :: vs => (wipeR ρ vs).set v none
section
variable {X : Cx} {K : PySem.W.Frag}
theorem wipeR_len (ρ : Rho) : ∀ vs : List Nat, (wipeR ρ vs).length = ρ.length
  | [] => rfl
  | v :: vs => by unfold wipeR; rw [List.length_set, wipeR_len ρ vs]
theorem wipeR_get {ρ : Rho} : ∀ {vs : List Nat} {i : Nat} {s : SV}, (wipeR ρ vs)[i]? = some (some s) → ρ[i]? = some (some s) ∧ i ∉ vs
  | [], _, _, h => ⟨h, by simp⟩
  | v :: vs, i, s, h => by
    unfold wipeR at h
    by_cases q : v = i
    · subst q
      by_cases hv : v < (wipeR ρ vs).length
      · rw [List.getElem?_set_self hv] at h; cases h
      · rw [List.getElem?_eq_none (by simpa using hv)] at h; cases h
    · rw [List.getElem?_set_ne q] at h
      obtain ⟨h1, h2⟩ := wipeR_get h
      exact ⟨h1, by simp only [List.mem_cons, not_or]; exact ⟨fun e => q e.symm, h2⟩⟩
theorem wipe_out {σ : L2.St} {vs : List Nat} {i : Nat} (h : i ∉ vs) : (wipe σ vs)[i]? = σ[i]? := by rw [wipe_get, if_neg h]
theorem Rel.wiped {N A : Addr → Prop} {H0 : Hp} {σ : L2.St} {H H' : Hp} {ρ : Rho} {u u' : Nat} {p : Addr} (R : Rel K N A H0 σ H ρ u) (s : Step H H') (m : MInv (Aand A p) u' K H') (hp : H p = none) (hp' : H' p ≠ none) (vs : List Nat) : Rel K N (Aand A p) H0 (wipe σ vs) H' (wipeR ρ vs) u' where
  len := by rw [wipeR_len, wipe_length]; exact R.len
  step := R.step.trans s
  minv := m
  sub := fun a h => .inl (R.sub a h)
  trk := fun a h => h.elim (fun h => s.there (R.trk a h)) fun e => by rw [e]; exact hp'
  ntrk := R.ntrk
  dat := fun i x e => by
    obtain ⟨e1, e2⟩ := wipeR_get e
    obtain ⟨v, h1, h2⟩ := R.dat i x e1
    exact ⟨v, by rw [wipe_out e2]; exact h1, h2.goes (goes_and s hp)⟩
  ob := fun i c e => by
    obtain ⟨e1, e2⟩ := wipeR_get e
    obtain ⟨a, h1, h2, h4, h5⟩ := R.ob i c e1
    exact ⟨a, by rw [wipe_out e2]; exact h1, h2.go (goes_and s hp) (fun o e m => s.keep _ _ e m), .inl h4, h5⟩
  dis := fun i j xs ys a e1 e2 s1 s2 => by
    obtain ⟨f1, g1⟩ := wipeR_get e1
    obtain ⟨f2, g2⟩ := wipeR_get e2
    rw [wipe_out g1] at s1
    rw [wipe_out g2] at s2
    exact R.dis i j xs ys a f1 f2 s1 s2
/-! ### comprehensions -/
@[simp] def wComp (b : WB) (wt : WT) (we : WE) (ρ : Rho) : List D → List D → Nat → (List D → Nat → Prop) → Prop
  | [], acc, u, Q => Q acc u
  | x :: xs, acc, u, Q => ∃ ρ', b x ρ = some ρ' ∧ wt ρ' u fun t u1 => if t = true then we ρ' u1 fun y u2 => wComp b wt we ρ xs (acc ++ [y]) u2 Q else wComp b wt we ρ xs acc u1 Q
@[simp] def wLc (wi : WA) (b : WB) (wt : WT) (we : WE) (vs : List Nat) : WA := fun ρ u Q => wi ρ u fun ds u1 => ds.length < 100000 ∧ wComp b wt we (wipeR ρ vs) ds [] u1 Q
/-- the tests of a comprehension -/
@[simp] def wTy : WT := fun _ u Q => Q true u
def tTs (K : PySem.W.Frag) (w : WT) := tTe K w
theorem PTsi {ts : List Expr} {t t' : TT} (h : PTs X ts t) (k : ∀ σ H Q, t' σ H Q → t σ H Q) : PTs X ts t' := ⟨fun pins s σ H Q I q => h.run pins s σ H Q I (k _ _ _ q)⟩
theorem ptsN : PTs X [] (tTe X.K wTy) := PTsi pts_nil fun σ H Q ⟨N, A, H0, ρ, u, Qd, R, hw, k⟩ => k true H u (Step.refl H) R.minv hw
theorem ptsO {e : Expr} {w : WT} (h : PT X e (tTe X.K w)) : PTs X [e] (tTe X.K w) := pts_one h
theorem lc_imp {wi : WA} {is own2 : List Nat} {b : WB} {wt : WT} {we : WE} (sub : ∀ i ∈ is, i ∈ own2) : ∀ σ H Q, tF X.K (wLc wi b wt we own2) σ H Q → tLc (tIt X.K wi) (tGt X.K is b) (tTe X.K wt) (tD X.K we) own2 σ H Q := fun σ H Q ⟨N, A, H0, ρ, u, Qd, R, hw, k⟩ =>
  ⟨N, A, H0, ρ, u, _, R, hw, fun J H1 ds u1 s1 m1 ⟨G, hG, g1⟩ ⟨hlen, q1⟩ P hP => by
    have hPH : H P = none := s1.fresh hP
    have nA : ¬ A P := R.fresh hPH
    have s2 : Step H1 (upd H1 P (.lst [])) := Step.new hP
    have m2 : MInv (Aand A P) u1 X.K (upd H1 P (.lst [])) := fun a o h m => by
      by_cases e : a = P
      · subst e; rw [upd_same] at h; cases h; exact m.elim
      · rw [upd_ne e] at h
        obtain ⟨l, s, c, x, cells, h1, h2, h3, h4, h5, h6, h7, h8, h9⟩ := m1 a o h m
        exact ⟨l, s, c, x, cells, h1, h2, h3, h4, h5, h6, by rw [upd_ne (ne_of_none h7 hP)]; exact h7, (fun z => z.elim h8 fun z => by rw [z, hP] at h7; cases h7), h9⟩
    refine ⟨fun i m H' => m = ds.length - i ∧ i ≤ ds.length ∧ ∃ vs acc u', Step H H' ∧ MInv (Aand A P) u' X.K H' ∧ H' P = some (.lst vs) ∧ DaAll X.K (Aand A P) H' vs acc ∧ acc.length ≤ i ∧ G (Aand A P) H' ∧ wComp b wt we (wipeR ρ own2) (ds.drop i) acc u' Qd,
      ⟨ds.length, by simp, Nat.zero_le _, [], [], u1, s1.trans s2, m2, upd_same, .nil, Nat.le_refl _, hG.over _ _ _ _ (goes_and s2 hP) g1, q1⟩, ?_⟩
    rintro i m H2 ⟨rfl, hi, vs, acc, u2, st2, m2, p2, da2, al2, g2, w2⟩
    have R2 : Rel X.K N (Aand A P) H0 (wipe σ own2) H2 (wipeR ρ own2) u2 := R.wiped st2 m2 hPH (by rw [p2]; simp) _
    by_cases hlt : i < ds.length
    · refine .inr ⟨hG.goes i _ H2 hlt g2, fun H' => ∃ vs acc u', Step H H' ∧ MInv (Aand A P) u' X.K H' ∧ H' P = some (.lst vs) ∧ DaAll X.K (Aand A P) H' vs acc ∧ acc.length ≤ i + 1 ∧ G (Aand A P) H' ∧ wComp b wt we (wipeR ρ own2) (ds.drop (i + 1)) acc u' Qd,
        fun H' h => ⟨ds.length - (i + 1), by omega, rfl, hlt, h⟩, fun x H3 y => ?_⟩
      obtain ⟨s3, m3, d, hd, hda⟩ := hG.yields i _ H2 x H3 hlt g2 R2.goes0 y
      have e : ds.drop i = d :: ds.drop (i + 1) := by
        obtain ⟨h1, h2⟩ := List.getElem?_eq_some_iff.mp hd
        rw [← h2]
        exact List.drop_eq_getElem_cons h1
      rw [e] at w2
      obtain ⟨ρ3, hb3, w3⟩ := w2
      have m3' := m3 _ m2
      have R3 := R2.go s3 m3'
      have g3 := hG.over _ _ _ _ s3.goes g2
      have p3 : H3 P = some (.lst vs) := s3.keep _ _ p2 (fun m => m)
      refine ⟨N, Aand A P, H0, wipeR ρ own2, ρ3, u2, d, R3, hda, hb3, fun σ4 o4 R4 => ⟨o4.wiped sub, N, Aand A P, H0, ρ3, u2, _, R4, w3, fun t H5 u5 s5 m5 q5 => ?_⟩⟩
      have p5 : H5 P = some (.lst vs) := s5.keep _ _ p3 (fun m => m)
      have g5 := hG.over _ _ _ _ s5.goes g3
      cases t with
      | false =>
        exact ⟨vs, acc, u5, (st2.trans s3).trans s5, m5, p5, (da2.goes s3.goes).goes s5.goes, by omega, g5, q5⟩
      | true =>
        refine ⟨N, Aand A P, H0, ρ3, u5, _, R4.go s5 m5, q5, fun v H6 z u6 s6 m6 hz q6 => ?_⟩
        have p6 : H6 P = some (.lst vs) := s6.keep _ _ p5 (fun m => m)
        have da6 : DaAll X.K (Aand A P) H6 vs acc := ((da2.goes s3.goes).goes s5.goes).goes s6.goes
        have gp : Goes (Aand A P) (Aand A P) H6 (upd H6 P (.lst (vs ++ [v]))) := ⟨fun a o n h _ => by
          rw [upd_ne (fun e => n (.inr e))]; exact h, fun a o h m => by
          by_cases e : a = P
          · subst e; rw [p6] at h; cases h; exact m.elim
          · exact ⟨o, by rw [upd_ne e]; exact h, m⟩, fun a h => .inl h⟩
        have hs6 : Step H (upd H6 P (.lst (vs ++ [v]))) := by
          have hh := ((st2.trans s3).trans s5).trans s6
          refine ⟨fun a o h m => ?_, fun a o h m => ?_⟩
          · rw [upd_ne (ne_of_none h hPH)]; exact hh.keep a o h m
          · obtain ⟨o', h', m'⟩ := hh.ms a o h m
            exact ⟨o', by rw [upd_ne (ne_of_none h hPH)]; exact h', m'⟩
        have m7 : MInv (Aand A P) u6 X.K (upd H6 P (.lst (vs ++ [v]))) := m6.putA (.inr rfl) (fun m => m)
        exact ⟨vs, p6, szLt (by have := da6.length; omega), vs ++ [v], acc ++ [z], u6, hs6, m7, upd_same, (da6.append (.cons hz .nil)).goes gp, by simp; omega, hG.over _ _ _ _ gp (hG.over _ _ _ _ s6.goes g5), q6⟩
    · have e : i = ds.length := by omega
      subst e
      rw [List.drop_length] at w2
      exact .inl ⟨hG.stops _ H2 g2, k P vs H2 acc u2 st2 m2 hPH p2 da2 w2⟩⟩
theorem pLc {elt tg iter : Expr} {ifs : List Expr} {scope : Scope} {own : List (Str × Nat)} {pos : Pos} {wi : WA} {is : List Nat} {b : WB} {wt : WT} {we : WE} (hc : X.calm = true) (hN : X.N.Nodup) (hi : PI X tg iter (tIt X.K wi)) (ok : BlkOk X.N X.env.scope scope own)
    (hg : ∀ (s : Shared) (H : Hp) (C : Addr) (cl : List (Str × Addr)) (fp : List Addr), PG (X.blk s H scope (compEnvC scope cl C X.env) fp) tg (tGt X.K is b)) (ht : ∀ (s : Shared) (H : Hp) (C : Addr) (cl : List (Str × Addr)) (fp : List Addr), PTs (X.blk s H scope (compEnvC scope cl C X.env) fp) ifs (tTe X.K wt))
    (he : ∀ (s : Shared) (H : Hp) (C : Addr) (cl : List (Str × Addr)) (fp : List Addr), PE (X.blk s H scope (compEnvC scope cl C X.env) fp) elt (tD X.K we)) (sub : ∀ i ∈ is, i ∈ own.map (·.2)) (hs : ∀ x, foldedSetIterable iter X.env x = pure x := by intro _; rfl) :
    PE X (.ListComp elt [⟨tg, iter, ifs, 0⟩] scope pos) (tF X.K (wLc wi b wt we (own.map (·.2)))) := PEi (pe_lc hc hN hi ok hg ht he hs) (lc_imp sub)
theorem psSetLc {i : Nat} {y : Str} {py spos : Pos} {elt tg iter : Expr} {ifs : List Expr} {scope : Scope} {own : List (Str × Nat)} {pos : Pos} {wi : WA} {is : List Nat} {b : WB} {wt : WT} {we : WE} (hN : X.N.Nodup) (hy : X.N[i]? = some y) (hyl : X.env.scope.names.lookup y = some .local) (hsw : swapsWith (.ListComp elt [⟨tg, iter, ifs, 0⟩] scope pos) (some (.Name y py)) spos.line X.env = pure true) (hc : X.calm = true) (hi : PI X tg iter (tIt X.K wi)) (ok : BlkOk X.N X.env.scope scope own)
    (hg : ∀ (s : Shared) (H : Hp) (C : Addr) (cl : List (Str × Addr)) (fp : List Addr), PG (X.blk s H scope (compEnvC scope cl C X.env) fp) tg (tGt X.K is b)) (ht : ∀ (s : Shared) (H : Hp) (C : Addr) (cl : List (Str × Addr)) (fp : List Addr), PTs (X.blk s H scope (compEnvC scope cl C X.env) fp) ifs (tTe X.K wt))
    (he : ∀ (s : Shared) (H : Hp) (C : Addr) (cl : List (Str × Addr)) (fp : List Addr), PE (X.blk s H scope (compEnvC scope cl C X.env) fp) elt (tD X.K we)) (sub : ∀ i ∈ is, i ∈ own.map (·.2)) (hs : ∀ x, foldedSetIterable iter X.env x = pure x := by intro _; rfl) :
    PS X (.Assign [.Name y py] (.ListComp elt [⟨tg, iter, ifs, 0⟩] scope pos) spos) (tAsg (tF X.K (wLc wi b wt we (own.map (·.2)))) (gName i)) :=
  PSi (ps_setLc hc hN hy hyl hsw hi ok hg ht he hs) fun E σ H h => lc_imp sub σ H _ h
end
end DW

set_option Elab.async false
set_option linter.all false
set_option maxRecDepth 100000
set_option maxHeartbeats 2000000
namespace DW
open PySem PySem.Spec PyProof.Rows L2
section
variable {K : PySem.W.Frag} {N A : Addr → Prop} {H0 H H' : Hp} {σ : L2.St} {ρ : Rho} {u u' : Nat}
theorem set_self {ρ : Rho} {i : Nat} {s t : SV} (h : (ρ.set i (some s))[i]? = some (some t)) : s = t := by
  by_cases hl : i < ρ.length
  · rw [List.getElem?_set_self hl] at h; exact Option.some.inj (Option.some.inj h)
  · rw [List.getElem?_eq_none (by rw [List.length_set]; omega)] at h; cases h
/-- a slot gets a new object of its own -/
theorem Rel.setOb (R : Rel K N A H0 σ H ρ u) (s : Step H H') {i : Nat} {p : Addr} {c : OC} (m : MInv (Aand A p) u' K H') (hp : H p = none) (ho : OwnAt K (Aand A p) H' p c) :
    Rel K N (Aand A p) H0 (σ.set i (some (.ref p))) H' (ρ.set i (some (.ob c))) u' where
  len := by rw [List.length_set, List.length_set]; exact R.len
  step := R.step.trans s
  minv := m
  sub := fun a h => .inl (R.sub a h)
  trk := fun a h => h.elim (fun h => s.there (R.trk a h)) fun e => by rw [e]; exact ho.ne
  ntrk := R.ntrk
  dat := fun j x e => by
    by_cases q : i = j
    · subst q; exact nomatch (set_self e)
    · rw [List.getElem?_set_ne q] at e ⊢
      obtain ⟨v, h1, h2⟩ := R.dat j x e
      exact ⟨v, h1, h2.goes (goes_and s hp)⟩
  ob := fun j xs e => by
    by_cases q : i = j
    · subst q
      have e' := set_self e
      cases e'
      refine ⟨p, ?_, ho, .inr rfl, R.step.fresh hp⟩
      · have hl : i < ρ.length := by
          by_cases hl : i < ρ.length
          · exact hl
          · rw [List.getElem?_eq_none (by rw [List.length_set]; omega)] at e; cases e
        exact List.getElem?_set_self (by rw [← R.len]; exact hl)
    · rw [List.getElem?_set_ne q] at e ⊢
      obtain ⟨a, h1, h2, h4, h5⟩ := R.ob j xs e
      exact ⟨a, h1, h2.go (goes_and s hp) (fun o e m => s.keep _ _ e m), .inl h4, h5⟩
  dis := fun j k xs ys a e1 e2 s1 s2 => by
    have old : ∀ j xs, i ≠ j → (ρ.set i (some (SV.ob c)))[j]? = some (some (SV.ob xs)) → (σ.set i (some (V.ref p)))[j]? = some (some (V.ref p)) → False := fun j xs q e s => by
      rw [List.getElem?_set_ne q] at e s
      obtain ⟨a, h1, h2, _⟩ := R.ob j xs e
      rw [h1] at s
      have e3 : a = p := by simpa using s
      subst e3
      exact h2.ne hp
    have val : ∀ a, (σ.set i (some (V.ref p)))[i]? = some (some (V.ref a)) → a = p := fun a h => by
      by_cases hl : i < σ.length
      · rw [List.getElem?_set_self hl] at h
        have e3 : p = a := by simpa using h
        exact e3.symm
      · rw [List.getElem?_eq_none (by rw [List.length_set]; omega)] at h; cases h
    by_cases q : i = j
    · by_cases q2 : i = k
      · exact q.symm.trans q2
      · subst q
        have e3 := val a s1
        subst e3
        exact (old k ys q2 e2 s2).elim
    · by_cases q2 : i = k
      · subst q2
        have e3 := val a s2
        subst e3
        exact (old j xs q e1 s1).elim
      · rw [List.getElem?_set_ne q] at e1 s1
        rw [List.getElem?_set_ne q2] at e2 s2
        exact R.dis j k xs ys a e1 e2 s1 s2
/-- a slot gets a new list of its own -/
theorem Rel.setOwn (R : Rel K N A H0 σ H ρ u) (s : Step H H') {i : Nat} {p : Addr} {vs : List V} {ds : List D} (m : MInv (Aand A p) u' K H') (hp : H p = none) (hp' : H' p = some (.lst vs)) (hd : DaAll K (Aand A p) H' vs ds) :
    Rel K N (Aand A p) H0 (σ.set i (some (.ref p))) H' (ρ.set i (some (.own ds))) u' := R.setOb s m hp ⟨vs, hp', hd⟩
theorem goes_putO {a : Addr} {o o' : HO} (ha : H a = some o) (hm : ¬ IsM o) (hA : A a) : Goes A A H (upd H a o') := ⟨fun b o n h _ => by rw [upd_ne (fun z => n (by rw [z]; exact hA))]; exact h, fun b q h m => by
  by_cases z : b = a
  · rw [z, ha] at h; cases h; exact absurd m hm
  · exact ⟨q, by rw [upd_ne z]; exact h, m⟩, fun b h => .inl h⟩
/-- an object of one's own changes -/
theorem Rel.putOb (R : Rel K N A H0 σ H ρ u) {i : Nat} {a : Addr} {o' : HO} {c c' : OC} (e : ρ[i]? = some (some (SV.ob c))) (es : σ[i]? = some (some (V.ref a))) (ha : OwnAt K A H a c) (hA : A a) (h0 : H0 a = none) (n' : ¬ IsM o') (hd : OwnAt K A (upd H a o') a c') :
    Rel K N A H0 σ (upd H a o') (ρ.set i (some (.ob c'))) u where
  len := by rw [List.length_set]; exact R.len
  step := ⟨fun b o h m => by rw [upd_ne (ne_of_none h h0)]; exact R.step.keep b o h m, fun b o h m => by
    obtain ⟨o', h', m'⟩ := R.step.ms b o h m
    exact ⟨o', by rw [upd_ne (ne_of_none h h0)]; exact h', m'⟩⟩
  minv := R.minv.putA hA n'
  sub := R.sub
  trk := fun b h => by
    by_cases q : b = a
    · rw [q, upd_same]; simp
    · rw [upd_ne q]; exact R.trk b h
  ntrk := R.ntrk
  dat := fun j x f => by
    obtain ⟨o, ho, hm⟩ := ha.some
    by_cases q : i = j
    · subst q; exact nomatch (set_self f)
    · rw [List.getElem?_set_ne q] at f
      obtain ⟨v, h1, h2⟩ := R.dat j x f
      exact ⟨v, h1, h2.goes (goes_putO ho hm hA)⟩
  ob := fun j ys f => by
    obtain ⟨o, ho, hm⟩ := ha.some
    by_cases q : i = j
    · subst q
      have f' := set_self f
      cases f'
      exact ⟨a, es, hd, hA, h0⟩
    · rw [List.getElem?_set_ne q] at f
      obtain ⟨b, h1, h2, h4, h5⟩ := R.ob j ys f
      have nb : b ≠ a := fun z => q (R.dis i j c ys a e f es (by rw [← z]; exact h1))
      exact ⟨b, h1, h2.go (goes_putO ho hm hA) (fun o e _ => by rw [upd_ne nb]; exact e), h4, h5⟩
  dis := fun j k xs1 ys b e1 e2 s1 s2 => by
    have back : ∀ j ys, (ρ.set i (some (SV.ob c')))[j]? = some (some (SV.ob ys)) → ∃ zs, ρ[j]? = some (some (SV.ob zs)) := fun j ys f => by
      by_cases q : i = j
      · subst q; exact ⟨c, e⟩
      · rw [List.getElem?_set_ne q] at f; exact ⟨ys, f⟩
    obtain ⟨z1, f1⟩ := back j xs1 e1
    obtain ⟨z2, f2⟩ := back k ys e2
    exact R.dis j k z1 z2 b f1 f2 s1 s2
theorem goes_put {a : Addr} {vs vs' : List V} (ha : H a = some (.lst vs)) (hA : A a) : Goes A A H (upd H a (.lst vs')) := goes_putO ha (fun m => m) hA
/-- a list of one's own changes -/
theorem Rel.putOwn (R : Rel K N A H0 σ H ρ u) {i : Nat} {a : Addr} {vs vs' : List V} {xs xs' : List D} (e : ρ[i]? = some (some (SV.own xs))) (es : σ[i]? = some (some (V.ref a))) (ha : H a = some (.lst vs)) (hA : A a) (h0 : H0 a = none) (hd : DaAll K A H vs' xs') :
    Rel K N A H0 σ (upd H a (.lst vs')) (ρ.set i (some (.own xs'))) u := by
  obtain ⟨b, h1, h2, _⟩ := R.ob i _ e
  rw [es] at h1
  cases h1
  exact R.putOb e es h2 hA h0 (fun m => m) ⟨vs', upd_same, hd.goes (goes_put ha hA)⟩
/-- what changes no more: away from one's own -/
theorem Rel.less (R : Rel K N A H0 σ H ρ u) {i : Nat} {a : Addr} {c : OC} {x : D} (e : ρ[i]? = some (some (SV.ob c))) (h1 : σ[i]? = some (some (V.ref a))) (h5 : H0 a = none)
    {H' : Hp} (g : Goes A (fun b => A b ∧ b ≠ a) H H') (st : Step H0 H') (m : MInv (fun b => A b ∧ b ≠ a) u K H') (kp : ∀ b o, b ≠ a → H b = some o → ¬ IsM o → H' b = some o) (t : ∀ b, A b → H' b ≠ none) (hx : Da K (fun b => A b ∧ b ≠ a) H' (.ref a) x) :
    Rel K N (fun b => A b ∧ b ≠ a) H0 σ H' (ρ.set i (some (.d x))) u := {
    len := by rw [List.length_set]; exact R.len
    step := st
    minv := m
    sub := fun b h => ⟨R.sub b h, fun z => R.ntrk b h (by rw [z]; exact h5)⟩
    trk := fun b h => t b h.1
    ntrk := R.ntrk
    dat := fun j x f => by
      by_cases q : i = j
      · subst q
        have f' := set_self f
        cases f'
        exact ⟨.ref a, h1, hx⟩
      · rw [List.getElem?_set_ne q] at f
        obtain ⟨v, g1, g2⟩ := R.dat j x f
        exact ⟨v, g1, g2.goes g⟩
    ob := fun j ys f => by
      by_cases q : i = j
      · subst q; exact nomatch (set_self f)
      · rw [List.getElem?_set_ne q] at f
        obtain ⟨b, g1, g2, g4, g5⟩ := R.ob j ys f
        have nb : b ≠ a := fun z => q (R.dis i j c ys a e f h1 (by rw [← z]; exact g1))
        exact ⟨b, g1, g2.go g (fun o e m => kp b o nb e m), ⟨g4, nb⟩, g5⟩
    dis := fun j k xs1 ys b e1 e2 s1 s2 => by
      by_cases q : i = j
      · subst q; exact nomatch (set_self e1)
      · by_cases q2 : i = k
        · subst q2; exact nomatch (set_self e2)
        · rw [List.getElem?_set_ne q] at e1
          rw [List.getElem?_set_ne q2] at e2
          exact R.dis j k xs1 ys b e1 e2 s1 s2 }
/-- a list of one's own that changes no more -/
theorem Rel.freeze (R : Rel K N A H0 σ H ρ u) {i : Nat} {xs : List D} (e : ρ[i]? = some (some (SV.own xs))) : ∃ A', Goes A A' H H ∧ Rel K N A' H0 σ H (ρ.set i (some (.d (.list xs)))) u := by
  obtain ⟨a, vs, h1, h2, h3, h4, h5⟩ := R.own i xs e
  have g : Goes A (fun b => A b ∧ b ≠ a) H H := .less fun b h => h.1
  exact ⟨fun b => A b ∧ b ≠ a, g, R.less e h1 h5 g R.step (R.minv.less fun b _ h => h.1) (fun b o _ h _ => h) R.trk (.lst h2 (fun z => z.2 rfl) (h3.goes g))⟩
end
section
variable {X : Cx} {W : XK}
/-! ### statements -/
@[simp] def wSetD (i : Nat) (w : WE) : WS := fun F ρ u => w ρ u fun d u1 => F.nx (ρ.set i (some (.d d))) u1
@[simp] def wSetF (i : Nat) (w : WA) : WS := fun F ρ u => w ρ u fun ds u1 => F.nx (ρ.set i (some (.own ds))) u1
theorem psSetD {st : Stmt} {i : Nat} {w : WE} (h : PS X st (tAsg (tD X.K w) (gName i))) : PS X st (tSx X.K W (wSetD i w)) := PSi h fun E σ H ⟨N, A, H0, ρ, u, F, R, hw, k1, k2, k3, k4, k5⟩ =>
  ⟨N, A, H0, ρ, u, _, R, hw, fun v H1 d u1 s1 m1 hd q => k1 A _ _ _ u1 s1.goes ((R.go s1 m1).setD hd) q⟩
theorem psSetF {st : Stmt} {i : Nat} {w : WA} (h : PS X st (tAsg (tF X.K w) (gName i))) : PS X st (tSx X.K W (wSetF i w)) := PSi h fun E σ H ⟨N, A, H0, ρ, u, F, R, hw, k1, k2, k3, k4, k5⟩ =>
  ⟨N, A, H0, ρ, u, _, R, hw, fun p vs H1 ds u1 s1 m1 hp hp' hd q => k1 _ _ _ _ u1 (goes_and s1 hp) (R.setOwn s1 m1 hp hp' hd) q⟩
theorem psSetFD {st : Stmt} {i : Nat} {w : WA} (h : PS X st (tAsg (tF X.K w) (gName i))) : PS X st (tSx X.K W (wSetD i fun ρ u Q => w ρ u fun ds u' => Q (.list ds) u')) := PSi h fun E σ H ⟨N, A, H0, ρ, u, F, R, hw, k1, k2, k3, k4, k5⟩ =>
  ⟨N, A, H0, ρ, u, _, R, hw, fun p vs H1 ds u1 s1 m1 hp hp' hd q => k1 A _ _ _ u1 s1.goes ((R.go s1 m1.un).setD (.lst hp' (R.fresh hp) (hd.goes (.less fun a h => .inl h)))) q⟩
@[simp] def wUnp (b : WB) (w : WE) : WS := fun F ρ u => w ρ u fun d u1 => ∃ ρ', b d ρ = some ρ' ∧ F.nx ρ' u1
theorem psUnp {st : Stmt} {is : List Nat} {b : WB} {w : WE} (h : PS X st (tAsg (tD X.K w) (tGt X.K is b))) : PS X st (tSx X.K W (wUnp b w)) := PSi h fun E σ H ⟨N, A, H0, ρ, u, F, R, hw, k1, k2, k3, k4, k5⟩ =>
  ⟨N, A, H0, ρ, u, _, R, hw, fun v H1 d u1 s1 m1 hd ⟨ρ', e, q⟩ => ⟨N, A, H0, ρ, ρ', u1, d, R.go s1 m1, hd, e, fun σ' _ R' => k1 A _ _ _ u1 s1.goes R' q⟩⟩
@[simp] def wPar (i j : Nat) (w : WA) : WS := fun F ρ u => w ρ u fun ds u1 => ∃ c d, ds = [c, d] ∧ F.nx ((ρ.set i (some (.d c))).set j (some (.d d))) u1
theorem psPar {st : Stmt} {i j : Nat} {w : WA} (h : PS X st (tPar i j (tAr X.K w))) : PS X st (tSx X.K W (wPar i j w)) := PSi h fun E σ H ⟨N, A, H0, ρ, u, F, R, hw, k1, k2, k3, k4, k5⟩ =>
  ⟨N, A, H0, ρ, u, _, R, hw, fun vs H1 ds u1 s1 m1 hd ⟨c, d, e, q⟩ => by
    subst e
    cases hd with
    | cons h1 ht =>
      cases ht with
      | cons h2 ht =>
        cases ht
        exact ⟨_, _, rfl, k1 A _ _ _ u1 s1.goes (((R.go s1 m1).setD h1).setD h2) q⟩⟩
@[simp] def wRet (w : WE) : WS := fun F ρ u => w ρ u fun d u1 => F.rt d u1
theorem psRet {e : Expr} {pos : Pos} {w : WE} (h : PE X e (tBo X.K w)) : PS X (.Return (some e) pos) (tSx X.K W (wRet w)) := PSi (ps_ret h) fun E σ H ⟨N, A, H0, ρ, u, F, R, hw, k1, k2, k3, k4, k5⟩ =>
  ⟨N, A, H0, ρ, u, _, R, hw, fun v H1 d u1 s1 m1 hd q => k2 v H1 d u1 (R.step.trans s1) (m1.less fun a _ h => R.sub a h) (hd.out R.sub) q⟩
@[simp] def wIfS (wc : WT) (a b : WS) : WS := fun F ρ u => wc ρ u fun t u1 => if t = true then a F ρ u1 else b F ρ u1
theorem psIf {c : Expr} {a b : List Stmt} {pos : Pos} {wc : WT} {wa wb : WS} (hc : PT X c (tTe X.K wc)) (ha : PSs X a (tSx X.K W wa)) (hb : PSs X b (tSx X.K W wb)) : PS X (.If c a b pos) (tSx X.K W (wIfS wc wa wb)) := PSi (ps_if hc ha hb) fun E σ H ⟨N, A, H0, ρ, u, F, R, hw, k1, k2, k3, k4, k5⟩ =>
  ⟨N, A, H0, ρ, u, _, R, hw, fun t H1 u1 s1 m1 q => by
    cases t with
    | true => exact ⟨N, A, H0, ρ, u1, F, R.go s1 m1, q, fun A' σ' H' ρ' u' g R' q => k1 A' σ' H' ρ' u' (s1.goes.trans g) R' q, k2, fun A' σ' H' ρ' u' g R' q => k3 A' σ' H' ρ' u' (s1.goes.trans g) R' q, fun A' σ' H' ρ' u' g R' q => k4 A' σ' H' ρ' u' (s1.goes.trans g) R' q, k5⟩
    | false => exact ⟨N, A, H0, ρ, u1, F, R.go s1 m1, q, fun A' σ' H' ρ' u' g R' q => k1 A' σ' H' ρ' u' (s1.goes.trans g) R' q, k2, fun A' σ' H' ρ' u' g R' q => k3 A' σ' H' ρ' u' (s1.goes.trans g) R' q, fun A' σ' H' ρ' u' g R' q => k4 A' σ' H' ρ' u' (s1.goes.trans g) R' q, k5⟩⟩
@[simp] def wNil : WS := fun F ρ u => F.nx ρ u
@[simp] def wSeq (a b : WS) : WS := fun F ρ u => a { F with nx := b F } ρ u
theorem pssNil : PSs X [] (tSx X.K W wNil) := PSsi pss_nil fun E σ H ⟨N, A, H0, ρ, u, F, R, hw, k1, k2, k3, k4, k5⟩ => k1 A σ H ρ u Goes.refl R hw
theorem pssCons {st : Stmt} {rest : List Stmt} {a b : WS} (h1 : PS X st (tSx X.K W a)) (h2 : PSs X rest (tSx X.K W b)) : PSs X (st :: rest) (tSx X.K W (wSeq a b)) := PSsi (pss_cons h1 h2) fun E σ H ⟨N, A, H0, ρ, u, F, R, hw, k1, k2, k3, k4, k5⟩ =>
  ⟨N, A, H0, ρ, u, { F with nx := b F }, R, hw, fun A1 σ1 H1 ρ1 u1 g1 R1 q1 => ⟨N, A1, H0, ρ1, u1, F, R1, q1, fun A' σ' H' ρ' u' g R' q => k1 A' σ' H' ρ' u' (g1.trans g) R' q, k2, fun A' σ' H' ρ' u' g R' q => k3 A' σ' H' ρ' u' (g1.trans g) R' q, fun A' σ' H' ρ' u' g R' q => k4 A' σ' H' ρ' u' (g1.trans g) R' q, k5⟩, k2, k3, k4, k5⟩
theorem pssOne {st : Stmt} {a : WS} (h1 : PS X st (tSx X.K W a)) : PSs X [st] (tSx X.K W a) := pss_one h1
theorem psPass {pos : Pos} : PS X (.Pass pos) (tSx X.K W wNil) := PSi ps_pass fun E σ H ⟨N, A, H0, ρ, u, F, R, hw, k1, k2, k3, k4, k5⟩ => k1 A σ H ρ u Goes.refl R hw
/-- from here on slot i changes no more -/
@[simp] def wFrz (i : Nat) (a : WS) : WS := fun F ρ u => ∃ xs, ρ[i]? = some (some (SV.own xs)) ∧ a F (ρ.set i (some (.d (.list xs)))) u
theorem pssFrz {sts : List Stmt} {i : Nat} {a : WS} (h : PSs X sts (tSx X.K W a)) : PSs X sts (tSx X.K W (wFrz i a)) := PSsi h fun E σ H ⟨N, A, H0, ρ, u, F, R, ⟨xs, e, hw⟩, k1, k2, k3, k4, k5⟩ => by
  obtain ⟨A', g0, R'⟩ := R.freeze e
  exact ⟨N, A', H0, _, u, F, R', hw, fun A1 σ' H' ρ' u' g R' q => k1 A1 σ' H' ρ' u' (g0.trans g) R' q, k2, fun A1 σ' H' ρ' u' g R' q => k3 A1 σ' H' ρ' u' (g0.trans g) R' q, fun A1 σ' H' ρ' u' g R' q => k4 A1 σ' H' ρ' u' (g0.trans g) R' q, k5⟩
/-- xs.append(e) -/
@[simp] def wApp (i : Nat) (w : WE) : WS := fun F ρ u => ∃ xs, ρ[i]? = some (some (SV.own xs)) ∧ w ρ u fun d u1 => xs.length < 100000 ∧ F.nx (ρ.set i (some (.own (xs ++ [d])))) u1
theorem psApp {st : Stmt} {i : Nat} {w : WE} (h : PS X st (tDrop (tBM X.K "list" rAppend (tVar i) (tCons (tD X.K w) tNil)))) : PS X st (tSx X.K W (wApp i w)) := PSi h fun E σ H ⟨N, A, H0, ρ, u, F, R, ⟨xs, e0, hw⟩, k1, k2, k3, k4, k5⟩ => by
  obtain ⟨a, vs, h1, h2, h3, h4, h5⟩ := R.own i xs e0
  refine ⟨.ref a, h1, .inl ⟨rfl, vs, .inl (.inl h2)⟩, N, A, H0, ρ, u, _, R, hw, fun v H1 d u1 s1 m1 hd ⟨hl, q⟩ => ?_⟩
  have ha := s1.keep a _ h2 (fun m => m)
  have h3' := h3.goes (A' := A) s1.goes
  refine ⟨a, vs, v, rfl, rfl, ha, szLt (by rw [h3.length]; exact hl), ?_⟩
  exact k1 A σ _ _ u1 (s1.goes.trans (goes_put ha h4)) ((R.go s1 m1).putOwn e0 h1 ha h4 h5 (h3'.append (.cons hd .nil))) q
end
/-! ### calls -/
/-- what a def does, over data -/
abbrev WF := Nat → List D → (D → Nat → Prop) → Prop
def spD (K : PySem.W.Frag) (W : WF) : Sp := fun vs H Q _ => ∃ (N : Addr → Prop) (ds : List D) (u : Nat) (Qd : D → Nat → Prop), (∀ a, N a → H a ≠ none) ∧ MInv N u K H ∧ DaAll K N H vs ds ∧ W u ds Qd ∧
  ∀ v H' d u', Step H H' → MInv N u' K H' → Da K N H' v d → Qd d u' → Q v H'
@[simp] def wFn (W : WF) (ws : WA) : WE := fun ρ u Q => ws ρ u fun ds u1 => W u1 ds Q
section
variable {X : Cx}
theorem tCall_of {K : PySem.W.Frag} {W : WF} {ws : WA} {E : XK} : ∀ σ H Q, tD K (wFn W ws) σ H Q → tCall (spD K W) [] E (tAr K ws) σ H Q := fun σ H Q ⟨N, A, H0, ρ, u, Qd, R, hw, k⟩ =>
  ⟨N, A, H0, ρ, u, _, R, hw, fun vs H1 ds u1 s1 m1 hd q => by
    show spD K W (vs ++ []) H1 Q E
    rw [List.append_nil]
    exact ⟨A, ds, u1, Qd, fun a h => s1.there (R.trk a h), m1, hd, q, fun v H2 d u2 s2 m2 hd2 q2 => k v H2 d u2 (s1.trans s2) m2 hd2 q2⟩⟩
theorem pFn {k : Nat} {f : Addr} {fd : FuncData} {ps : List Str} {x : Str} {p pos : Pos} {e : Expr} {es : List Expr} {W : WF} {ws : WA} (F : FnOk X.prog X.w X.K X.mg X.base CX0 k f fd ps (spD X.K W)) (hr : Room k X.A) (hg : Gl X x) (hm : X.mg x = some (.ref f)) (hk : PySem.W.keepIn X.K (.ref f) = true) (hb : Binds X.K fd ps [])
    (ha : PA X (e :: es) (tAr X.K ws)) (hdb : (x == ("__debug__" : Str)) = false := by decide) (he : starEach (e :: es) X.env = (false, eval e X.env) :: starEach es X.env := by rfl) (hpl : (backTo pos (starEach es X.env)).any (·.1) = false := by rfl) :
    PE X (.Call (.Name x p) (e :: es) [] pos) (tD X.K (wFn W ws)) := PEi (pe_call F hr hg hm hk hb .nil pass0 ha hdb he hpl) tCall_of
theorem pFn0 {k : Nat} {f : Addr} {fd : FuncData} {ps : List Str} {x : Str} {p pos : Pos} {W : WF} (F : FnOk X.prog X.w X.K X.mg X.base CX0 k f fd ps (spD X.K W)) (hr : Room k X.A) (hg : Gl X x) (hm : X.mg x = some (.ref f)) (hk : PySem.W.keepIn X.K (.ref f) = true) (hb : Binds X.K fd ps [])
    (hdb : (x == ("__debug__" : Str)) = false := by decide) : PE X (.Call (.Name x p) [] [] pos) (tD X.K (wFn W waNil)) := PEi (pe_call0 F hr hg hm hk hb .nil pass0 hdb) fun σ H Q ⟨N, A, H0, ρ, u, Qd, R, hw, k⟩ =>
  ⟨A, [], u, Qd, R.trk, R.minv, .nil, hw, k⟩
end
/-! ### a def -/
@[simp] def startR (N : List Str) (ds : List D) : Rho := ds.map (fun d => some (.d d)) ++ List.replicate (N.length - ds.length) none
theorem start_rel {K : PySem.W.Frag} {N : Addr → Prop} {H : Hp} {Ns : List Str} {vs : List V} {ds : List D} {u : Nat} (hN : ∀ a, N a → H a ≠ none) (m : MInv N u K H) (hd : DaAll K N H vs ds) : Rel K N N H (L2.start Ns vs) H (startR Ns ds) u := by
  have hl := hd.length
  refine ⟨by simp [startR, L2.start, hl], Step.refl H, m, fun _ h => h, hN, hN, fun i x e => ?_, fun i xs e => ?_, fun i j xs ys a e1 e2 _ _ => ?_⟩
  · unfold startR at e
    by_cases hi : i < ds.length
    · rw [List.getElem?_append_left (by simpa using hi), List.getElem?_map] at e
      cases q : ds[i]? with
      | none => rw [q] at e; cases e
      | some d =>
        rw [q] at e
        have e' : d = x := by simpa using e
        subst e'
        obtain ⟨v, h1, h2⟩ := hd.get q
        refine ⟨v, ?_, h2⟩
        unfold L2.start
        rw [List.getElem?_append_left (by rw [List.length_map]; omega), List.getElem?_map, h1]
        rfl
    · rw [List.getElem?_append_right (by simpa using Nat.le_of_not_lt hi), List.getElem?_replicate] at e
      split at e <;> cases e
  all_goals
    exfalso
    have key : ∀ i xs, (startR Ns ds)[i]? = some (some (SV.ob xs)) → False := fun i xs e => by
      unfold startR at e
      by_cases hi : i < ds.length
      · rw [List.getElem?_append_left (by simpa using hi), List.getElem?_map] at e
        cases q : ds[i]? with
        | none => rw [q] at e; cases e
        | some d => rw [q] at e; simp at e
      · rw [List.getElem?_append_right (by simpa using Nat.le_of_not_lt hi), List.getElem?_replicate] at e
        split at e <;> cases e
    first | exact key _ _ e | exact key _ _ e1
section
variable {P : Program} {w : World} {K : PySem.W.Frag} {mg : Str → Option Value} {base : Heap}
/-- THE RULE for a def over data -/
theorem fnD {x qual : Str} {st : Stmt} {f : Addr} {fd : FuncData} {Ns ps : List Str} {k : Nat} {W : WF} {wb : WS} (F : Fun K x qual st f fd) (S : FnScope Ns ps (defScope st))
    (hbody : ∀ (cdv : Value) (A : Around) (outer : List Env) (s : Shared) (H : Hp) (E : XK), Room k (A.deeper (envOfC qual (defScope st) s.heap.objs.size f cdv)) → PSs (cxOf CX0 P w K mg base Ns qual (defScope st) f cdv A outer s H E).nox (defBody st) (tSt K wb))
    (h : ∀ u ds Qd, W u ds Qd → ds.length = ps.length ∧ wb { nx := fun _ u' => Qd .none u', rt := Qd } (startR Ns ds) u) : FnOk P w K mg base CX0 (k + 1) f fd ps (spD K W) := by
  refine F.ok S (fun vs H Q E hs => ?_) (fun cdv A outer s H vs Q E hr hs => ?_)
  · obtain ⟨N, ds, u, Qd, hN, m, hd, hw, k⟩ := hs
    rw [hd.length]
    exact (h u ds Qd hw).1
  · obtain ⟨N, ds, u, Qd, hN, m, hd, hw, k⟩ := hs
    refine ⟨_, hbody cdv A outer s H E hr, N, N, H, startR Ns ds, u, _, start_rel hN m hd, (h u ds Qd hw).2, fun A' σ' H' ρ' u' g R' q => ?_, fun v H' d u' s m hd q => k v H' d u' s m hd q, fun _ _ _ _ _ _ _ q => q, fun _ _ _ _ _ _ _ q => q, fun _ _ _ _ _ q => q⟩
    exact k .non H' .none u' R'.step (R'.minv.less fun a _ h => R'.sub a h) .non q
end
end DW

set_option Elab.async false
set_option linter.all false
set_option maxRecDepth 100000
set_option maxHeartbeats 2000000
namespace DW
open PySem PySem.Spec PyProof.Rows L2
/-! ### promises where no text of a list is being made (repr) -/
structure FnG (P : Program) (w : World) (K : PySem.W.Frag) (mg : Str → Option Value) (base : Heap) (k : Nat) (f : Addr) (fd : FuncData) (ps : List Str) (sp : Sp) : Prop where
  len : ∀ vs H Q E, sp vs H Q E → vs.length = ps.length
  go : ∀ (A : Around) (outer : List Env) (s : Shared) (H : Hp) (args : Args) (us : List Value) (vs : List V) (Q : VK) (E : XK), A.guards = some [] → Room k A → Env0 P w K mg base A outer s H → BindsTo s fd args (ps.zip us) → Vals vs us → sp vs H Q E →
    codeAny (model P w) A (.call (.ref f) args) (CR CX0 outer P w H s Q E) s
section
variable {P : Program} {w : World} {K : PySem.W.Frag} {mg : Str → Option Value} {base : Heap}
theorem fnG_of {x qual : Str} {st : Stmt} {f : Addr} {fd : FuncData} {Ns ps : List Str} {k : Nat} {sp : Sp} (F : Fun K x qual st f fd) (S : FnScope Ns ps (defScope st)) (len : ∀ vs H Q E, sp vs H Q E → vs.length = ps.length)
    (hbody : ∀ (cdv : Value) (A : Around) (outer : List Env) (s : Shared) (H : Hp) (vs : List V) (Q : VK) (E : XK), (A.deeper (envOfC qual (defScope st) s.heap.objs.size f cdv)).guards = some [] → Room k (A.deeper (envOfC qual (defScope st) s.heap.objs.size f cdv)) → sp vs H Q E →
      ∃ t, PSs (cxOf CX0 P w K mg base Ns qual (defScope st) f cdv A outer s H E).nox (defBody st) t ∧ t { nx := fun _ H' => Q .non H', rt := Q } (L2.start Ns vs) H) : FnG P w K mg base (k + 1) f fd ps sp := by
  obtain ⟨oc, od, kV, doc, pm, an, cdv, ct, osl, rfl, lk, hcd⟩ := F.ex
  refine ⟨len, fun A outer s H args us vs Q E hG hr env0 hbind rel hsp => ?_⟩
  have inK : K.In s.heap := env0.mod.kin.keeps fun b o e => (env0.bs b o e).1
  have noLim : s.heap.NoLimit := env0.mod.nolimit.keeps fun b o e => (env0.bs b o e).1
  refine codeAny_call_function hr.depth (inK _ _ lk) rfl S.co S.gen rfl (PySem.W.codeRec_of inK hcd) (hbind _ _ _ _ ?_)
  refine wpAny_newFunctionEnv_cells S.kind (fun p hp => ?_) fun env he s1 x => ?_
  · rcases S.par p.1 (List.of_mem_zip (show (p.1, p.2) ∈ ps.zip us from hp)).1 with q | q
    · exact Or.inl q
    · exact Or.inr ⟨q, PySem.W.cellsFrom_some _ _ _ (.inl q)⟩
  subst he
  refine ⟨noLim.keeps x.toInCall.keep, codeAny_func ?_⟩
  obtain ⟨t, der, start⟩ := hbody cdv A outer s H vs Q E (show A.guards = some [] from hG) (hr.deeper _) hsp
  have I0 := inv_start (CX := CX0) (E := E) S hr.hd env0 (len _ _ _ _ hsp) rel x
  refine wpAny_mono (der.nox.run [] s1 (L2.start Ns vs) H _ I0 start) (fun fl s' hs => ?_) fun e s' hs => hs
  have close : ∀ {σ' : L2.St} {H' : Hp} {v : V} {u : Value}, Inv (cxOf CX0 P w K mg base Ns qual (defScope st) f cdv A outer s H E) [] σ' H' s' → RelV v u → Q v H' → CE outer P w H s Q u s' := by
    intro σ' H' v u J rv q
    exact ⟨v, H', J.os, J.bare, J.base, J.hok, rv, q⟩
  cases fl with
  | ret u => exact let ⟨v, σ', H', J, rv, q⟩ := hs; close J rv q
  | next => exact let ⟨σ', H', J, q⟩ := hs; close (v := V.non) (u := Value.none) J rfl q
  | brk => exact let ⟨_, _, _, q⟩ := hs; q.elim
  | cont => exact let ⟨_, _, _, q⟩ := hs; q.elim
theorem FnOk.g {k : Nat} {f : Addr} {fd : FuncData} {ps : List Str} {sp : Sp} (F : FnOk P w K mg base CX0 k f fd ps sp) : FnG P w K mg base k f fd ps sp := ⟨F.len, fun A outer s H args us vs Q E _ hr => F.run A outer s H args us vs Q E hr⟩
theorem fnDG {x qual : Str} {st : Stmt} {f : Addr} {fd : FuncData} {Ns ps : List Str} {k : Nat} {W : WF} {wb : WS} (F : Fun K x qual st f fd) (S : FnScope Ns ps (defScope st))
    (hbody : ∀ (cdv : Value) (A : Around) (outer : List Env) (s : Shared) (H : Hp) (E : XK), (A.deeper (envOfC qual (defScope st) s.heap.objs.size f cdv)).guards = some [] → Room k (A.deeper (envOfC qual (defScope st) s.heap.objs.size f cdv)) → PSs (cxOf CX0 P w K mg base Ns qual (defScope st) f cdv A outer s H E).nox (defBody st) (tSt K wb))
    (h : ∀ u ds Qd, W u ds Qd → ds.length = ps.length ∧ wb { nx := fun _ u' => Qd .none u', rt := Qd } (startR Ns ds) u) : FnG P w K mg base (k + 1) f fd ps (spD K W) := by
  refine fnG_of F S (fun vs H Q E hs => ?_) (fun cdv A outer s H vs Q E hG hr hs => ?_)
  · obtain ⟨N, ds, u, Qd, hN, m, hd, hw, k⟩ := hs
    rw [hd.length]
    exact (h u ds Qd hw).1
  · obtain ⟨N, ds, u, Qd, hN, m, hd, hw, k⟩ := hs
    refine ⟨_, hbody cdv A outer s H E hG hr, N, N, H, startR Ns ds, u, _, start_rel hN m hd, (h u ds Qd hw).2, fun A' σ' H' ρ' u' g R' q => ?_, fun v H' d u' s m hd q => k v H' d u' s m hd q, fun _ _ _ _ _ _ _ q => q, fun _ _ _ _ _ _ _ q => q, fun _ _ _ _ _ q => q⟩
    exact k .non H' .none u' R'.step (R'.minv.less fun a _ h => R'.sub a h) .non q
end
section
variable {X : Cx} {K : PySem.W.Frag}
/-- a call of such a def -/
theorem pFnG {k : Nat} {f : Addr} {fd : FuncData} {ps : List Str} {x : Str} {p pos : Pos} {e : Expr} {es : List Expr} {W : WF} {ws : WA} (F : FnG X.prog X.w X.K X.mg X.base k f fd ps (spD X.K W)) (hG : X.A.guards = some []) (hr : Room k X.A) (hg : Gl X x) (hm : X.mg x = some (.ref f)) (hk : PySem.W.keepIn X.K (.ref f) = true) (hb : Binds X.K fd ps [])
    (ha : PA X (e :: es) (tAr X.K ws)) (hdb : (x == ("__debug__" : Str)) = false := by decide) (he : starEach (e :: es) X.env = (false, eval e X.env) :: starEach es X.env := by rfl) (hpl : (backTo pos (starEach es X.env)).any (·.1) = false := by rfl) :
    PE X (.Call (.Name x p) (e :: es) [] pos) (tD X.K (wFn W ws)) := by
  refine ⟨fun pins s σ H Q I hq => ?_⟩
  refine wpAny_Call_Name_kw (ld_glob I hg hm ?_ hdb)
  have q0 : tAr X.K ws σ H fun vs H1 => spD X.K W vs H1 Q fun _ _ _ => False := by
    have q1 := tCall_of (E := fun _ _ _ => False) σ H Q hq
    unfold tCall at q1
    simpa only [List.append_nil] using q1
  refine PySem.W.callWith_K (h₀ := X.base) I.ok.mod.kin hk (thn (ha.run pos pins s σ H _ I q0) fun us s1 ⟨vs, H1, I1, r, q⟩ => ⟨I1.kIn, ?_⟩) he hpl
  have hl : us.length = ps.length := by rw [← r.length]; exact F.len _ _ _ _ q
  have bnd := hb s1 us I1.kIn (by rw [List.append_nil]; exact hl)
  rw [List.append_nil] at bnd
  refine wpAny_call (codeAny_mono (F.go X.A X.stack s1 H1 ⟨us, []⟩ us vs Q _ hG hr I1.env0 bnd r q) fun res s' hq' => ?_)
  cases res with
  | error e => exact hq'.elim
  | ok fl =>
    cases fl with
    | ret u => exact I1.after hq'
    | next => exact hq'.elim
    | brk => exact hq'.elim
    | cont => exact hq'.elim
/-! ### repr -/
def reprOk (d : D) : Bool := d.layable0 && d.intsShort 13 && d.showable
theorem reprOk_lay {d : D} (h : reprOk d = true) : d.layable0 = true ∧ d.intsShort 13 = true ∧ d.showable = true := by
  unfold reprOk at h
  simp only [Bool.and_eq_true] at h
  exact ⟨h.1.1, h.1.2, h.2⟩
theorem reprOk_len {d : D} (h : reprOk d = true) : d.shown.length ≤ sizeLine := Nat.le_trans (shown_le13 (reprOk_lay h).1 (reprOk_lay h).2.1) (by decide)
@[simp] def fRepr : List D → (D → Prop) → Prop := fun ds Q => ∃ d, ds = [d] ∧ reprOk d = true ∧ Q (.str d.shown)
def rReprD (K : PySem.W.Frag) : List V → Hp → VK → Prop := fun xs H Q => ∃ v d, xs = [v] ∧ Dp K H v d ∧ reprOk d = true ∧ Q (.str d.shown) H
theorem call_reprD (hG : X.A.guards = some []) (hu : X.A.units + 65 < cLine) : CallR X (.builtin "repr") (rReprD X.K) := by
  intro pins s σ H xs us Q I r h
  obtain ⟨v, d, rfl, hd, ok, q⟩ := h
  obtain ⟨v', rfl, rv⟩ := vals1 r
  obtain ⟨hl, hi, hs⟩ := reprOk_lay ok
  have hz := reprOk_len ok
  obtain ⟨as, rd⟩ := Dp.reads I d v v' hd rv
  have fin : ∀ (h' : Heap) (t : Tok) (tk : Nat), (∀ b o, s.heap.get? b = some o → h'.get? b = some o) → EP X pins σ Q (.str d.shown t) { s with heap := h', toks := tk } := fun h' t tk hk => ⟨.str d.shown, H, I.kept (t' := tk) hk, ⟨t, rfl⟩, q⟩
  have self : ∀ (t : Tok) (tk : Nat), EP X pins σ Q (.str d.shown t) { s with toks := tk } := fun t tk => fin s.heap t tk fun _ _ e => e
  cases hd with
  | non => cases rv; exact PySem.P.repr_of_none (self _ _)
  | bl b => cases rv; exact PySem.P.repr_of_bool (self _ _)
  | int i => obtain ⟨t, rfl⟩ := rv; exact PySem.P.repr_of_int (by simpa [PyData.showable] using hs) (self _ _)
  | str x => obtain ⟨t, rfl⟩ := rv; exact PySem.P.repr_of_str (self _ _) hz
  | lst h1 h2 =>
    cases rv
    exact repr_of_reads' rd hs (PyData.noDict_hsm (PyData.hasDict_of_layable hl)) hG (by have := PyData.depth_le_of_layable hl; omega) (fun _ _ e => e) (fun h' u tk hk => fin h' u tk hk) hz
  | tup h1 h2 =>
    cases rv
    exact repr_of_reads' rd hs (PyData.noDict_hsm (PyData.hasDict_of_layable hl)) hG (by have := PyData.depth_le_of_layable hl; omega) (fun _ _ e => e) (fun h' u tk hk => fin h' u tk hk) hz
theorem cd_repr : CallD K (rReprD K) fRepr := fun N A H xs ds Q Qd u hf hm hx ⟨d, e, ok, q⟩ k => by
  obtain ⟨v, rfl, hv⟩ := db1 hx e
  have hl := SeqAt.canLay_of_layable (reprOk_lay ok).1
  exact ⟨v, d, rfl, hv.dp hl, ok, k _ H _ (Step.refl H) hm (.str _) q⟩
theorem pRepr {x : Str} {e : Expr} {p pos : Pos} {w : WE} (hx : x = "repr") (hG : X.A.guards = some []) (hu : X.A.units + 65 < cLine) (hg : Gl X x) (hm : X.mg x = none) (h : PE X e (tBo X.K w)) (he : starEach [e] X.env = (false, eval e X.env) :: starEach [] X.env := by rfl) : PE X (.Call (.Name x p) [e] [] pos) (tD X.K (wCall fRepr (waCons w waNil))) := by
  subst hx
  exact pB1 (call_reprD hG hu) cd_repr hg hm bootS_repr h (by decide) (by decide) he
/-! ### kinds of values -/
@[simp] def tyName : D → String
  | .none => "NoneType"
  | .bool _ => "bool"
  | .int _ => "int"
  | .str _ => "str"
  | .list _ => "list"
  | .tuple _ => "tuple"
  | .dict _ => "dict"
@[simp] def plainD : D → Bool
  | .dict [] => true
  | .dict _ => false
  | _ => true
theorem Da.ty {A : Addr → Prop} {H : Hp} {v : V} {d : D} (h : Da K A H v d) (hp : plainD d = true) : TyX K H v (.type (tyName d)) := by
  cases h with
  | non => exact .base .non
  | bl b => exact .base (.bl b)
  | int i => exact .base (.int i)
  | str x => exact .base (.str x)
  | lst h _ _ => exact .base (.lst h)
  | scr _ _ _ => simp [sD, plainD] at hp
  | scrK _ => simp [sD, plainD] at hp
  | tup h _ _ => exact .base (.tup h)
  | dct0 h _ => exact .base (.dK h)
  | rng _ _ => simp [rngD, plainD] at hp
  | dctK _ _ _ => simp [xD, plainD] at hp
  | dctN _ _ _ _ => simp [xD, plainD] at hp
  | mm _ _ => simp [mD, plainD] at hp
  | err _ => simp [eD, plainD] at hp
theorem Db.ty {N A : Addr → Prop} {H : Hp} {v : V} {d : D} (h : Db K N A H v d) (hp : plainD d = true) : TyX K H v (.type (tyName d)) := by
  cases h with
  | da h => exact h.ty hp
  | lst h _ _ => exact .base (.lst h)
/-- isinstance(e, T) -/
@[simp] def fIsi (T : String) : D → (D → Prop) → Prop := fun d Q => plainD d = true ∧ ∃ r, kitB (tyName d) T = some r ∧ Q (.bool r)
@[simp] def wIsi (T : String) (w : WE) : WE := fun ρ u Q => w ρ u fun d u1 => fIsi T d fun z => Q z u1
theorem pIsi {x y : Str} {e : Expr} {p py pos : Pos} {T : String} {w : WE} (hg : Gl X x) (hm : X.mg x = none) (hv : bootBuiltins x = some (.builtin "isinstance")) (hgy : Gl X y) (hmy : X.mg y = none) (hvy : bootBuiltins y = some (.type T)) (h : PE X e (tBo X.K w))
    (hn : x ≠ "__name__" := by decide) (hdb : (x == ("__debug__" : Str)) = false := by decide) (hny : y ≠ "__name__" := by decide) (hdby : (y == ("__debug__" : Str)) = false := by decide)
    (he : starEach [e, .Name y py] X.env = (false, eval e X.env) :: starEach [.Name y py] X.env := by rfl) (he2 : starEach [.Name y py] X.env = (false, eval (.Name y py) X.env) :: starEach [] X.env := by rfl) (hpl : (backTo pos (starEach [.Name y py] X.env)).any (·.1) = false := by rfl) :
    PE X (.Call (.Name x p) [e, .Name y py] [] pos) (tD X.K (wIsi T w)) :=
  PEi (pe_callB call_isi hg hm hv (pa_cons h (pa_cons (pe_bltn hgy hmy hvy (v := .ty T) rfl hny hdby) pa_nil he2) he) hn hdb he hpl) fun σ H Q ⟨N, A, H0, ρ, u, Qd, R, hw, k⟩ =>
    ⟨N, A, H0, ρ, u, _, R, hw, fun v H1 d u1 s1 m1 hd ⟨hp, r, e, q⟩ => ⟨v, .ty T, _, _, r, rfl, .ty T, hd.ty hp, kit_ty e, k _ _ _ u1 s1 m1 (.bl r) q⟩⟩
/-- type(e) is T -/
def zTyD (x : V) (H : Hp) : Option String := match x with
  | .ref p => (match H p with
    | some (.dK _) => some "dict"
    | _ => zTyV x H)
  | _ => zTyV x H
def kTyD (x : V) (H : Hp) (Q : VK) : Prop := ∃ n, zTyD x H = some n ∧ Q (.ty n) H
theorem rl_typeD (pins : List (Addr × Obj)) (s : Shared) (σ : L2.St) (H : Hp) (x : V) (v : Value) (Q : VK) (I : Inv X pins σ H s) (r : RelV x v) (h : kTyD x H Q) :
    wpAny (model X.prog X.w) X.A (call (.type "type") [v]) (EP X pins σ Q) X.xe s := by
  obtain ⟨n, e, q⟩ := h
  cases x with
  | ref p =>
    cases ho : H p with
    | none => simp only [zTyD, ho] at e; exact rl_type pins s σ H _ v Q I r ⟨n, e, q⟩
    | some o =>
      cases o with
      | dK kvs =>
        simp only [zTyD, ho] at e
        cases e
        cases (show v = Value.ref p from r)
        obtain ⟨_, _, vs, _, ob, es, ep, h1, h2, _⟩ := (show ObjOk X.prog X.w H s.heap p (.dK kvs) from I.hok p _ ho)
        exact call_type_of (Tx := "dict") ⟨ob, h1, h2.1⟩ (by decide +kernel) ⟨.ty "dict", H, I, rfl, q⟩
      | _ => simp only [zTyD, ho] at e; exact rl_type pins s σ H _ v Q I r ⟨n, e, q⟩
  | _ => exact rl_type pins s σ H _ v Q I r ⟨n, e, q⟩
theorem Db.zty {N A : Addr → Prop} {H : Hp} {v : V} {d : D} (h : Db K N A H v d) (hp : plainD d = true) : zTyD v H = some (tyName d) := by
  cases h with
  | lst h _ _ => simp [zTyD, h, zTyV, tyName]
  | da h =>
    cases h with
    | non => rfl
    | bl b => rfl
    | int i => rfl
    | str x => rfl
    | lst h _ _ => simp [zTyD, h, zTyV, tyName]
    | scr _ _ _ => simp [sD, plainD] at hp
    | scrK _ => simp [sD, plainD] at hp
    | tup h _ _ => simp [zTyD, h, zTyV, tyName]
    | dct0 h _ => simp [zTyD, h, tyName]
    | rng _ _ => simp [rngD, plainD] at hp
    | dctK _ _ _ => simp [xD, plainD] at hp
    | dctN _ _ _ _ => simp [xD, plainD] at hp
    | mm _ _ => simp [mD, plainD] at hp
    | err _ => simp [eD, plainD] at hp
@[simp] def fTyIs (T : String) (neg : Bool) : D → (D → Prop) → Prop := fun d Q => plainD d = true ∧ Q (.bool (if neg then !decide (tyName d = T) else decide (tyName d = T)))
@[simp] def wTyIs (T : String) (neg : Bool) (w : WE) : WE := fun ρ u Q => w ρ u fun d u1 => fTyIs T neg d fun z => Q z u1
theorem pe_tyD {a : Expr} {ta : TE} {p pos : Pos} (hg : Gl X "type") (hm : X.mg "type" = none) (ha : PE X a ta) (na : starEach [a] X.env = (false, eval a X.env) :: starEach [] X.env := by rfl) : PE X (.Call (.Name "type" p) [a] [] pos) (tCB (r1 kTyD) (tCons ta tNil)) :=
  pe_callTy (call_r1 rl_typeD) hg hm (by decide +kernel) (pa_cons ha pa_nil na) (he := na)
theorem pTyIs {y : Str} {a : Expr} {p pos py pc : Pos} {T : String} {w : WE} (hg : Gl X "type") (hm : X.mg "type" = none) (hgy : Gl X y) (hmy : X.mg y = none) (hvy : bootBuiltins y = some (.type T)) (ha : PE X a (tBo X.K w))
    (hny : y ≠ "__name__" := by decide) (hdby : (y == ("__debug__" : Str)) = false := by decide) (na : starEach [a] X.env = (false, eval a X.env) :: starEach [] X.env := by rfl) :
    PE X (.Compare (.Call (.Name "type" p) [a] [] pos) [.Is] [.Name y py] pc) (tD X.K (wTyIs T false w)) :=
  PEi (pe_cmpR op_isTy (pe_tyD hg hm ha na) (pe_bltn hgy hmy hvy (v := .ty T) rfl hny hdby) (nomark _)) fun σ H Q ⟨N, A, H0, ρ, u, Qd, R, hw, k⟩ =>
    ⟨N, A, H0, ρ, u, _, R, hw, fun v H1 d u1 s1 m1 hd ⟨hp, q⟩ => ⟨tyName d, hd.zty hp, tyName d, T, rfl, rfl, k _ _ _ u1 s1 m1 (.bl _) q⟩⟩
theorem pTyNot {y : Str} {a : Expr} {p pos py pc : Pos} {T : String} {w : WE} (hg : Gl X "type") (hm : X.mg "type" = none) (hgy : Gl X y) (hmy : X.mg y = none) (hvy : bootBuiltins y = some (.type T)) (ha : PE X a (tBo X.K w))
    (hny : y ≠ "__name__" := by decide) (hdby : (y == ("__debug__" : Str)) = false := by decide) (na : starEach [a] X.env = (false, eval a X.env) :: starEach [] X.env := by rfl) :
    PE X (.Compare (.Call (.Name "type" p) [a] [] pos) [.IsNot] [.Name y py] pc) (tD X.K (wTyIs T true w)) :=
  PEi (pe_cmpR op_isNotTy (pe_tyD hg hm ha na) (pe_bltn hgy hmy hvy (v := .ty T) rfl hny hdby) (nomark _)) fun σ H Q ⟨N, A, H0, ρ, u, Qd, R, hw, k⟩ =>
    ⟨N, A, H0, ρ, u, _, R, hw, fun v H1 d u1 s1 m1 hd ⟨hp, q⟩ => ⟨tyName d, hd.zty hp, tyName d, T, rfl, rfl, k _ _ _ u1 s1 m1 (.bl _) q⟩⟩
/-! ### l.index(x) -/
def fIndex : D → D → (D → Prop) → Prop := fun c d Q => ∃ ds j z, c = .list ds ∧ SeqAt.shaped c = true ∧ SeqAt.shaped d = true ∧ ds[j]? = some z ∧ PyData.eqv z d = true ∧ (∀ (m : Nat) (z' : D), m < j → ds[m]? = some z' → PyData.eqv z' d = false) ∧ Q (.int (j : Nat))
@[simp] def wIndex (wa wb : WE) : WE := fun ρ u Q => wa ρ u fun c u1 => (∃ ds, c = .list ds) ∧ wb ρ u1 fun d u2 => fIndex c d fun z => Q z u2
theorem pIndex {o e : Expr} {apos cpos : Pos} {wa wb : WE} (hu : X.A.units + 65 < cLine) (ho : PE X o (tBo X.K wa)) (h : PE X e (tBo X.K wb)) (hbase : attributeBase o "index" X.env (eval o X.env) = eval o X.env := by rfl)
    (hfew : ((backTo cpos (starEach [e] X.env)).all (fun x => !x.1) && (backToKw cpos (keywordEach [] X.env)).all (fun x => x.1.isSome)
      && decide ([e].length + ([] : List Keyword).length + (if ([] : List Keyword).isEmpty then 0 else 1) < 30)) = true := by rfl)
    (hline : (apos.endLine == cpos.line) = true := by rfl) (hs : starEach [e] X.env = (false, eval e X.env) :: starEach [] X.env := by rfl) (hplain : (backTo cpos (starEach [] X.env)).any (·.1) = false := by rfl) :
    PE X (.Call (.Attribute o "index" apos) [e] [] cpos) (tD X.K (wIndex wa wb)) :=
  PEi (pe_bm PySem.F.plainAttrs_list PySem.F.slot_list_index PySem.F.type_list_index (mt_indexD hu) ho (pa_cons h pa_nil hs) hbase hfew hline hs hplain) fun σ H Q ⟨N, A, H0, ρ, u, Qd, R, hw, k⟩ =>
    ⟨N, A, H0, ρ, u, _, R, hw, fun x H1 c u1 s1 m1 hx ⟨⟨ds, e⟩, q1⟩ => by
      subst e
      obtain ⟨a, xs, rfl, ha, hxs⟩ := hx.lists
      refine ⟨.inl ⟨rfl, xs, .inl (.inl ha)⟩, N, A, H0, ρ, u1, _, R.go s1 m1, q1, fun y H2 d u2 s2 m2 hy ⟨ds', j, z, e, sc, sd, hz, hzd, hno, q⟩ => ?_⟩
      cases e
      exact ⟨a, y, d, _, j, z, rfl, rfl, (hx.step s2).dp (SeqAt.canLay_of_shaped sc), hy.dp (SeqAt.canLay_of_shaped sd), sc, sd, hz, hzd, hno, k _ _ _ u2 (s1.trans s2) m2 (.int _) q⟩⟩
end
end DW

set_option Elab.async false
set_option linter.all false
set_option maxRecDepth 100000
set_option maxHeartbeats 2000000
namespace DW
open PySem PySem.Spec PyProof.Rows L2
@[simp] def fSub : D → D → (D → Prop) → Prop := fI0 fun i j => .int (i - j)
@[simp] def fDiv : D → D → (D → Prop) → Prop := fII (fun i j => .int (i / j)) CDiv
@[simp] def fMod : D → D → (D → Prop) → Prop := fII (fun i j => .int (i % j)) fun _ j => 0 < j
@[simp] def fPow : D → D → (D → Prop) → Prop := fII (fun i j => .int (i ^ j.toNat)) CPow
@[simp] def fLt : D → D → (D → Prop) → Prop := fI0 fun i j => .bool (decide (i < j))
@[simp] def fLe : D → D → (D → Prop) → Prop := fI0 fun i j => .bool (decide (i ≤ j))
@[simp] def fGt : D → D → (D → Prop) → Prop := fI0 fun i j => .bool (decide (j < i))
@[simp] def fGe : D → D → (D → Prop) → Prop := fI0 fun i j => .bool (decide (j ≤ i))
@[simp] def wfD (w : WA) : WE := fun ρ u Q => w ρ u fun ds u' => Q (.list ds) u'
@[simp] def wAddF (wa wb : WE) : WA := fun ρ u Q => wa ρ u fun c u1 => wb ρ u1 fun d u2 => fAddL c d fun z => Q z u2
@[simp] def wListRg (w : WR) : WA := fun ρ u Q => w ρ u fun a b u1 => RgOk a b ∧ Q (rgD a b) u1
@[simp] def wTupRg (w : WR) : WE := fun ρ u Q => w ρ u fun a b u1 => RgOk a b ∧ Q (.tuple (rgD a b)) u1
@[simp] def wListOf (w : WE) : WA := fun ρ u Q => w ρ u fun d u1 => fLstOf [d] fun z => Q z u1
theorem units65 {k : Nat} {A : Around} (r : Room k A) : A.units + 65 < cLine := by have := r.un; omega
theorem boot_repr : bootBuiltins "repr" = some (.builtin "repr") := by decide +kernel
theorem boot_any : bootBuiltins "any" = some (.builtin "any") := by decide +kernel
section
variable {X : Cx}
theorem tst_imp {K : PySem.W.Frag} {w : WE} {t : TE} (h : ∀ σ H Q, tD K w σ H Q → t σ H Q) : ∀ σ H Q, tTe K (wTst w) σ H Q → tTest t σ H Q := fun σ H Q ⟨N, A, H0, ρ, u, Qd, R, hw, k⟩ =>
  h σ H _ ⟨N, A, H0, ρ, u, _, R, hw, fun v H' d u' s m hd ⟨b, e, q⟩ => ⟨b, by subst e; cases hd; rfl, k b H' u' s m q⟩⟩
theorem ptIsN {a : Expr} {w : WE} {j : Nat} {p p' : Pos} (h : PE X a (tBo X.K w)) : PT X (.Compare a [.Is] [.Constant .none j p'] p) (tTe X.K (wTst (wIsN false w))) := PTi (pt_cmp (pc_isN h)) fun σ H Q ⟨N, A, H0, ρ, u, Qd, R, hw, k⟩ =>
  ⟨N, A, H0, ρ, u, _, R, hw, fun x H1 c u1 s1 m1 hx ⟨b, e, q⟩ => ⟨decide (x = .non), rfl, by
    rw [hx.isNon]
    have e' : isNon c = b := by simpa using e
    rw [e']
    exact k _ _ _ s1 m1 q⟩⟩
theorem ptNotN {a : Expr} {w : WE} {j : Nat} {p p' : Pos} (h : PE X a (tBo X.K w)) : PT X (.Compare a [.IsNot] [.Constant .none j p'] p) (tTe X.K (wTst (wIsN true w))) := PTi (pt_cmp (pc_notN h)) fun σ H Q ⟨N, A, H0, ρ, u, Qd, R, hw, k⟩ =>
  ⟨N, A, H0, ρ, u, _, R, hw, fun x H1 c u1 s1 m1 hx ⟨b, e, q⟩ => ⟨!decide (x = .non), rfl, by
    rw [hx.isNon]
    have e' : (!isNon c) = b := by simpa using e
    rw [e']
    exact k _ _ _ s1 m1 q⟩⟩
theorem ty_imp {K : PySem.W.Frag} {T : String} {w : WE} : ∀ σ H Q, tD K (wTyIs T false w) σ H Q → tOp (fun x y H Q => ∃ m n, x = .ty m ∧ y = .ty n ∧ Q (.bl (decide (m = n))) H) (tCB (r1 kTyD) (tCons (tBo K w) tNil)) (tC (.ty T)) σ H Q := fun σ H Q ⟨N, A, H0, ρ, u, Qd, R, hw, k⟩ =>
  ⟨N, A, H0, ρ, u, _, R, hw, fun v H1 d u1 s1 m1 hd ⟨hp, q⟩ => ⟨tyName d, hd.zty hp, tyName d, T, rfl, rfl, k _ _ _ u1 s1 m1 (.bl _) q⟩⟩
theorem tyn_imp {K : PySem.W.Frag} {T : String} {w : WE} : ∀ σ H Q, tD K (wTyIs T true w) σ H Q → tOp (fun x y H Q => ∃ m n, x = .ty m ∧ y = .ty n ∧ Q (.bl (!decide (m = n))) H) (tCB (r1 kTyD) (tCons (tBo K w) tNil)) (tC (.ty T)) σ H Q := fun σ H Q ⟨N, A, H0, ρ, u, Qd, R, hw, k⟩ =>
  ⟨N, A, H0, ρ, u, _, R, hw, fun v H1 d u1 s1 m1 hd ⟨hp, q⟩ => ⟨tyName d, hd.zty hp, tyName d, T, rfl, rfl, k _ _ _ u1 s1 m1 (.bl _) q⟩⟩
theorem ptTyIs {y : Str} {a : Expr} {p pos py pc : Pos} {T : String} {w : WE} (hg : Gl X "type") (hm : X.mg "type" = none) (hgy : Gl X y) (hmy : X.mg y = none) (hvy : bootBuiltins y = some (.type T)) (ha : PE X a (tBo X.K w))
    (hny : y ≠ "__name__" := by decide) (hdby : (y == ("__debug__" : Str)) = false := by decide) (na : starEach [a] X.env = (false, eval a X.env) :: starEach [] X.env := by rfl) :
    PT X (.Compare (.Call (.Name "type" p) [a] [] pos) [.Is] [.Name y py] pc) (tTe X.K (wTst (wTyIs T false w))) := PTi (pt_cmpR op_isTy (pe_tyD hg hm ha na) (pe_bltn hgy hmy hvy (v := .ty T) rfl hny hdby) (nomark _)) (tst_imp ty_imp)
theorem ptTyNot {y : Str} {a : Expr} {p pos py pc : Pos} {T : String} {w : WE} (hg : Gl X "type") (hm : X.mg "type" = none) (hgy : Gl X y) (hmy : X.mg y = none) (hvy : bootBuiltins y = some (.type T)) (ha : PE X a (tBo X.K w))
    (hny : y ≠ "__name__" := by decide) (hdby : (y == ("__debug__" : Str)) = false := by decide) (na : starEach [a] X.env = (false, eval a X.env) :: starEach [] X.env := by rfl) :
    PT X (.Compare (.Call (.Name "type" p) [a] [] pos) [.IsNot] [.Name y py] pc) (tTe X.K (wTst (wTyIs T true w))) := PTi (pt_cmpR op_isNotTy (pe_tyD hg hm ha na) (pe_bltn hgy hmy hvy (v := .ty T) rfl hny hdby) (nomark _)) (tst_imp tyn_imp)
theorem chain_imp {K : PySem.W.Frag} {r r' : R2} {f g : D → D → (D → Prop) → Prop} {wa wb wc : WE} (ho : OpD K r f) (ho' : OpD K r' g) : ∀ σ H Q, tD K (w3 f g wa wb wc) σ H Q → tChain r r' (tBo K wa) (tBo K wb) (tBo K wc) σ H Q := fun σ H Q ⟨N, A, H0, ρ, u, Qd, R, hw, k⟩ =>
  ⟨N, A, H0, ρ, u, _, R, hw, fun x H1 c u1 s1 m1 hx q1 => ⟨N, A, H0, ρ, u1, _, R.go s1 m1, q1, fun y H2 d u2 s2 m2 hy q2 =>
    ho N A H2 x y c d _ _ u2 (fun p hp => R.fresh ((s1.trans s2).fresh hp)) m2 (hx.step s2) hy q2 fun v H3 z s3 m3 hv ⟨b, e, qz⟩ => by
      subst e
      cases hv
      refine ⟨b, rfl, ?_⟩
      cases b with
      | false => exact k _ _ _ u2 ((s1.trans s2).trans s3) m3 (.bl false) qz
      | true => exact ⟨N, A, H0, ρ, u2, _, R.go ((s1.trans s2).trans s3) m3, qz, fun w H4 e u3 s4 m4 hw q4 =>
          ho' N A H4 y w d e _ _ u3 (fun p hp => R.fresh ((((s1.trans s2).trans s3).trans s4).fresh hp)) m4 ((hy.step s3).step s4) hw q4 fun v H5 z s5 m5 hv qz => k v H5 z u3 ((((s1.trans s2).trans s3).trans s4).trans s5) m5 hv qz⟩⟩⟩
theorem pCh {e : Expr} {r r' : R2} {f g : D → D → (D → Prop) → Prop} {wa wb wc : WE} (ho : OpD X.K r f) (ho' : OpD X.K r' g) (h : PE X e (tChain r r' (tBo X.K wa) (tBo X.K wb) (tBo X.K wc))) : PE X e (tD X.K (w3 f g wa wb wc)) := PEi h (chain_imp ho ho')
theorem ptCh {e : Expr} {r r' : R2} {f g : D → D → (D → Prop) → Prop} {wa wb wc : WE} (ho : OpD X.K r f) (ho' : OpD X.K r' g) (h : PT X e (tTest (tChain r r' (tBo X.K wa) (tBo X.K wb) (tBo X.K wc)))) : PT X e (tTe X.K (wTst (w3 f g wa wb wc))) := PTi h (tst_imp (chain_imp ho ho'))
end
end DW

set_option Elab.async false
set_option linter.all false
set_option maxRecDepth 100000
set_option maxHeartbeats 2000000
namespace DW
open PySem PySem.Spec PyProof.Rows L2
/-! ### comprehensions whose parts are functions -/
theorem iteT {a b : Prop} (h : a) : if true = true then a else b := by rw [if_pos rfl]; exact h
theorem wComp_filt {b : WB} {wt : WT} {we : WE} {ρ : Rho} {Q : List D → Nat → Prop} (p : D → Bool) (f : D → D) : ∀ (xs acc : List D) (u : Nat),
    (∀ x ∈ xs, ∃ ρ', b x ρ = some ρ' ∧ (∀ u (R : Bool → Nat → Prop), R (p x) u → wt ρ' u R) ∧ (p x = true → ∀ u (R : D → Nat → Prop), R (f x) u → we ρ' u R)) → Q (acc ++ (xs.filter p).map f) u → wComp b wt we ρ xs acc u Q
  | [], acc, u, _, q => by simpa using q
  | x :: xs, acc, u, h, q => by
    obtain ⟨ρ', e, ht, he⟩ := h x List.mem_cons_self
    have hr : ∀ y ∈ xs, _ := fun y hy => h y (List.mem_cons_of_mem _ hy)
    refine ⟨ρ', e, ht u _ ?_⟩
    cases hp : p x with
    | true =>
      rw [if_pos rfl]
      refine he hp u _ (wComp_filt p f xs _ u hr ?_)
      rw [List.filter_cons_of_pos hp] at q
      simpa using q
    | false =>
      rw [if_neg (by simp)]
      refine wComp_filt p f xs _ u hr ?_
      rw [List.filter_cons_of_neg (by simp [hp])] at q
      exact q
theorem wComp_map {b : WB} {we : WE} {ρ : Rho} {Q : List D → Nat → Prop} (f : D → D) (xs acc : List D) (u : Nat)
    (h : ∀ x ∈ xs, ∃ ρ', b x ρ = some ρ' ∧ ∀ u (R : D → Nat → Prop), R (f x) u → we ρ' u R) (q : Q (acc ++ xs.map f) u) : wComp b wTy we ρ xs acc u Q :=
  wComp_filt (fun _ => true) f xs acc u (fun x hx => let ⟨ρ', e, h⟩ := h x hx; ⟨ρ', e, fun u R q => q, fun _ => h⟩) (by rw [List.filter_eq_self.mpr (fun _ _ => rfl)]; exact q)
/-- over typed items -/
theorem wComp_mapT {α : Type} {b : WB} {we : WE} {ρ : Rho} {Q : List D → Nat → Prop} (enc : α → D) (f : α → D) (xs : List α) (acc : List D) (u : Nat)
    (h : ∀ x ∈ xs, ∃ ρ', b (enc x) ρ = some ρ' ∧ ∀ u (R : D → Nat → Prop), R (f x) u → we ρ' u R) (q : Q (acc ++ xs.map f) u) : wComp b wTy we ρ (xs.map enc) acc u Q := by
  induction xs generalizing acc u with
  | nil => simpa using q
  | cons x xs ih =>
    obtain ⟨ρ', e, he⟩ := h x List.mem_cons_self
    refine ⟨ρ', e, ?_⟩
    simp only [wTy, if_true]
    exact he u _ (ih _ u (fun y hy => h y (List.mem_cons_of_mem _ hy)) (by simpa using q))
theorem wComp_filtT {α : Type} {b : WB} {wt : WT} {we : WE} {ρ : Rho} {Q : List D → Nat → Prop} (enc : α → D) (p : α → Bool) (f : α → D) (xs : List α) (acc : List D) (u : Nat)
    (h : ∀ x ∈ xs, ∃ ρ', b (enc x) ρ = some ρ' ∧ (∀ u (R : Bool → Nat → Prop), R (p x) u → wt ρ' u R) ∧ (p x = true → ∀ u (R : D → Nat → Prop), R (f x) u → we ρ' u R)) (q : Q (acc ++ (xs.filter p).map f) u) : wComp b wt we ρ (xs.map enc) acc u Q := by
  induction xs generalizing acc u with
  | nil => simpa using q
  | cons x xs ih =>
    obtain ⟨ρ', e, ht, he⟩ := h x List.mem_cons_self
    have hr : ∀ y ∈ xs, _ := fun y hy => h y (List.mem_cons_of_mem _ hy)
    refine ⟨ρ', e, ht u _ ?_⟩
    cases hp : p x with
    | true =>
      rw [if_pos rfl]
      refine he hp u _ (ih _ u hr ?_)
      rw [List.filter_cons_of_pos hp] at q
      simpa using q
    | false =>
      rw [if_neg (by simp)]
      refine ih _ u hr ?_
      rw [List.filter_cons_of_neg (by simp [hp])] at q
      exact q
/-- with draws: what is known of each item made, and the count -/
theorem wComp_draw {b : WB} {we : WE} {ρ : Rho} {Q : List D → Nat → Prop} (G : D → D → Prop) (c : Nat) : ∀ (xs acc : List D) (u : Nat),
    (∀ x ∈ xs, ∃ ρ', b x ρ = some ρ' ∧ ∀ v (R : D → Nat → Prop), v + c ≤ u + xs.length * c → (∀ y v', G x y → v' ≤ v + c → R y v') → we ρ' v R) →
    (∀ ys u', ys.length = xs.length → (∀ (i : Nat) x y, xs[i]? = some x → ys[i]? = some y → G x y) → u' ≤ u + xs.length * c → Q (acc ++ ys) u') → wComp b wTy we ρ xs acc u Q
  | [], acc, u, _, q => by
    have := q [] u rfl (fun i x y h => by simp at h) (by simp)
    simpa using this
  | x :: xs, acc, u, h, q => by
    obtain ⟨ρ', e, he⟩ := h x List.mem_cons_self
    have hm : (x :: xs).length * c = xs.length * c + c := by simp [Nat.succ_mul]
    rw [hm] at he q
    refine ⟨ρ', e, ?_⟩
    simp only [wTy, if_true]
    refine he u _ (by omega) fun y v' g hv => ?_
    refine wComp_draw G c xs _ v' (fun z hz => ?_) fun ys u' hl hg hu => ?_
    · obtain ⟨ρz, ez, hez⟩ := h z (List.mem_cons_of_mem _ hz)
      exact ⟨ρz, ez, fun v R hvv hR => hez v R (by rw [hm]; omega) hR⟩
    · have := q (y :: ys) u' (by simp [hl]) (fun i a b' ha hb => by
        cases i with
        | zero => simp at ha hb; subst ha hb; exact g
        | succ i => exact hg i a b' (by simpa using ha) (by simpa using hb)) (by omega)
      simpa using this
theorem rgD_eq (a b : Int) : rgD a b = ((List.range (b - a).toNat).map fun i => (a + (i : Nat) : Int)).map .int := by
  unfold rgD
  rw [List.map_map]
  rfl
end DW

set_option Elab.async false
set_option linter.all false
set_option maxRecDepth 100000
set_option maxHeartbeats 2000000
namespace DW
open PySem PySem.Spec PyProof.Rows L2
/-! ### loops by an invariant -/
theorem wLoop_inv {b : WB} {body : WS} {F : DE} : ∀ (xs : List D) (I : Nat → Rho → Nat → Prop)
    (h : ∀ i x ρ u F', xs[i]? = some x → I i ρ u → (∀ ρ u, I (i + 1) ρ u → F'.nx ρ u) → (∀ ρ u, I (i + 1) ρ u → F'.ct ρ u) → F'.rt = F.rt → F'.bk = F.nx → F'.ex = F.ex → ∃ ρ', b x ρ = some ρ' ∧ body F' ρ' u)
    (hn : ∀ ρ u, I xs.length ρ u → F.nx ρ u) (ρ : Rho) (u : Nat), I 0 ρ u → wLoop b body F xs ρ u
  | [], I, h, hn, ρ, u, i0 => hn ρ u i0
  | x :: xs, I, h, hn, ρ, u, i0 => by
    have rec_ : ∀ ρ u, I 1 ρ u → wLoop b body F xs ρ u := fun ρ u i1 =>
      wLoop_inv xs (fun i => I (i + 1)) (fun i y ρ u F' e ii n1 n2 n3 n4 n5 => h (i + 1) y ρ u F' (by simpa using e) ii n1 n2 n3 n4 n5) (fun ρ u q => hn ρ u (by simpa using q)) ρ u i1
    obtain ⟨ρ', e, hb⟩ := h 0 x ρ u { nx := wLoop b body F xs, rt := F.rt, bk := F.nx, ct := wLoop b body F xs, ex := F.ex } rfl i0 rec_ rec_ rfl rfl rfl
    exact ⟨ρ', e, hb⟩
theorem enumD_len (xs : List D) : (enumD xs).length = xs.length := by simp [enumD]
theorem enumD_get (xs : List D) (i : Nat) : (enumD xs)[i]? = (xs[i]?).map fun x => .tuple [.int (i : Nat), x] := by
  unfold enumD
  rw [List.getElem?_map, List.getElem?_zipIdx]
  cases xs[i]? <;> simp
theorem rgD_get (n : Nat) (i : Nat) : (rgD 0 (n : Int))[i]? = if i < n then some (.int (i : Nat)) else none := by
  unfold rgD
  rw [List.getElem?_map]
  by_cases h : i < n
  · rw [if_pos h, List.getElem?_range (by simpa using h)]; simp
  · rw [if_neg h, List.getElem?_eq_none (by simp; omega)]; rfl
theorem rgD_len (n : Nat) : (rgD 0 (n : Int)).length = n := by simp [rgD]
theorem rgD_map (n : Nat) : rgD 0 (n : Int) = (List.range n).map fun i => (PyData.int (i : Nat) : D) := by
  unfold rgD
  simp [Int.sub_zero]
end DW

set_option Elab.async false
set_option linter.all false
set_option maxRecDepth 100000
set_option maxHeartbeats 2000000
namespace DW
open PySem PySem.Spec PyProof.Rows L2
/-! ### the draws' state -/
section
variable {X : Cx} {K : PySem.W.Frag} {W : XK}
theorem Da.mD_inv {A : Addr → Prop} {H : Hp} {v : V} (h : Da K A H v mD) : ∃ a o, v = .ref a ∧ H a = some o ∧ IsM o := by
  generalize e : mD = d at h
  cases h with
  | mm h m => exact ⟨_, _, rfl, h, m⟩
  | scr _ _ _ => simp [mD, sD] at e
  | scrK _ => simp [mD, sD] at e
  | err _ => simp [mD, eD] at e
  | _ => simp [mD] at e
@[simp] def wMLeft (i : Nat) : WE := fun ρ u Q => ρ[i]? = some (some (.d mD)) ∧ ∀ l : Int, 0 ≤ l → Q (.int l) u
@[simp] def wMSeed (i : Nat) : WE := fun ρ u Q => ρ[i]? = some (some (.d mD)) ∧ ∀ l : Int, 0 ≤ l → l < 2147483647 → Q (.int l) u
@[simp] def wMSpot (i : Nat) : WE := fun ρ u Q => ρ[i]? = some (some (.d mD)) ∧ ∀ p : Int, 0 ≤ p → p ≤ u → Q (.int p) u
@[simp] def wMCells (i : Nat) : WE := fun ρ u Q => ρ[i]? = some (some (.d mD)) ∧ ∀ cells : List Int, cells ≠ [] → Q (.list (cells.map .int)) u
abbrev mKvs (l s : Int) (c : Addr) (p : Int) : List (Key × V) := [(.inr "left", .int l), (.inr "seed", .int s), (.inr "cells", .ref c), (.inr "spot", .int p)]
theorem nk_left_seed : ¬ (Sum.inr "left" : Key) = .inr "seed" := by decide
theorem nk_left_cells : ¬ (Sum.inr "left" : Key) = .inr "cells" := by decide
theorem nk_left_spot : ¬ (Sum.inr "left" : Key) = .inr "spot" := by decide
theorem nk_seed_left : ¬ (Sum.inr "seed" : Key) = .inr "left" := by decide
theorem nk_seed_cells : ¬ (Sum.inr "seed" : Key) = .inr "cells" := by decide
theorem nk_seed_spot : ¬ (Sum.inr "seed" : Key) = .inr "spot" := by decide
theorem nk_cells_left : ¬ (Sum.inr "cells" : Key) = .inr "left" := by decide
theorem nk_cells_seed : ¬ (Sum.inr "cells" : Key) = .inr "seed" := by decide
theorem nk_cells_spot : ¬ (Sum.inr "cells" : Key) = .inr "spot" := by decide
theorem nk_spot_left : ¬ (Sum.inr "spot" : Key) = .inr "left" := by decide
theorem nk_spot_seed : ¬ (Sum.inr "spot" : Key) = .inr "seed" := by decide
theorem nk_spot_cells : ¬ (Sum.inr "spot" : Key) = .inr "cells" := by decide
theorem ns_left_seed : ¬ ("left" : Str) = "seed" := by decide
theorem ns_left_cells : ¬ ("left" : Str) = "cells" := by decide
theorem ns_left_spot : ¬ ("left" : Str) = "spot" := by decide
theorem ns_seed_left : ¬ ("seed" : Str) = "left" := by decide
theorem ns_seed_cells : ¬ ("seed" : Str) = "cells" := by decide
theorem ns_seed_spot : ¬ ("seed" : Str) = "spot" := by decide
theorem ns_cells_left : ¬ ("cells" : Str) = "left" := by decide
theorem ns_cells_seed : ¬ ("cells" : Str) = "seed" := by decide
theorem ns_cells_spot : ¬ ("cells" : Str) = "spot" := by decide
theorem ns_spot_left : ¬ ("spot" : Str) = "left" := by decide
theorem ns_spot_seed : ¬ ("spot" : Str) = "seed" := by decide
theorem ns_spot_cells : ¬ ("spot" : Str) = "cells" := by decide
theorem mv_left {l s : Int} {c : Addr} {p : Int} : valV (mKvs l s c p) (.inr "left") = some (.int l) := valV_pos rfl
theorem mv_seed {l s : Int} {c : Addr} {p : Int} : valV (mKvs l s c p) (.inr "seed") = some (.int s) := (valV_neg nk_left_seed).trans (valV_pos rfl)
theorem mv_cells {l s : Int} {c : Addr} {p : Int} : valV (mKvs l s c p) (.inr "cells") = some (.ref c) := (valV_neg nk_left_cells).trans ((valV_neg nk_seed_cells).trans (valV_pos rfl))
theorem mv_spot {l s : Int} {c : Addr} {p : Int} : valV (mKvs l s c p) (.inr "spot") = some (.int p) := (valV_neg nk_left_spot).trans ((valV_neg nk_seed_spot).trans ((valV_neg nk_cells_spot).trans (valV_pos rfl)))
theorem mp_left {l s l' : Int} {c : Addr} {p : Int} : putK (mKvs l s c p) (.inr "left") (.int l') = mKvs l' s c p := by
  unfold putK
  simp [mKvs, ns_seed_left, ns_cells_left, ns_spot_left]
theorem mp_spot {l s : Int} {c : Addr} {p p' : Int} : putK (mKvs l s c p) (.inr "spot") (.int p') = mKvs l s c p' := by
  unfold putK
  simp [mKvs, ns_seed_spot, ns_cells_spot, ns_left_spot]
theorem mget {i : Nat} {y : Str} {w : WE} {o idx : Expr} {pos : Pos} (hu : X.A.units + 65 < cLine) (ho : PE X o (tVar i)) (hi : PE X idx (tC (.str y))) (hs : NoSl idx)
    (hw : ∀ ρ u Q, w ρ u Q → ρ[i]? = some (some (.d mD)) ∧ ∀ (A : Addr → Prop) (H : Hp) (l s p : Int) (c : Addr) (cells : List Int), 0 ≤ l → 0 ≤ s → s < 2147483647 → 0 ≤ p → p ≤ u → H c = some (.lst (cells.map .int)) → ¬ A c → cells ≠ [] →
      ∃ v d, valV (mKvs l s c p) (.inr y) = some v ∧ Da X.K A H v d ∧ Q d u) : PE X (.Subscript o idx pos) (tD X.K w) :=
  PEi (pe_dget (by omega) ho hi hs) fun σ H Q ⟨N, A, H0, ρ, u, Qd, R, hq, k⟩ => by
    obtain ⟨e, hq⟩ := hw ρ u Qd hq
    obtain ⟨v, e1, hv⟩ := R.dat i mD e
    obtain ⟨a, o, rfl, ha, hm⟩ := hv.mD_inv
    obtain ⟨l, s, c, p, cells, ho, h1, h2, h3, h4, h5, h6, h7, h8⟩ := R.minv a o ha hm
    subst ho
    obtain ⟨v, d, e2, hd, q⟩ := hq A H l s p c cells h1 h2 h3 h4 h5 h6 h7 h8
    refine ⟨.ref a, e1, a, v, rfl, .inl ⟨mKvs l s c p, .inr y, .inl ha, rfl, e2.symm⟩, k v H d u (Step.refl H) R.minv hd q⟩
theorem pMLeft {i : Nat} {o idx : Expr} {pos : Pos} (hu : X.A.units + 65 < cLine) (ho : PE X o (tVar i)) (hi : PE X idx (tC (.str "left"))) (hs : NoSl idx := by exact fun _ _ => rfl) : PE X (.Subscript o idx pos) (tD X.K (wMLeft i)) :=
  mget hu ho hi hs fun ρ u Q ⟨e, h⟩ => ⟨e, fun A H l s p c cells h1 h2 h3 h4 h5 h6 h7 h8 => ⟨.int l, .int l, mv_left, .int l, h l h1⟩⟩
theorem pMSeed {i : Nat} {o idx : Expr} {pos : Pos} (hu : X.A.units + 65 < cLine) (ho : PE X o (tVar i)) (hi : PE X idx (tC (.str "seed"))) (hs : NoSl idx := by exact fun _ _ => rfl) : PE X (.Subscript o idx pos) (tD X.K (wMSeed i)) :=
  mget hu ho hi hs fun ρ u Q ⟨e, h⟩ => ⟨e, fun A H l s p c cells h1 h2 h3 h4 h5 h6 h7 h8 => ⟨.int s, .int s, mv_seed, .int s, h s h2 h3⟩⟩
theorem pMSpot {i : Nat} {o idx : Expr} {pos : Pos} (hu : X.A.units + 65 < cLine) (ho : PE X o (tVar i)) (hi : PE X idx (tC (.str "spot"))) (hs : NoSl idx := by exact fun _ _ => rfl) : PE X (.Subscript o idx pos) (tD X.K (wMSpot i)) :=
  mget hu ho hi hs fun ρ u Q ⟨e, h⟩ => ⟨e, fun A H l s p c cells h1 h2 h3 h4 h5 h6 h7 h8 => ⟨.int p, .int p, mv_spot, .int p, h p h4 h5⟩⟩
theorem pMCells {i : Nat} {o idx : Expr} {pos : Pos} (hu : X.A.units + 65 < cLine) (ho : PE X o (tVar i)) (hi : PE X idx (tC (.str "cells"))) (hs : NoSl idx := by exact fun _ _ => rfl) : PE X (.Subscript o idx pos) (tD X.K (wMCells i)) :=
  mget hu ho hi hs fun ρ u Q ⟨e, h⟩ => ⟨e, fun A H l s p c cells h1 h2 h3 h4 h5 h6 h7 h8 => ⟨.ref c, .list (cells.map .int), mv_cells, .lst h6 h7 (DaAll.ints cells), h cells h8⟩⟩
/-! stores -/
theorem step_put {H : Hp} {a : Addr} {o o' : HO} (h : H a = some o) (m : IsM o) (m' : IsM o') : Step H (upd H a o') :=
  ⟨fun b z e n => by
    by_cases q : b = a
    · subst q; rw [h] at e; cases e; exact absurd m n
    · rw [upd_ne q]; exact e, fun b z e n => by
    by_cases q : b = a
    · subst q; exact ⟨o', upd_same, m'⟩
    · exact ⟨z, by rw [upd_ne q]; exact e, n⟩⟩
theorem minv_put {A : Addr → Prop} {u : Nat} {K : PySem.W.Frag} {H : Hp} {a : Addr} {l s p : Int} {c : Addr} {cells : List Int} {o : HO} (m : MInv A u K H) (h : H a = some o) (hm : IsM o) (h1 : 0 ≤ l) (h2 : 0 ≤ s) (h3 : s < 2147483647) (h4 : 0 ≤ p) (h5 : p ≤ u)
    (h6 : H c = some (.lst (cells.map .int))) (h7 : ¬ A c) (h8 : cells ≠ []) : MInv A u K (upd H a (MObj l s c p)) := fun b z e i => by
  have nac : ∀ c' xs, H c' = some (.lst xs) → c' ≠ a := fun c' xs e z => by
    rw [z, h] at e
    cases e
    exact hm
  by_cases q : b = a
  · subst q
    rw [upd_same] at e
    cases e
    exact ⟨l, s, c, p, cells, rfl, h1, h2, h3, h4, h5, by rw [upd_ne (nac _ _ h6)]; exact h6, h7, h8⟩
  · rw [upd_ne q] at e
    obtain ⟨l', s', c', p', cells', g1, g2, g3, g4, g5, g6, g7, g8, g9⟩ := m b z e i
    exact ⟨l', s', c', p', cells', g1, g2, g3, g4, g5, g6, by rw [upd_ne (nac _ _ g7)]; exact g7, g8, g9⟩
@[simp] def wPutLeft (i : Nat) (w : WE) : WS := fun F ρ u => w ρ u fun d u1 => ρ[i]? = some (some (.d mD)) ∧ ∃ l, d = .int l ∧ 0 ≤ l ∧ F.nx ρ (u1 + 1)
@[simp] def wPutSpot (i : Nat) (w : WE) : WS := fun F ρ u => w ρ u fun d u1 => ρ[i]? = some (some (.d mD)) ∧ ∃ p, d = .int p ∧ 0 ≤ p ∧ p ≤ u1 + 1 ∧ F.nx ρ (u1 + 1)
theorem psPutLeft {i : Nat} {o idx e : Expr} {pos pos' : Pos} {w : WE} (hu : X.A.units + 65 < cLine) (ho : PE X o (tVar i)) (hi : PE X idx (tC (.str "left"))) (hv : PE X e (tD X.K w)) (hs : swapsWith e (some (.Subscript o idx pos')) pos.line X.env = pure false := by rfl) :
    PS X (.Assign [.Subscript o idx pos'] e pos) (tSx X.K W (wPutLeft i w)) := PSi (ps_dput (by omega) ho hi hv hs) fun E σ H ⟨N, A, H0, ρ, u, F, R, hw, k1, k2, k3, k4, k5⟩ =>
  ⟨N, A, H0, ρ, u, _, R, hw, fun v H1 d u1 s1 m1 hd ⟨e, l, ed, hl, q⟩ => by
    subst ed
    cases hd
    obtain ⟨v, e1, hv⟩ := (R.go s1 m1).dat i mD e
    obtain ⟨a, o, rfl, ha, hm⟩ := hv.mD_inv
    obtain ⟨l0, s, c, p, cells, ho, h1, h2, h3, h4, h5, h6, h7, h8⟩ := m1 a o ha hm
    subst ho
    refine ⟨.ref a, e1, a, _, rfl, .inl ⟨mKvs l0 s c p, .inr "left", ha, rfl, (by show 4 < sizeLine; decide), rfl⟩, ?_⟩
    rw [mp_left]
    have st := s1.trans (step_put ha hm (o' := MObj l s c p) isM_obj)
    exact k1 A σ _ ρ (u1 + 1) st.goes (R.go st (minv_put (m1.mono (Nat.le_succ _)) ha hm hl h2 h3 h4 (by omega) h6 h7 h8)) q⟩
theorem psPutSpot {i : Nat} {o idx e : Expr} {pos pos' : Pos} {w : WE} (hu : X.A.units + 65 < cLine) (ho : PE X o (tVar i)) (hi : PE X idx (tC (.str "spot"))) (hv : PE X e (tD X.K w)) (hs : swapsWith e (some (.Subscript o idx pos')) pos.line X.env = pure false := by rfl) :
    PS X (.Assign [.Subscript o idx pos'] e pos) (tSx X.K W (wPutSpot i w)) := PSi (ps_dput (by omega) ho hi hv hs) fun E σ H ⟨N, A, H0, ρ, u, F, R, hw, k1, k2, k3, k4, k5⟩ =>
  ⟨N, A, H0, ρ, u, _, R, hw, fun v H1 d u1 s1 m1 hd ⟨e, l, ed, hl, hl2, q⟩ => by
    subst ed
    cases hd
    obtain ⟨v, e1, hv⟩ := (R.go s1 m1).dat i mD e
    obtain ⟨a, o, rfl, ha, hm⟩ := hv.mD_inv
    obtain ⟨l0, s, c, p, cells, ho, h1, h2, h3, h4, h5, h6, h7, h8⟩ := m1 a o ha hm
    subst ho
    refine ⟨.ref a, e1, a, _, rfl, .inl ⟨mKvs l0 s c p, .inr "spot", ha, rfl, (by show 4 < sizeLine; decide), rfl⟩, ?_⟩
    rw [mp_spot]
    have st := s1.trans (step_put ha hm (o' := MObj l0 s c l) isM_obj)
    exact k1 A σ _ ρ (u1 + 1) st.goes (R.go st (minv_put (m1.mono (Nat.le_succ _)) ha hm h1 h2 h3 hl (by omega) h6 h7 h8)) q⟩
/-! a new one -/
@[simp] def wMk (wl ws wc : WE) : WE := fun ρ u Q => wl ρ u fun dl u1 => ws ρ u1 fun d2 u2 => wc ρ u2 fun d3 u3 => ∃ (l s : Int) (cells : List Int), dl = .int l ∧ d2 = .int s ∧ d3 = .list (cells.map .int) ∧ 0 ≤ l ∧ 0 ≤ s ∧ s < 2147483647 ∧ cells ≠ [] ∧ Q mD u3
theorem merge_m {l s p : Int} {c : Addr} : mergeK [] (mKvs l s c p) = mKvs l s c p := by
  simp [mergeK, putK, mKvs, ns_left_seed, ns_left_cells, ns_left_spot, ns_seed_cells, ns_seed_spot, ns_cells_spot]
theorem pMk {kl ks kc kp el es ec ep : Expr} {pos : Pos} {wl ws wc : WE} (h1 : PE X kl (tC (.str "left"))) (h2 : PE X ks (tC (.str "seed"))) (h3 : PE X kc (tC (.str "cells"))) (h4 : PE X kp (tC (.str "spot"))) (hl : PE X el (tD X.K wl)) (hs : PE X es (tD X.K ws)) (hc : PE X ec (tD X.K wc)) (hp : PE X ep (tC (.int 0))) :
    PE X (.Dict [some kl, some ks, some kc, some kp] [el, es, ec, ep] pos) (tD X.K (wMk wl ws wc)) :=
  PEi (pe_disp (pps_cons h1 hl (pps_cons h2 hs (pps_cons h3 hc (pps_cons h4 hp pps_nil)))) rfl rfl (by simp) (by show 4 ≤ 15; decide)) fun σ H Q ⟨N, A, H0, ρ, u, Qd, R, hw, k⟩ p hp => by
    have st : Step H (upd H p (.dK [])) := Step.new hp
    have mt := R.minv.new (o := .dK []) hp (fun m => m)
    refine ⟨N, A, H0, ρ, u, _, R.go st mt, hw, fun v1 H1 d1 u1 s1 m1 hd1 q1 => ⟨N, A, H0, ρ, u1, _, R.go (st.trans s1) m1, q1, fun v2 H2 d2 u2 s2 m2 hd2 q2 => ⟨N, A, H0, ρ, u2, _, R.go ((st.trans s1).trans s2) m2, q2, fun v3 H3 d3 u3 s3 m3 hd3 ⟨l, s, cells, e1, e2, e3, g1, g2, g3, g4, q⟩ => ?_⟩⟩⟩
    subst e1 e2 e3
    cases hd1
    cases hd2
    cases hd3 with
    | lst hc nc hcs =>
    rw [DaAll.of_ints hcs] at hc
    have hp3 : H3 p = some (.dK []) := s3.keep _ _ (s2.keep _ _ (s1.keep _ _ upd_same (fun m => m)) (fun m => m)) (fun m => m)
    refine ⟨hp3, mKvs l s _ 0, rfl, (by show 4 ≤ 15; decide), ?_⟩
    rw [merge_m]
    have all : Step H H3 := ((st.trans s1).trans s2).trans s3
    refine k _ _ mD u3 ⟨fun a o h n => ?_, fun a o h m => ?_⟩ (fun a o h i => ?_) (.mm upd_same isM_obj) q
    · rw [upd_ne (ne_of_none h hp)]; exact all.keep a o h n
    · obtain ⟨o', h', m'⟩ := all.ms a o h m
      exact ⟨o', by rw [upd_ne (ne_of_none h hp)]; exact h', m'⟩
    · have nac : ∀ c' xs, H3 c' = some (.lst xs) → c' ≠ p := fun c' xs e z => by
        rw [z, hp3] at e
        cases e
      by_cases z : a = p
      · subst z
        rw [upd_same] at h
        cases h
        exact ⟨l, s, _, 0, cells, rfl, g1, g2, g3, Int.le_refl _, Int.natCast_nonneg _, by rw [upd_ne (nac _ _ hc)]; exact hc, nc, g4⟩
      · rw [upd_ne z] at h
        obtain ⟨l', s', c', p', cells', f1, f2, f3, f4, f5, f6, f7, f8, f9⟩ := m3 a o h i
        exact ⟨l', s', c', p', cells', f1, f2, f3, f4, f5, f6, by rw [upd_ne (nac _ _ f7)]; exact f7, f8, f9⟩
theorem fLen_list {xs : List D} {Q : D → Prop} : fLen [.list xs] Q = Q (.int xs.length) := rfl
theorem fLen_tup {xs : List D} {Q : D → Prop} : fLen [.tuple xs] Q = Q (.int xs.length) := rfl
theorem fIx_list {xs : List D} {i : Nat} {z : D} {Q : D → Prop} (h : xs[i]? = some z) : fIx (.list xs) (.int (i : Nat)) Q = Q z := by
  simp only [fIx]
  rw [atI_nat h]
  exact propext ⟨fun ⟨z, e, q⟩ => by cases e; exact q, fun q => ⟨_, rfl, q⟩⟩
theorem fIx_head {z : D} {r : List D} {Q : D → Prop} : fIx (.list (z :: r)) (.int 0) Q = Q z := fIx_list (xs := z :: r) (i := 0) rfl
theorem fIx_ints {xs : List Int} {i : Int} {Q : D → Prop} (h0 : 0 ≤ i) (h1 : i < xs.length) (q : ∀ j, Q (.int j)) : fIx (.list (xs.map .int)) (.int i) Q := by
  obtain ⟨n, rfl⟩ := Int.eq_ofNat_of_zero_le h0
  have hn : n < xs.length := by omega
  rw [fIx_list (z := .int xs[n]) (by simp [hn])]
  exact q _
/-! a slice of the script -/
@[simp] def wSlS (we : WE) (wl wh : WO) : WE := fun ρ u Q => we ρ u fun c u1 => wl ρ u1 fun lo u2 => wh ρ u2 fun hi u3 => ∃ ns : List Int, c = sD ns ∧ Q (.list (cutD (ns.map .int) lo hi)) u3
theorem pSlS {e : Expr} {lo hi : Option Expr} {p1 p2 : Pos} {we : WE} {wl wh : WO} (he : PE X e (tD X.K we)) (hl : PO X lo (tPo X.K wl)) (hh : PO X hi (tPo X.K wh)) : PE X (.Subscript e (.Slice lo hi none p1) p2) (tD X.K (wSlS we wl wh)) :=
  PEi (pe_slice sl_D he hl hh) fun σ H Q ⟨N, A, H0, ρ, u, Qd, R, hw, k⟩ => ⟨N, A, H0, ρ, u, _, R, hw, fun x H1 c u1 s1 m1 hx q1 => ⟨N, A, H0, ρ, u1, _, R.go s1 m1, q1, fun lo H2 u2 s2 m2 q2 => ⟨N, A, H0, ρ, u2, _, R.go (s1.trans s2) m2, q2, fun hi H3 u3 s3 m3 ⟨ns, ec, q3⟩ => by
    subst ec
    have hx3 := hx.goes (A' := A) (s2.trans s3).goes
    have s := (s1.trans s2).trans s3
    obtain ⟨a, rfl, ha⟩ := hx3.scrD
    exact .inl ⟨a, _, rfl, ha, fun p hp => k _ _ _ u3 (s.trans (Step.new hp)) (m3.new hp (fun m => m)) (.lst upd_same (R.fresh (s.fresh hp)) (((DaAll.ints (A := A) (H := H3) (K := X.K) ns).cut lo hi).goes (Step.new hp).goes)) q3⟩⟩⟩⟩
end
end DW

set_option Elab.async false
set_option linter.all false
set_option maxRecDepth 100000
set_option maxHeartbeats 2000000
namespace DW
open PySem PySem.Spec PyProof.Rows L2
/-! ### == of texts -/
@[simp] def fEqS : D → D → (D → Prop) → Prop
  | .str a, .str b, Q => Q (.bool (decide (a = b)))
  | _, _, _ => False
theorem od_eqS {K : PySem.W.Frag} : OpD K rEq fEqS := fun N A H x y c d Q Qd u hf hm hx hy h k => by
  cases c <;> cases d <;> try exact h.elim
  rw [hx.strs, hy.strs]
  refine ⟨rfl, ?_⟩
  have e : ∀ a b : Str, decide (V.str a = V.str b) = decide (a = b) := fun a b => decide_eq_decide.mpr ⟨fun h => V.str.inj h, fun h => by rw [h]⟩
  rw [e]
  exact k _ H _ (Step.refl H) hm (.bl _) h
/-! ### == of data without True, False and dicts -/
mutual
def nb : D → Bool
  | .none | .int _ | .str _ => true
  | .bool _ | .dict _ => false
  | .list xs | .tuple xs => nbAll xs
def nbAll : List D → Bool
  | [] => true
  | x :: xs => nb x && nbAll xs
end
mutual
theorem eqv_nb : ∀ (c d : D), nb c = true → nb d = true → (PyData.eqv c d = true ↔ c = d)
  | .none, d, _, h => by cases d <;> simp [PyData.eqv, nb] at h ⊢
  | .int i, d, _, h => by cases d <;> simp [PyData.eqv, nb] at h ⊢
  | .str i, d, _, h => by cases d <;> simp [PyData.eqv, nb] at h ⊢
  | .bool _, _, h, _ => by simp [nb] at h
  | .dict _, _, h, _ => by simp [nb] at h
  | .list xs, d, g, h => by
    cases d <;> try (simp [PyData.eqv, nb] at h ⊢; done)
    rename_i ys
    simp only [PyData.eqv, PyData.list.injEq]
    exact eqvAll_nb xs ys (by simpa [nb] using g) (by simpa [nb] using h)
  | .tuple xs, d, g, h => by
    cases d <;> try (simp [PyData.eqv, nb] at h ⊢; done)
    rename_i ys
    simp only [PyData.eqv, PyData.tuple.injEq]
    exact eqvAll_nb xs ys (by simpa [nb] using g) (by simpa [nb] using h)
theorem eqvAll_nb : ∀ (xs ys : List D), nbAll xs = true → nbAll ys = true → (PyData.eqvAll xs ys = true ↔ xs = ys)
  | [], [], _, _ => by simp [PyData.eqvAll]
  | [], _ :: _, _, _ => by simp [PyData.eqvAll]
  | _ :: _, [], _, _ => by simp [PyData.eqvAll]
  | x :: xs, y :: ys, g, h => by
    simp only [nbAll, Bool.and_eq_true] at g h
    simp only [PyData.eqvAll, Bool.and_eq_true, List.cons.injEq]
    rw [eqv_nb x y g.1 h.1, eqvAll_nb xs ys g.2 h.2]
end
/-- of a shape that == serves, of depth at most n -/
def Sh (n : Nat) (d : D) : Prop := nb d = true ∧ d.canLay0 = true ∧ d.depth ≤ n
def ShAll (n : Nat) (ds : List D) : Prop := nbAll ds = true ∧ PyData.canLayAll0 ds = true ∧ PyData.depthAll ds ≤ n
theorem Sh.int {n : Nat} {i : Int} : Sh n (.int i) := ⟨rfl, by simp [PyData.canLay0], by simp [PyData.depth]⟩
theorem Sh.none {n : Nat} : Sh n .none := ⟨rfl, by simp [PyData.canLay0], by simp [PyData.depth]⟩
theorem ShAll.of {n : Nat} : ∀ {ds : List D}, (∀ d ∈ ds, Sh n d) → ShAll n ds
  | [], _ => ⟨rfl, by simp [PyData.canLayAll0], by simp [PyData.depthAll]⟩
  | d :: ds, h => by
    obtain ⟨a, b, c⟩ := h d List.mem_cons_self
    obtain ⟨a2, b2, c2⟩ := ShAll.of (ds := ds) fun x hx => h x (List.mem_cons_of_mem _ hx)
    exact ⟨by simp [nbAll, a, a2], by simp [PyData.canLayAll0, b, b2], by simp [PyData.depthAll]; omega⟩
theorem Sh.tup {n : Nat} {ds : List D} (h : ∀ d ∈ ds, Sh n d) : Sh (n + 1) (.tuple ds) := by
  obtain ⟨a, b, c⟩ := ShAll.of h
  exact ⟨by simpa [nb] using a, by simpa [PyData.canLay0] using b, by simp [PyData.depth]; omega⟩
theorem Sh.lst {n : Nat} {ds : List D} (h : ∀ d ∈ ds, Sh n d) : Sh (n + 1) (.list ds) := by
  obtain ⟨a, b, c⟩ := ShAll.of h
  exact ⟨by simpa [nb] using a, by simpa [PyData.canLay0] using b, by simp [PyData.depth]; omega⟩
theorem Sh.mono {n m : Nat} {d : D} (h : Sh n d) (e : n ≤ m) : Sh m d := ⟨h.1, h.2.1, Nat.le_trans h.2.2 e⟩
theorem Sh.shaped {d : D} (h : Sh 64 d) : SeqAt.shaped d = true := by
  unfold SeqAt.shaped
  rw [h.2.1, decide_eq_true h.2.2]
  rfl
theorem Sh.ints {n : Nat} {xs : List Int} : ∀ d ∈ xs.map (fun i => (.int i : D)), Sh n d := fun d h => by
  obtain ⟨i, _, rfl⟩ := List.mem_map.mp h
  exact .int
/-- == told by a decision -/
theorem fEq_sh {neg : Bool} {c d : D} {Q : D → Prop} {p : Bool} (hc : Sh 64 c) (hd : Sh 64 d) (e : p = true ↔ c = d) : fEq neg c d Q = Q (.bool (if neg then !p else p)) := by
  have h : PyData.eqv c d = p := Bool.eq_iff_iff.mpr ((eqv_nb c d hc.1 hd.1).trans e.symm)
  unfold fEq
  rw [h]
  exact propext ⟨fun q => q.2.2, fun q => ⟨hc.shaped, hd.shaped, q⟩⟩
theorem fIn_sh {neg : Bool} {c : D} {ds : List D} {Q : D → Prop} {p : Bool} (hc : Sh 64 c) (hd : ∀ d ∈ ds, Sh 63 d) (e : p = true ↔ c ∈ ds) : fIn neg c (.list ds) Q = Q (.bool (if neg then !p else p)) := by
  have h : ds.any (fun z => PyData.eqv z c) = p := Bool.eq_iff_iff.mpr (by
    rw [e, List.any_eq_true]
    exact ⟨fun ⟨z, hz, hq⟩ => by rw [← (eqv_nb z c (hd z hz).1 hc.1).mp hq]; exact hz, fun h => ⟨c, h, (eqv_nb c c hc.1 hc.1).mpr rfl⟩⟩)
  simp only [fIn]
  rw [h]
  exact propext ⟨fun q => q.2.2, fun q => ⟨hc.shaped, (Sh.lst hd).shaped, q⟩⟩
/-! ### cuts of ints -/
theorem cutD_map {α : Type} (f : α → D) (xs : List α) (lo hi : Option Int) : ∃ ys : List α, cutD (xs.map f) lo hi = ys.map f ∧ ys.length ≤ xs.length ∧ ∀ y ∈ ys, y ∈ xs := by
  unfold cutD
  rw [List.length_map]
  refine ⟨(xs.drop (HT.sIx xs.length 0 lo)).take (HT.sIx xs.length xs.length hi - HT.sIx xs.length 0 lo), by rw [List.map_take, List.map_drop], ?_, fun y hy => List.mem_of_mem_drop (List.mem_of_mem_take hy)⟩
  rw [List.length_take, List.length_drop]
  omega
end DW

set_option Elab.async false
set_option linter.all false
set_option maxRecDepth 100000
set_option maxHeartbeats 4000000
namespace DW
open PySem PySem.Spec PyProof.Rows L2
/-! ### a try whose caught error is still looked at behind it -/
section
variable {X : Cx} {x n : Str} {c : Value} {i : Nat} {body suite rest : List Stmt} {b0 : Stmt} {np pos pos' : Pos} {tb : WX → TS} {ts : Addr → Value → Option Addr → TS} {u : TS} {u2 : Addr → Value → Option Addr → TS}
/-- the error is the clause's, and the rest goes on with it -/
def wKeep (K : PySem.W.Frag) (c : Value) (i : Nat) (ts u2 : Addr → Value → Option Addr → TS) (D : Ends) : WX := fun cls d σ H => PySem.W.exmOne K cls c = some true ∧
  ∀ a, H a = none → ts a cls d { nx := fun σ' H' => u2 a cls d D (σ'.set i none) H', rt := fun _ _ => False, bk := fun _ _ => False, ct := fun _ _ => False } (σ.set i (some (.ref a))) H
theorem kept1 {pins : List (Addr × Obj)} {σ : L2.St} {H : Hp} {s : Shared} {a : Addr} {q : Addr × Obj} (I : Inv (X.suite a (q :: (X.pn ++ pins))) [] σ H s) (ok : X.Ok) : Inv (X.tr (q :: (X.pn ++ pins)) X.xe) [] σ H s :=
  ⟨ok.toTry _ _, I.os, I.bare, I.base, I.loc, I.cell, I.free, I.freeC, I.pin, I.hok, I.len⟩
theorem kept2 {pins : List (Addr × Obj)} {σ : L2.St} {H : Hp} {s : Shared} {q : Addr × Obj} (I : Inv (X.tr (q :: (X.pn ++ pins)) X.xe) [] σ H s) (ok : X.Ok) : Inv X pins σ H s :=
  ⟨ok, I.os, I.bare, I.base, I.loc, I.cell, I.free, I.freeC, (fun p hp => I.pin p (List.mem_append_left _ (List.mem_cons_of_mem _ hp))), I.hok, I.len⟩
theorem sp_kept {pins : List (Addr × Obj)} {D : Ends} {f : Flow} {s : Shared} {q : Addr × Obj} (ok : X.Ok) (h : SP (X.tr (q :: (X.pn ++ pins)) X.xe) [] D f s) : SP X pins D f s := by
  cases f with
  | ret v =>
    obtain ⟨v', σ', H', J, r, z⟩ := h
    exact ⟨v', σ', H', kept2 J ok, r, z⟩
  | next => exact let ⟨σ', H', J, z⟩ := h; ⟨σ', H', kept2 J ok, z⟩
  | brk => exact let ⟨σ', H', J, z⟩ := h; ⟨σ', H', kept2 J ok, z⟩
  | cont => exact let ⟨σ', H', J, z⟩ := h; ⟨σ', H', kept2 J ok, z⟩
theorem pss_tryK (hs : X.stack = X.env :: X.outer) (hf : X.env.frame = some X.env.locals) (hN : X.N.Nodup) (hi : X.N[i]? = some n) (hln : X.env.kindOf n = some .local) (hc : Names X x c)
    (hb : ∀ (W : WX) (pn : List (Addr × Obj)) (xe : Value → Shared → Prop), Takes (X.tr pn xe) W → PSs (X.tr pn xe) body (tb W))
    (hsu : ∀ (a : Addr) (oe : Obj) (cls : Value) (d : Option Addr) (pn : List (Addr × Obj)), Zc cls d oe → (∃ vs, oe.data = .fields vs) → PSs (X.suite a ((a, oe) :: pn)) (b0 :: suite) (ts a cls d)) (hr : PSs X rest u)
    (hr2 : ∀ (a : Addr) (oe : Obj) (cls : Value) (d : Option Addr) (pn : List (Addr × Obj)), Zc cls d oe → (∃ vs, oe.data = .fields vs) → PSs (X.tr ((a, oe) :: pn) X.xe) rest (u2 a cls d)) :
    PSs X (.Try body [.ExceptHandler (some (.Name x np)) (some n) (b0 :: suite) pos'] [] [] pos :: rest) (fun D σ H => tb (wKeep X.K c i ts u2 D) { D with nx := u D } σ H) := by
  refine ⟨fun pins s σ H D I h => wpAny_execs_cons (wpAny_Try_except ?_)⟩
  have ok := I.ok
  have hfr : X.A.frames = some (X.env :: X.outer) := ok.frames.trans (congrArg some hs)
  refine wpAny_mono ((hb (wKeep X.K c i ts u2 D) (X.pn ++ pins) _ (fun v s' hx => ?caught)).run [] s σ H _ (I.toTry _) h) (fun f s1 hsp => ?through) (fun e s1 he => he)
  case through =>
    cases f with
    | ret v =>
      obtain ⟨v', σ', H', J, r, q⟩ := hsp
      exact ⟨v', σ', H', J.ofTry ok, r, q⟩
    | brk => exact let ⟨σ', H', J, q⟩ := hsp; ⟨σ', H', J.ofTry ok, q⟩
    | cont => exact let ⟨σ', H', J, q⟩ := hsp; ⟨σ', H', J.ofTry ok, q⟩
    | next =>
      obtain ⟨σ', H', J, q⟩ := hsp
      exact wpAny_execs_nil (hr.run pins s1 σ' H' D (J.ofTry ok) q)
  case caught =>
    obtain ⟨a, B, sI, pins', σ', H', cls, d, rfl, J0, nb, up, sky, na, os, ag, hyes, hgo⟩ := hx
    have J : Inv X pins σ' H' sI := J0.ofTry ok
    refine Sky.land Zc.steady hfr hf (show Sky B (X.env :: X.outer) a (Zc cls d) X.env.locals s'.heap from hs ▸ sky) fun h3 fl up3 => ?_
    have out : ∀ {h : Heap} {o : Obj} {vs : Array Value}, h.FunFrames B (X.env :: X.outer) → h.get? a = some o → o.data = .fields vs → a ≠ X.env.locals ∧ a ∉ X.fs := fun {h o vs} ff e dd => by
      have no : a ∉ frs (X.env :: X.outer) := fun hm => by
        obtain ⟨_, o', e', hno⟩ := ff.mem hm
        rw [e] at e'
        cases e'
        exact hno _ dd
      exact ⟨fun z => no (List.mem_filterMap.mpr ⟨X.env, List.mem_cons_self, by rw [hf, z]⟩), fun hm => by
        obtain ⟨e, he, q⟩ := List.mem_filterMap.mp hm
        exact no (List.mem_filterMap.mpr ⟨e, List.mem_cons_of_mem _ he, q⟩)⟩
    have J3 : Inv X pins σ' H' { s' with heap := h3 } := J.landed nb fl.1 (up.trans up3) os ag
    obtain ⟨o3, vs3, g3, z3, d3⟩ := fl.there
    obtain ⟨nL, nF⟩ := out fl.2.2.1 g3 d3
    have S3 := J3.suite g3 d3 na nL nF
    refine wpAny_handleBy_cons (codeAny_handlers_test ?_) (by intro q; cases q)
    have looks : PySem.W.Looks (model X.prog X.w) h3 (typeOf (.ref a)) cls := fun A Q E s k q => wpAny_typeOf_ref (k _ _ g3) (by rw [z3.1]; exact q)
    have match_ := PySem.W.exm_one (M := model X.prog X.w) J3.kIn looks hyes
    have clause : ∀ {Q E : Value → Shared → Prop}, Q c { s' with heap := h3 } → wpAny (model X.prog X.w) (X.A.mark (some (.ref a))) (eval (.Name x np) X.env) Q E { s' with heap := h3 } := fun {Q E} q => by
      obtain ⟨hg, hd, hm | ⟨hm, hv, hn⟩⟩ := hc
      · exact ld_glob (X := X.suite a ((a, o3) :: (X.pn ++ pins))) S3 hg hm q hd
      · exact ld_blt (X := X.suite a ((a, o3) :: (X.pn ++ pins))) S3 hg hm hv q hn hd
    refine clause (match_.here (codeAny_handlers_suite_as (HandSPX.lands_againZ fl fun h4 fl4 up4 => ?_)))
    have J4 : Inv X pins σ' H' { s' with heap := h4 } := J.landed nb fl4.1 ((up.trans up3).trans up4) os ag
    obtain ⟨o4, vs4, g4, z4, d4⟩ := fl4.there
    refine store_ok (X := X.suite a ((a, o4) :: (X.pn ++ pins))) (v := .ref a) (J4.suite g4 d4 na nL nF) hN hi (.inl hln) rfl (fun s5 S5 => ?_) (.inr hln)
    refine wpAny_mono ((hsu a o4 cls d (X.pn ++ pins) z4 ⟨_, d4⟩).run [] s5 _ H' _ S5 (hgo a na)) (fun f s6 hsp => ?_) (fun _ _ z => False.elim z)
    cases f with
    | next =>
      obtain ⟨σ6, H6, S6, q6⟩ := hsp
      refine gone_ok (X := X.tr ((a, o4) :: (X.pn ++ pins)) X.xe) (kept1 S6 ok) hN hi hln fun s7 J7 => ?_
      exact wpAny_mono ((hr2 a o4 cls d (X.pn ++ pins) z4 ⟨_, d4⟩).run [] s7 _ H6 D J7 q6) (fun f s8 h8 => sp_kept ok h8) fun e s8 h8 => h8
    | brk => exact let ⟨_, _, _, q⟩ := hsp; q.elim
    | cont => exact let ⟨_, _, _, q⟩ := hsp; q.elim
    | ret v => exact let ⟨_, _, _, _, _, q⟩ := hsp; q.elim
end
/-! ### defs that may raise, over data -/
abbrev WFX := Nat → List D → (D → Nat → Prop) → (Value → Nat → Prop) → Prop
def spX (K : PySem.W.Frag) (W : WFX) : Sp := fun vs H Q E => ∃ (N : Addr → Prop) (ds : List D) (u : Nat) (Qd : D → Nat → Prop) (Ed : Value → Nat → Prop), (∀ a, N a → H a ≠ none) ∧ MInv N u K H ∧ DaAll K N H vs ds ∧ W u ds Qd Ed ∧
  (∀ v H' d u', Step H H' → MInv N u' K H' → Da K N H' v d → Qd d u' → Q v H') ∧ (∀ c H' u', Step H H' → MInv N u' K H' → Ed c u' → E c none H')
section
variable {P : Program} {w : World} {K : PySem.W.Frag} {mg : Str → Option Value} {base : Heap}
theorem fnDX {x qual : Str} {st : Stmt} {f : Addr} {fd : FuncData} {Ns ps : List Str} {k : Nat} {W : WFX} {wb : WS} (F : Fun K x qual st f fd) (S : FnScope Ns ps (defScope st))
    (hbody : ∀ (cdv : Value) (A : Around) (outer : List Env) (s : Shared) (H : Hp) (E : XK), Room k (A.deeper (envOfC qual (defScope st) s.heap.objs.size f cdv)) → PSs (cxOf (L2.CX P w) P w K mg base Ns qual (defScope st) f cdv A outer s H E) (defBody st) (tSx K E wb))
    (h : ∀ u ds Qd Ed, W u ds Qd Ed → ds.length = ps.length ∧ wb { nx := fun _ u' => Qd .none u', rt := Qd, ex := Ed } (startR Ns ds) u) : FnOk P w K mg base (L2.CX P w) (k + 1) f fd ps (spX K W) := by
  refine F.okX S (fun vs H Q E hs => ?_) (fun cdv A outer s H vs Q E hr hs => ?_)
  · obtain ⟨N, ds, u, Qd, Ed, hN, m, hd, hw, k, ke⟩ := hs
    rw [hd.length]
    exact (h u ds Qd Ed hw).1
  · obtain ⟨N, ds, u, Qd, Ed, hN, m, hd, hw, k, ke⟩ := hs
    refine ⟨_, hbody cdv A outer s H E hr, N, N, H, startR Ns ds, u, _, start_rel hN m hd, (h u ds Qd Ed hw).2, fun A' σ' H' ρ' u' g R' q => ?_, fun v H' d u' s m hd q => k v H' d u' s m hd q, fun _ _ _ _ _ _ _ q => q, fun _ _ _ _ _ _ _ q => q, ke⟩
    exact k .non H' .none u' R'.step (R'.minv.less fun a _ h => R'.sub a h) .non q
end
section
variable {X : Cx} {W : XK}
@[simp] def wRaise (c : Value) : WS := fun F _ u => F.ex c u
theorem psRaise {e : Expr} {pos : Pos} {c : Value} (hc : X.calm = true) (tk : Takes X (fun cls d _ H => W cls d H)) (he : PMk X e (fun _ H Q => Q c none H)) : PS X (.Raise (some e) none pos) (tSx X.K W (wRaise c)) :=
  PSi (ps_raise hc tk he) fun E σ H ⟨N, A, H0, ρ, u, F, R, hw, k1, k2, k3, k4, k5⟩ => k5 c H u R.step (R.minv.less fun a _ h => R.sub a h) hw
/-- such a def, called where it raises nothing -/
@[simp] def wFnX (Wf : WFX) (ws : WA) : WE := fun ρ u Q => ws ρ u fun ds u1 => Wf u1 ds Q fun _ _ => False
theorem pFnX {k : Nat} {f : Addr} {fd : FuncData} {ps : List Str} {x : Str} {p pos : Pos} {e : Expr} {es : List Expr} {Wf : WFX} {ws : WA} (F : FnOk X.prog X.w X.K X.mg X.base (L2.CX X.prog X.w) k f fd ps (spX X.K Wf)) (hr : Room k X.A) (hg : Gl X x) (hm : X.mg x = some (.ref f)) (hk : PySem.W.keepIn X.K (.ref f) = true) (hb : Binds X.K fd ps [])
    (ha : PA X (e :: es) (tAr X.K ws)) (hdb : (x == ("__debug__" : Str)) = false := by decide) (he : starEach (e :: es) X.env = (false, eval e X.env) :: starEach es X.env := by rfl) (hpl : (backTo pos (starEach es X.env)).any (·.1) = false := by rfl) :
    PE X (.Call (.Name x p) (e :: es) [] pos) (tD X.K (wFnX Wf ws)) := PEi (pe_call F hr hg hm hk hb .nil passL ha hdb he hpl) fun σ H Q ⟨N, A, H0, ρ, u, Qd, R, hw, k⟩ =>
  ⟨N, A, H0, ρ, u, _, R, hw, fun vs H1 ds u1 s1 m1 hd q => by
    show spX X.K Wf (vs ++ []) H1 Q _
    rw [List.append_nil]
    exact ⟨A, ds, u1, Qd, fun _ _ => False, fun a h => s1.there (R.trk a h), m1, hd, q, fun v H2 d u2 s2 m2 hd2 q2 => k v H2 d u2 (s1.trans s2) m2 hd2 q2, fun _ _ _ _ _ q => q.elim⟩⟩
/-- a slot is emptied -/
theorem Rel.clear {K : PySem.W.Frag} {N A : Addr → Prop} {H0 H : Hp} {σ : L2.St} {ρ : Rho} {u : Nat} (R : Rel K N A H0 σ H ρ u) (i : Nat) : Rel K N A H0 (σ.set i none) H (ρ.set i none) u := by
  have old : ∀ (j : Nat) (s : SV), (ρ.set i none)[j]? = some (some s) → i ≠ j ∧ ρ[j]? = some (some s) := fun j s e => by
    by_cases q : i = j
    · subst q
      by_cases hl : i < ρ.length
      · rw [List.getElem?_set_self hl] at e; cases e
      · rw [List.getElem?_eq_none (by rw [List.length_set]; omega)] at e; cases e
    · rw [List.getElem?_set_ne q] at e
      exact ⟨q, e⟩
  exact {
    len := by rw [List.length_set, List.length_set]; exact R.len
    step := R.step
    minv := R.minv
    sub := R.sub
    trk := R.trk
    ntrk := R.ntrk
    dat := fun j x e => by
      obtain ⟨q, e⟩ := old j _ e
      rw [List.getElem?_set_ne q]
      exact R.dat j x e
    ob := fun j x e => by
      obtain ⟨q, e⟩ := old j _ e
      rw [List.getElem?_set_ne q]
      exact R.ob j x e
    dis := fun j k xs ys a e1 e2 s1 s2 => by
      obtain ⟨q, e1⟩ := old j _ e1
      obtain ⟨q2, e2⟩ := old k _ e2
      rw [List.getElem?_set_ne q] at s1
      rw [List.getElem?_set_ne q2] at s2
      exact R.dis j k xs ys a e1 e2 s1 s2 }
/-! try: t = [f(..)]; except C as n: suite; the rest of the block. Here: f raises -/
@[simp] def wTryErr (c : Value) (i : Nat) (Wf : WFX) (ws : WA) (wsu : WS) (wrest : Addr → WS) : WS := fun F ρ u => ws ρ u fun ds u1 => Wf u1 ds (fun _ _ => False) fun c' u2 => c' = c ∧ ∀ a : Addr,
  wsu { nx := fun ρ' u' => wrest a F (ρ'.set i none) u', rt := fun _ _ => False } (ρ.set i (some (.d (eD a)))) u2
theorem pssTryErr {k t i : Nat} {n y z : Str} {C f : Addr} {fd : FuncData} {ps : List Str} {b0 : Stmt} {suite rest : List Stmt} {e : Expr} {es : List Expr} {np pos pos' p1 p2 p3 p4 p5 : Pos} {Wf : WFX} {ws : WA} {wsu : WS} {wrest : Addr → WS}
    (hs : X.stack = X.env :: X.outer) (hf : X.env.frame = some X.env.locals) (hN : X.N.Nodup) (hi : X.N[i]? = some n) (hln : X.env.kindOf n = some .local) (hc : Names X y (.ref C)) (hm : PySem.W.exmOne X.K (.ref C) (.ref C) = some true)
    (F : FnOk X.prog X.w X.K X.mg X.base (L2.CX X.prog X.w) k f fd ps (spX X.K Wf)) (hr : Room k X.A) (hg : ∀ pn xe, Gl (X.tr pn xe) z) (hmz : X.mg z = some (.ref f)) (hk : PySem.W.keepIn X.K (.ref f) = true) (hb : Binds X.K fd ps [])
    (hset : ∀ (W' : WX) pn xe te, PE (X.tr pn xe) (.List [.Call (.Name z p3) (e :: es) [] p4] p5) te → PS (X.tr pn xe) (.Assign [.Name (X.N.getD t "") p1] (.List [.Call (.Name z p3) (e :: es) [] p4] p5) p2) (tAsg te (gName t)))
    (ha : ∀ pn xe, PA (X.tr pn xe) (e :: es) (tAr X.K ws)) (he : starEach (e :: es) X.env = (false, eval e X.env) :: starEach es X.env) (hpl : (backTo p4 (starEach es X.env)).any (·.1) = false) (hdb : (z == ("__debug__" : Str)) = false)
    (hl : starEach [.Call (.Name z p3) (e :: es) [] p4] X.env = (false, eval (.Call (.Name z p3) (e :: es) [] p4) X.env) :: starEach [] X.env)
    (hsu : ∀ a pn, PSs (X.suite a pn) (b0 :: suite) (tSx X.K (fun _ _ _ => False) wsu))
    (hrest : ∀ (a : Addr) (oe : Obj) (pn : List (Addr × Obj)), Zc (.ref C) none oe → (∃ vs, oe.data = .fields vs) → PSs (X.tr ((a, oe) :: pn) X.xe) rest (tSx X.K W (wrest a))) :
    PSs X (.Try [.Assign [.Name (X.N.getD t "") p1] (.List [.Call (.Name z p3) (e :: es) [] p4] p5) p2] [.ExceptHandler (some (.Name y np)) (some n) (b0 :: suite) pos'] [] [] pos :: rest) (tSx X.K W (wTryErr (.ref C) i Wf ws wsu wrest)) := by
  refine PSsi (pss_tryK (c := .ref C) (tb := fun W' => tAsg (tLst (tCons (tCallS (spX X.K Wf) (L2.WE W') (tAr X.K ws)) tNil)) (gName t)) (ts := fun a cls d => tSx X.K (fun _ _ _ => False) wsu) (u := fun _ _ _ => False) (u2 := fun a cls d => if cls = .ref C ∧ d = none then tSx X.K W (wrest a) else fun _ _ _ => False) hs hf hN hi hln hc
    (fun W' pn xe tk => pss_one (hset W' pn xe _ (pe_lst (pa_cons (pe_callS F hr (hg pn xe) hmz hk hb (fun σ => passAt tk σ) (ha pn xe) hdb he hpl) pa_nil hl)))) (fun a oe cls d pn _ _ => hsu a _) ⟨fun _ _ _ _ _ _ z => z.elim⟩ (fun a oe cls d pn hz hv => ?_)) fun E σ H ⟨N, A, H0, ρ, u, F, R, hw, k1, k2, k3, k4, k5⟩ => ?_
  · by_cases q : cls = .ref C ∧ d = none
    · rw [if_pos q]
      obtain ⟨rfl, rfl⟩ := q
      exact hrest a oe pn hz hv
    · rw [if_neg q]
      exact ⟨fun _ _ _ _ _ _ z => z.elim⟩
  · refine ⟨N, A, H0, ρ, u, _, R, hw, fun vs H1 ds u1 s1 m1 hd q => ?_⟩
    refine ⟨A, ds, u1, fun _ _ => False, _, fun a h => s1.there (R.trk a h), m1, hd, q, fun _ _ _ _ _ _ _ q => q.elim, ?_⟩
    rintro c' H2 u2 s2 m2 ⟨rfl, hq⟩
    refine ⟨hm, fun a _ => ?_⟩
    have R2 := (R.go (s1.trans s2) m2).setD (i := i) (Da.err a)
    refine ⟨N, A, H0, _, u2, _, R2, hq a, fun A' σ' H' ρ' u' g R' q => ?_, fun _ _ _ _ _ _ _ q => q.elim, fun _ _ _ _ _ _ _ q => q.elim, fun _ _ _ _ _ _ _ q => q.elim, fun _ _ _ _ _ q => q.elim⟩
    have gg := (s1.trans s2).goes (A := A) |>.trans g
    show (if (Value.ref C = .ref C ∧ (none : Option Addr) = none) then tSx X.K W (wrest a) else fun _ _ _ => False) E (σ'.set i none) H'
    rw [if_pos ⟨rfl, rfl⟩]
    exact ⟨N, A', H0, _, u', F, R'.clear i, q, fun A'' σ' H' ρ' u' g' R' q => k1 _ _ _ _ _ (gg.trans g') R' q, k2, fun A'' σ' H' ρ' u' g' R' q => k3 _ _ _ _ _ (gg.trans g') R' q, fun A'' σ' H' ρ' u' g' R' q => k4 _ _ _ _ _ (gg.trans g') R' q, k5⟩
/-- isinstance(error, C2), the error kept -/
theorem call_isK {a D : Addr} {oe : Obj} {pn : List (Addr × Obj)} {xe : Value → Shared → Prop} (C : ExcC X.K D) (hz : Zc (.ref D) none oe) (hf : ∃ vs, oe.data = .fields vs) : CallR (X.tr ((a, oe) :: pn) xe) (.builtin "isinstance") (rIsE X.K D a) := by
  rintro pins s σ H xs us Q I r ⟨c, cv, b, rfl, hcv, e, q⟩
  cases r with
  | cons rx rr =>
    cases rr with
    | cons rt rr =>
      cases rr
      cases rx
      obtain rfl := hcv _ rt
      have hget := (I.pin (a, oe) (List.mem_append_left _ List.mem_cons_self)).1
      obtain ⟨vs, hv⟩ := hf
      have J : PySem.W.InstAt s.heap a oe D none := ⟨hget, hz.1, by unfold PySem.W.notCls; rw [hv] <;> rfl, by rw [hz.2]; trivial⟩
      exact PySem.W.kia_one (PySem.W.handS_kitx_exc C.hg C.hk C.hs C.hd C.ha C.hn C.ht C.hm) I.kIn J e (fun z => nomatch z) fun tk => ⟨.bl b, H, I.kept (t' := tk) fun _ _ z => z, rfl, q⟩
@[simp] def wIsK (i : Nat) (a : Addr) (b : Bool) : WE := fun ρ u Q => ρ[i]? = some (some (.d (eD a))) ∧ Q (.bool b) u
theorem Da.err_inv {K : PySem.W.Frag} {A : Addr → Prop} {H : Hp} {v : V} {a : Addr} (h : Da K A H v (eD a)) : v = .ref a := by
  generalize e : eD a = d at h
  cases h with
  | err b =>
    have e2 : (a : Nat) = b := Int.ofNat_inj.mp (PyData.int.inj (Prod.mk.inj (List.cons.inj (PyData.dict.inj e)).1).2)
    rw [e2]
  | scr _ _ _ => simp [eD, sD] at e
  | scrK _ => simp [eD, sD] at e
  | mm _ _ => simp [eD, mD] at e
  | _ => simp [eD] at e
theorem pIsK {i : Nat} {a D C2 : Addr} {oe : Obj} {pn : List (Addr × Obj)} {xe : Value → Shared → Prop} {b : Bool} {x y : Str} {eo : Expr} {p py pos : Pos} (C : ExcC X.K D) (hz : Zc (.ref D) none oe) (hf : ∃ vs, oe.data = .fields vs) (hk : PySem.W.kitOne X.K (.ref D) (.ref C2) = some b)
    (hg : Gl (X.tr ((a, oe) :: pn) xe) x) (hm : X.mg x = none) (hv : bootBuiltins x = some (.builtin "isinstance")) (ho : PE (X.tr ((a, oe) :: pn) xe) eo (tVar i)) (hgy : Gl (X.tr ((a, oe) :: pn) xe) y) (hmy : X.mg y = some (.ref C2))
    (hn : x ≠ "__name__" := by decide) (hdb : (x == ("__debug__" : Str)) = false := by decide) (hdby : (y == ("__debug__" : Str)) = false := by decide)
    (he : starEach [eo, .Name y py] X.env = (false, eval eo X.env) :: starEach [.Name y py] X.env := by rfl) (he2 : starEach [.Name y py] X.env = (false, eval (.Name y py) X.env) :: starEach [] X.env := by rfl) (hpl : (backTo pos (starEach [.Name y py] X.env)).any (·.1) = false := by rfl) :
    PE (X.tr ((a, oe) :: pn) xe) (.Call (.Name x p) [eo, .Name y py] [] pos) (tD X.K (wIsK i a b)) :=
  PEi (pe_callB (call_isK C hz hf) hg hm hv (pa_cons ho (pa_cons (pe_glob hgy hmy (v := .ref C2) rfl hdby) pa_nil he2) he) hn hdb he hpl) fun σ H Q ⟨N, A, H0, ρ, u, Qd, R, ⟨e, hw⟩, k⟩ => by
    obtain ⟨v, e1, hv⟩ := R.dat i _ e
    obtain rfl := hv.err_inv
    exact ⟨_, e1, .ref C2, .ref C2, b, rfl, fun u ru => ru, hk, k _ H _ u (Step.refl H) R.minv (.bl b) hw⟩
/-! a call by names alone -/
def NBinds (K : PySem.W.Frag) (fd : FuncData) (ps ks : List Str) (g : List Value → List Value) : Prop := ∀ (s : Shared) (ws : List Value), K.In s.heap → ws.length = ps.length → BindsTo s fd ⟨[], ks.zip ws⟩ (ps.zip (g ws))
theorem nbinds_of {K : PySem.W.Frag} {x qual : Str} {st : Stmt} {f : Addr} {fd : FuncData} {ps ks : List Str} {g : List Value → List Value} (F : Fun K x qual st f fd)
    (h : ∀ (kV doc pm : Value) (an : Option Addr) (cdv ct : Value) (ws : List Value), ws.length = ps.length → bindArgs (PySem.W.fnOf x qual (defArgs st) (defBody st) (defScope st) .none kV doc pm an cdv ct) ⟨[], ks.zip ws⟩ = pure (ps.zip (g ws))) : NBinds K fd ps ks g := by
  obtain ⟨oc, od, kV, doc, pm, an, cdv, ct, osl, rfl, lk, hcd⟩ := F.ex
  exact fun s ws _ hl => .of_eq (h kV doc pm an cdv ct ws hl)
def tKr (K : PySem.W.Frag) (w : WA) : TA := tAr K w
theorem pkN : PK X [] (tAr X.K waNil) := ⟨fun pos pins s σ H Q I h => pk_nil.run pos pins s σ H Q I (by
  obtain ⟨N, A, H0, ρ, u, Qd, R, hw, k⟩ := h
  exact k [] H [] u (Step.refl H) R.minv .nil hw)⟩
theorem pkC {nm : Option Str} {kpos : Pos} {e : Expr} {kws : List Keyword} {w : WE} {ws : WA} (h : PE X e (tD X.K w)) (hs : PK X kws (tAr X.K ws)) : PK X (⟨nm, e, kpos⟩ :: kws) (tAr X.K (waCons w ws)) := ⟨fun pos pins s σ H Q I hq => (pk_cons h hs).run pos pins s σ H Q I (by
  obtain ⟨N, A, H0, ρ, u, Qd, R, hw, k⟩ := hq
  exact ⟨N, A, H0, ρ, u, _, R, hw, fun v H1 d u1 s1 m1 hd q1 => ⟨N, A, H0, ρ, u1, _, R.go s1 m1, q1, fun vs H2 ds u2 s2 m2 hds q2 => k (v :: vs) H2 (d :: ds) u2 (s1.trans s2) m2 (.cons (hd.goes s2.goes) hds) q2⟩⟩)⟩
theorem pFnXN {k : Nat} {f : Addr} {fd : FuncData} {ps ks : List Str} {x : Str} {p pos : Pos} {kws : List Keyword} {Wf : WFX} {ws : WA} (F : FnOk X.prog X.w X.K X.mg X.base (L2.CX X.prog X.w) k f fd ps (spX X.K Wf)) (hr : Room k X.A) (hg : Gl X x) (hm : X.mg x = some (.ref f)) (hk : PySem.W.keepIn X.K (.ref f) = true) (hb : NBinds X.K fd ps ks id)
    (ha : PK X kws (tAr X.K ws)) (hdb : (x == ("__debug__" : Str)) = false := by decide) (hall : (backToKw pos (keywordEach kws X.env)).all (·.1.isSome) = true := by rfl) (hks : (backToKw pos (keywordEach kws X.env)).filterMap (·.1) = ks := by rfl)
    (hpl : ((backTo pos (starEach [] X.env)).any (·.1) || (backToKw pos (keywordEach kws X.env)).any (·.1.isNone)) = false := by rfl) : PE X (.Call (.Name x p) [] kws pos) (tD X.K (wFnX Wf ws)) := by
  refine ⟨fun pins s σ H Q I hq => ?_⟩
  refine wpAny_Call_Name_kw (ld_glob I hg hm ?_ hdb)
  have q0 : tAr X.K ws σ H fun vs H1 => spX X.K Wf vs H1 Q fun _ _ _ => False := by
    obtain ⟨N, A, H0, ρ, u, Qd, R, hw, k⟩ := hq
    exact ⟨N, A, H0, ρ, u, _, R, hw, fun vs H1 ds u1 s1 m1 hd q =>
      ⟨A, ds, u1, Qd, fun _ _ => False, fun a h => s1.there (R.trk a h), m1, hd, q, fun v H2 d u2 s2 m2 hd2 q2 => k v H2 d u2 (s1.trans s2) m2 hd2 q2, fun _ _ _ _ _ q => q.elim⟩⟩
  refine PySem.W.callWith_KW0 (h₀ := X.base) I.ok.mod.kin hk hall (thn (ha.run pos pins s σ H _ I q0) fun us s1 ⟨vs, H1, I1, r, q⟩ => ⟨I1.kIn, ?_⟩) hpl
  rw [hks]
  have hl : us.length = ps.length := by rw [← r.length]; exact F.len _ _ _ _ q
  refine wpAny_call (codeAny_mono (F.run X.A X.stack s1 H1 ⟨[], ks.zip us⟩ us vs Q _ hr I1.env0 (hb s1 us I1.kIn hl) r q) fun res s' hq' => ?_)
  cases res with
  | error e => exact passL pins σ H1 s1 e s' I1 hq'
  | ok fl =>
    cases fl with
    | ret u => exact I1.after hq'
    | next => exact hq'.elim
    | brk => exact hq'.elim
    | cont => exact hq'.elim
end
end DW

set_option Elab.async false
set_option linter.all false
set_option maxRecDepth 100000
set_option maxHeartbeats 4000000
namespace DW
open PySem PySem.Spec PyProof.Rows L2
/-! ### a list of lists of one's own -/
section
variable {K : PySem.W.Frag} {N A B : Addr → Prop} {H0 H H' : Hp} {σ : L2.St} {ρ : Rho} {u u' : Nat}
structure Nest (K : PySem.W.Frag) (A B : Addr → Prop) (H : Hp) (p : Addr) (as : List Addr) (xss : List (List D)) : Prop where
  mem : ∀ a, B a ↔ (A a ∨ a = p ∨ a ∈ as)
  out : p ∉ as
  nd : as.Nodup
  at_ : H p = some (.lst (as.map V.ref))
  len : as.length = xss.length
  row : ∀ (j : Nat) (b : Addr), as[j]? = some b → ∃ vs xs, xss[j]? = some xs ∧ H b = some (.lst vs) ∧ DaAll K B H vs xs
theorem Nest.step {p : Addr} {as : List Addr} {xss : List (List D)} (n : Nest K A B H p as xss) (s : Step H H') : Nest K A B H' p as xss :=
  ⟨n.mem, n.out, n.nd, s.keep _ _ n.at_ (fun m => m), n.len, fun j b e => let ⟨vs, xs, h1, h2, h3⟩ := n.row j b e; ⟨vs, xs, h1, s.keep _ _ h2 (fun m => m), h3.goes s.goes⟩⟩
theorem Rel.grow (R : Rel K N A H0 σ H ρ u) (s : Step H H') (m : MInv B u' K H') (hB : ∀ a, A a → B a) (nb : ∀ a, B a → A a ∨ H a = none) (tr : ∀ a, B a → H' a ≠ none) (vs : List Nat) : Rel K N B H0 (wipe σ vs) H' (wipeR ρ vs) u' := by
  have g : Goes A B H H' := ⟨fun a o _ h i => s.keep a o h i, s.ms, nb⟩
  exact {
    len := by rw [wipeR_len, wipe_length]; exact R.len
    step := R.step.trans s
    minv := m
    sub := fun a h => hB a (R.sub a h)
    trk := tr
    ntrk := R.ntrk
    dat := fun i x e => by
      obtain ⟨e1, e2⟩ := wipeR_get e
      obtain ⟨v, h1, h2⟩ := R.dat i x e1
      exact ⟨v, by rw [wipe_out e2]; exact h1, h2.goes g⟩
    ob := fun i xs e => by
      obtain ⟨e1, e2⟩ := wipeR_get e
      obtain ⟨a, h1, h2, h4, h5⟩ := R.ob i xs e1
      exact ⟨a, by rw [wipe_out e2]; exact h1, h2.go g (fun o e m => s.keep _ _ e m), hB _ h4, h5⟩
    dis := fun i j xs ys a e1 e2 s1 s2 => by
      obtain ⟨f1, g1⟩ := wipeR_get e1
      obtain ⟨f2, g2⟩ := wipeR_get e2
      rw [wipe_out g1] at s1
      rw [wipe_out g2] at s2
      exact R.dis i j xs ys a f1 f2 s1 s2 }
/-- a slot holds what is not told -/
theorem Rel.setAny (R : Rel K N A H0 σ H ρ u) (i : Nat) (v : Option V) : Rel K N A H0 (σ.set i v) H (ρ.set i none) u := by
  have old : ∀ (j : Nat) (s : SV), (ρ.set i none)[j]? = some (some s) → i ≠ j ∧ ρ[j]? = some (some s) := fun j s e => by
    by_cases q : i = j
    · subst q
      by_cases hl : i < ρ.length
      · rw [List.getElem?_set_self hl] at e; cases e
      · rw [List.getElem?_eq_none (by rw [List.length_set]; omega)] at e; cases e
    · rw [List.getElem?_set_ne q] at e
      exact ⟨q, e⟩
  exact {
    len := by rw [List.length_set, List.length_set]; exact R.len
    step := R.step
    minv := R.minv
    sub := R.sub
    trk := R.trk
    ntrk := R.ntrk
    dat := fun j x e => by
      obtain ⟨q, e⟩ := old j _ e
      rw [List.getElem?_set_ne q]
      exact R.dat j x e
    ob := fun j x e => by
      obtain ⟨q, e⟩ := old j _ e
      rw [List.getElem?_set_ne q]
      exact R.ob j x e
    dis := fun j k xs ys a e1 e2 s1 s2 => by
      obtain ⟨q, e1⟩ := old j _ e1
      obtain ⟨q2, e2⟩ := old k _ e2
      rw [List.getElem?_set_ne q] at s1
      rw [List.getElem?_set_ne q2] at s2
      exact R.dis j k xs ys a e1 e2 s1 s2 }
/-- nothing of it changes any more: it is data -/
theorem Nest.da {p : Addr} {as : List Addr} {xss : List (List D)} (n : Nest K A B H p as xss) (hp : ¬ A p) (ha : ∀ b ∈ as, ¬ A b) : Da K A H (.ref p) (.list (xss.map .list)) := by
  refine .lst n.at_ hp ?_
  have key : ∀ (bs : List Addr) (yss : List (List D)), bs.length = yss.length → (∀ (j : Nat) (b : Addr), bs[j]? = some b → ¬ A b ∧ ∃ vs xs, yss[j]? = some xs ∧ H b = some (.lst vs) ∧ DaAll K B H vs xs) → DaAll K A H (bs.map V.ref) (yss.map .list) := by
    intro bs
    induction bs with
    | nil =>
      intro yss hl _
      cases yss with
      | nil => exact .nil
      | cons _ _ => cases hl
    | cons b bs ih =>
      intro yss hl h
      cases yss with
      | nil => cases hl
      | cons xs yss =>
        obtain ⟨nb, vs, xs', e, h2, h3⟩ := h 0 b rfl
        have e' : xs = xs' := by simpa using e
        subst e'
        exact .cons (.lst h2 nb (h3.goes (.less fun a q => (n.mem a).mpr (.inl q)))) (ih yss (by simpa using hl) fun j c hc => h (j + 1) c (by simpa using hc))
  exact key as xss n.len fun j b e => ⟨ha b (List.mem_of_getElem? e), n.row j b e⟩
theorem Rel.nestD (R : Rel K N B H0 σ H ρ u) {p : Addr} {as : List Addr} {xss : List (List D)} (n : Nest K A B H p as xss) (hp : ¬ A p) (ha : ∀ b ∈ as, ¬ A b) (hs : ∀ a, N a → A a) (own : ∀ (i : Nat) (xs : OC), ρ[i]? = some (some (SV.ob xs)) → ∀ a, σ[i]? = some (some (V.ref a)) → A a) {i : Nat} (hi : σ[i]? = some (some (V.ref p))) :
    Rel K N A H0 σ H (ρ.set i (some (.d (.list (xss.map .list))))) u := by
  have g : Goes B A H H := .less fun a h => (n.mem a).mpr (.inl h)
  exact {
    len := by rw [List.length_set]; exact R.len
    step := R.step
    minv := R.minv.less fun a _ h => (n.mem a).mpr (.inl h)
    sub := hs
    trk := fun a h => R.trk a ((n.mem a).mpr (.inl h))
    ntrk := R.ntrk
    dat := fun j x f => by
      by_cases q : i = j
      · subst q
        have f' := set_self f
        cases f'
        exact ⟨.ref p, hi, n.da hp ha⟩
      · rw [List.getElem?_set_ne q] at f
        obtain ⟨v, g1, g2⟩ := R.dat j x f
        exact ⟨v, g1, g2.goes g⟩
    ob := fun j ys f => by
      by_cases q : i = j
      · subst q; exact nomatch (set_self f)
      · rw [List.getElem?_set_ne q] at f
        obtain ⟨b, g1, g2, g4, g5⟩ := R.ob j ys f
        exact ⟨b, g1, g2.go g (fun o e _ => e), own j ys f b g1, g5⟩
    dis := fun j k xs1 ys b e1 e2 s1 s2 => by
      by_cases q : i = j
      · subst q; exact nomatch (set_self e1)
      · by_cases q2 : i = k
        · subst q2; exact nomatch (set_self e2)
        · rw [List.getElem?_set_ne q] at e1
          rw [List.getElem?_set_ne q2] at e2
          exact R.dis j k xs1 ys b e1 e2 s1 s2 }
/-- one entry of one of the lists is put otherwise -/
theorem Nest.put {p : Addr} {as : List Addr} {xss : List (List D)} (n : Nest K A B H p as xss) {i j : Nat} {b : Addr} {vs : List V} {xs : List D} {v : V} {d : D} (hb : as[i]? = some b) (hx : xss[i]? = some xs) (h : H b = some (.lst vs)) (hd : DaAll K B H vs xs) (hv : Da K B H v d) :
    Nest K A B (upd H b (.lst (vs.set j v))) p as (xss.set i (xs.set j d)) := by
  have hbm := List.mem_of_getElem? hb
  have pb : p ≠ b := fun e => n.out (by rw [e]; exact hbm)
  have g : Goes B B H (upd H b (.lst (vs.set j v))) := goes_put h ((n.mem b).mpr (.inr (.inr hbm)))
  refine ⟨n.mem, n.out, n.nd, by rw [upd_ne pb]; exact n.at_, by rw [List.length_set]; exact n.len, fun k c hc => ?_⟩
  by_cases e : k = i
  · subst e
    rw [hb] at hc
    cases hc
    have hk : k < xss.length := (List.getElem?_eq_some_iff.mp hx).1
    exact ⟨_, _, List.getElem?_set_self hk, upd_same, (hd.set hv j).goes g⟩
  · obtain ⟨ws, ys, h1, h2, h3⟩ := n.row k c hc
    have cb : c ≠ b := fun z => e ((List.getElem?_inj (List.getElem?_eq_some_iff.mp hc).1 n.nd).mp (by rw [hc, hb, z]))
    exact ⟨ws, ys, by rw [List.getElem?_set_ne (Ne.symm e)]; exact h1, by rw [upd_ne cb]; exact h2, h3.goes g⟩
end
@[simp] def wCompF (b : WB) (we : WA) (ρ : Rho) : List D → List (List D) → Nat → (List (List D) → Nat → Prop) → Prop
  | [], acc, u, Q => Q acc u
  | x :: xs, acc, u, Q => ∃ ρ', b x ρ = some ρ' ∧ we ρ' u fun y u2 => wCompF b we ρ xs (acc ++ [y]) u2 Q
abbrev WN := Rho → Nat → (List (List D) → Nat → Prop) → Prop
@[simp] def wLcF (wi : WA) (b : WB) (we : WA) (vs : List Nat) : WN := fun ρ u Q => wi ρ u fun ds u1 => ds.length < 100000 ∧ wCompF b we (wipeR ρ vs) ds [] u1 Q
/-- a new list of new lists -/
def tFF (K : PySem.W.Frag) (w : WN) : TE := fun σ H Q => ∃ (N A : Addr → Prop) (H0 : Hp) (ρ : Rho) (u : Nat) (Qd : List (List D) → Nat → Prop), Rel K N A H0 σ H ρ u ∧ w ρ u Qd ∧
  ∀ (B : Addr → Prop) p as H' xss u', Step H H' → MInv B u' K H' → H p = none → (∀ b ∈ as, H b = none) → Nest K A B H' p as xss → Qd xss u' → Q (.ref p) H'
theorem minv_more {A B : Addr → Prop} {u : Nat} {K : PySem.W.Frag} {H : Hp} (m : MInv A u K H) (h : ∀ c xs, H c = some (.lst xs) → ¬ A c → B c → False) : MInv B u K H := fun a o e i => by
  obtain ⟨l, s, c, p, cells, h1, h2, h3, h4, h5, h6, h7, h8, h9⟩ := m a o e i
  exact ⟨l, s, c, p, cells, h1, h2, h3, h4, h5, h6, h7, fun z => h c _ h7 h8 z, h9⟩
section
variable {X : Cx} {W : XK}
theorem lc_impN {wi : WA} {is own2 : List Nat} {b : WB} {we : WA} (sub : ∀ i ∈ is, i ∈ own2) : ∀ σ H Q, tFF X.K (wLcF wi b we own2) σ H Q → tLc (tIt X.K wi) (tGt X.K is b) (tTe X.K wTy) (tF X.K we) own2 σ H Q := fun σ H Q ⟨N, A, H0, ρ, u, Qd, R, hw, k⟩ =>
  ⟨N, A, H0, ρ, u, _, R, hw, fun J H1 ds u1 s1 m1 ⟨G, hG, g1⟩ ⟨hlen, q1⟩ P hP => by
    have hPH : H P = none := s1.fresh hP
    have s2 : Step H1 (upd H1 P (.lst [])) := Step.new hP
    have m2 : MInv (Aand A P) u1 X.K (upd H1 P (.lst [])) := m1.newA hP (fun m => m)
    refine ⟨fun i m H' => m = ds.length - i ∧ i ≤ ds.length ∧ ∃ (B : Addr → Prop) (as : List Addr) (xss : List (List D)) (u' : Nat), Step H H' ∧ MInv B u' X.K H' ∧ Nest X.K A B H' P as xss ∧ (∀ b ∈ as, H b = none) ∧ as.length ≤ i ∧ G B H' ∧ wCompF b we (wipeR ρ own2) (ds.drop i) xss u' Qd,
      ⟨ds.length, by simp, Nat.zero_le _, Aand A P, [], [], u1, s1.trans s2, m2, ⟨fun a => by simp [Aand], by simp, by simp, upd_same, rfl, fun j b e => by simp at e⟩, by simp, Nat.le_refl _, hG.over _ _ _ _ (goes_and s2 hP) g1, q1⟩, ?_⟩
    rintro i m H2 ⟨rfl, hi, B, as, xss, u2, st2, mB, n2, fr, al, g2, w2⟩
    have trk : ∀ a, B a → H2 a ≠ none := fun a h => by
      rcases (n2.mem a).mp h with h | h | h
      · exact st2.there (R.trk a h)
      · rw [h, n2.at_]; simp
      · obtain ⟨j, hj⟩ := List.getElem?_of_mem h
        obtain ⟨vs, xs, _, h2, _⟩ := n2.row j a hj
        rw [h2]; simp
    have nb : ∀ a, B a → A a ∨ H a = none := fun a h => by
      rcases (n2.mem a).mp h with h | h | h
      · exact .inl h
      · rw [h]; exact .inr hPH
      · exact .inr (fr a h)
    have R2 : Rel X.K N B H0 (wipe σ own2) H2 (wipeR ρ own2) u2 := R.grow st2 mB (fun a h => (n2.mem a).mpr (.inl h)) nb trk _
    by_cases hlt : i < ds.length
    · refine .inr ⟨hG.goes i _ H2 hlt g2, fun H' => ∃ (B : Addr → Prop) (as : List Addr) (xss : List (List D)) (u' : Nat), Step H H' ∧ MInv B u' X.K H' ∧ Nest X.K A B H' P as xss ∧ (∀ b ∈ as, H b = none) ∧ as.length ≤ i + 1 ∧ G B H' ∧ wCompF b we (wipeR ρ own2) (ds.drop (i + 1)) xss u' Qd,
        fun H' h => ⟨ds.length - (i + 1), by omega, rfl, hlt, h⟩, fun x H3 y => ?_⟩
      obtain ⟨s3, m3, d, hd, hda⟩ := hG.yields i _ H2 x H3 hlt g2 R2.goes0 y
      have e : ds.drop i = d :: ds.drop (i + 1) := by
        obtain ⟨h1, h2⟩ := List.getElem?_eq_some_iff.mp hd
        rw [← h2]
        exact List.drop_eq_getElem_cons h1
      rw [e] at w2
      obtain ⟨ρ3, hb3, w3⟩ := w2
      have mB3 := m3 _ mB
      have R3 := R2.go s3 mB3
      have g3 := hG.over _ _ _ _ s3.goes g2
      refine ⟨N, B, H0, wipeR ρ own2, ρ3, u2, d, R3, hda, hb3, fun σ4 o4 R4 => ⟨o4.wiped sub, N, B, H0, ρ3, u2, (fun (t : Bool) (u5 : Nat) => u5 = u2 ∧ t = true), R4, ⟨rfl, rfl⟩, fun t H5 u5 s5 m5 q5 => ?_⟩⟩
      obtain ⟨rfl, rfl⟩ := q5
      have g5 := hG.over _ _ _ _ s5.goes g3
      refine ⟨N, B, H0, ρ3, u5, _, R4.go s5 m5, w3, fun p vs H6 zs u6 s6 m6 hp hp6 hz q6 => ?_⟩
      have n6 := ((n2.step s3).step s5).step s6
      have frp : H p = none := st2.fresh (s3.fresh (s5.fresh hp))
      have notB : ¬ B p := fun z => ((s3.trans s5).there (trk p z)) hp
      have pP : p ≠ P := fun z => notB ((n2.mem p).mpr (.inr (.inl z)))
      have pas : p ∉ as := fun z => notB ((n2.mem p).mpr (.inr (.inr z)))
      have gp : Goes (Aand B p) (Aand B p) H6 (upd H6 P (.lst (as.map V.ref ++ [V.ref p]))) := goes_put n6.at_ (.inl ((n2.mem P).mpr (.inr (.inl rfl))))
      have gB : Goes B (Aand B p) H5 H6 := goes_and s6 hp
      have st6 := ((st2.trans s3).trans s5).trans s6
      refine ⟨as.map V.ref, n6.at_, szLt (by rw [List.length_map]; omega), Aand B p, as ++ [p], xss ++ [zs], u6, ⟨fun a o h m => ?_, fun a o h m => ?_⟩, ?_, ⟨fun a => ?_, ?_, ?_, ?_, ?_, fun j c hc => ?_⟩, ?_, ?_, ?_, q6⟩
      · rw [upd_ne (ne_of_none h hPH)]; exact st6.keep a o h m
      · obtain ⟨o', h', m'⟩ := st6.ms a o h m
        exact ⟨o', by rw [upd_ne (ne_of_none h hPH)]; exact h', m'⟩
      · have := m6.putA (p := P) (o := .lst (as.map V.ref ++ [V.ref p])) (.inl ((n2.mem P).mpr (.inr (.inl rfl)))) (fun m => m)
        exact this
      · simp only [Aand, n2.mem a, List.mem_append, List.mem_singleton]
        constructor
        · rintro ((h | h | h) | h)
          · exact .inl h
          · exact .inr (.inl h)
          · exact .inr (.inr (.inl h))
          · exact .inr (.inr (.inr h))
        · rintro (h | h | h | h)
          · exact .inl (.inl h)
          · exact .inl (.inr (.inl h))
          · exact .inl (.inr (.inr h))
          · exact .inr h
      · rw [List.mem_append]
        rintro (h | h)
        · exact n2.out h
        · exact pP (by simpa using h : P = p).symm
      · rw [List.nodup_append]
        exact ⟨n2.nd, by simp, fun a ha b hb => by
          have : b = p := by simpa using hb
          rw [this]
          exact fun e => pas (by rw [← e]; exact ha)⟩
      · rw [List.map_append]; exact upd_same
      · rw [List.length_append, List.length_append, n2.len]; rfl
      · by_cases hj : j < as.length
        · rw [List.getElem?_append_left hj] at hc
          obtain ⟨ws, ys, h1, h2, h3⟩ := ((n2.step s3).step s5).row j c hc
          have hcm := List.mem_of_getElem? hc
          have cP : c ≠ P := fun z => n2.out (by rw [← z]; exact hcm)
          exact ⟨ws, ys, by rw [List.getElem?_append_left (by rw [← n2.len]; exact hj)]; exact h1, by rw [upd_ne cP]; exact s6.keep _ _ h2 (fun m => m), (h3.goes gB).goes gp⟩
        · rw [List.getElem?_append_right (by omega)] at hc
          have hj0 : j - as.length = 0 := by
            have := (List.getElem?_eq_some_iff.mp hc).1
            simp at this
            omega
          rw [hj0] at hc
          have ec : p = c := by simpa using hc
          subst ec
          exact ⟨vs, zs, by rw [List.getElem?_append_right (by rw [← n2.len]; omega), ← n2.len, hj0]; rfl, by rw [upd_ne pP]; exact hp6, hz.goes gp⟩
      · intro c hc
        rcases List.mem_append.mp hc with h | h
        · exact fr c h
        · have : c = p := by simpa using h
          rw [this]; exact frp
      · rw [List.length_append]; simp; omega
      · exact hG.over _ _ _ _ gp (hG.over _ _ _ _ gB g5)
    · have e : i = ds.length := by omega
      subst e
      rw [List.drop_length] at w2
      exact .inl ⟨hG.stops _ H2 g2, k B P as H2 xss u2 st2 mB hPH fr n2 w2⟩⟩
theorem Rel.putB {K : PySem.W.Frag} {N B : Addr → Prop} {H0 H : Hp} {σ : L2.St} {ρ : Rho} {u : Nat} (R : Rel K N B H0 σ H ρ u) {c : Addr} {vs vs' : List V} (hc : H c = some (.lst vs)) (hB : B c) (h0 : H0 c = none) (no : ∀ (j : Nat) (xs : OC), ρ[j]? = some (some (SV.ob xs)) → σ[j]? ≠ some (some (V.ref c))) : Rel K N B H0 σ (upd H c (.lst vs')) ρ u := by
  have g : Goes B B H (upd H c (.lst vs')) := goes_put hc hB
  exact {
    len := R.len
    step := ⟨fun b o h m => by rw [upd_ne (ne_of_none h h0)]; exact R.step.keep b o h m, fun b o h m => by
      obtain ⟨o', h', m'⟩ := R.step.ms b o h m
      exact ⟨o', by rw [upd_ne (ne_of_none h h0)]; exact h', m'⟩⟩
    minv := R.minv.putA hB (fun m => m)
    sub := R.sub
    trk := fun b h => by
      by_cases q : b = c
      · rw [q, upd_same]; simp
      · rw [upd_ne q]; exact R.trk b h
    ntrk := R.ntrk
    dat := fun j x f => let ⟨v, h1, h2⟩ := R.dat j x f; ⟨v, h1, h2.goes g⟩
    ob := fun j ys f => by
      obtain ⟨b, h1, h2, h4, h5⟩ := R.ob j ys f
      have nb : b ≠ c := fun z => no j ys f (by rw [h1, z])
      exact ⟨b, h1, h2.go g (fun o e _ => by rw [upd_ne nb]; exact e), h4, h5⟩
    dis := R.dis }
@[simp] def wNest (i ja jb : Nat) (wn : WN) (wc : WT) (we : WE) (wret wrest : WS) : WS := fun F ρ u => i < ρ.length ∧ wn ρ u fun xss u1 => wc (ρ.set i none) u1 fun t u2 =>
  if t = true then we (ρ.set i none) u2 fun d u3 => ∃ (a b : Nat) (xs : List D), (ρ.set i none)[ja]? = some (some (.d (.int a))) ∧ (ρ.set i none)[jb]? = some (some (.d (.int b))) ∧ xss[a]? = some xs ∧ b < xs.length ∧ wret { F with nx := fun _ _ => False } ((ρ.set i none).set i (some (.d (.list ((xss.set a (xs.set b d)).map .list))))) u3
  else wrest F ((ρ.set i none).set i (some (.d (.list (xss.map .list))))) u2
theorem pssNest {i ja jb : Nat} {st1 st2 : Stmt} {c : Expr} {ret rest : List Stmt} {pos : Pos} {wn : WN} {wc : WT} {we : WE} {wret wrest : WS} (hset : PS X st1 (tAsg (tFF X.K wn) (gName i))) (hc : PT X c (tTe X.K wc))
    (hst : PS X st2 (tAsg (tD X.K we) (gSub (tOp (rIxL X.K) (tVar i) (tVar ja)) (tVar jb) rSetL))) (hret : PSs X ret (tSx X.K W wret)) (hrest : PSs X rest (tSx X.K W wrest)) :
    PSs X (st1 :: .If c (st2 :: ret) [] pos :: rest) (tSx X.K W (wNest i ja jb wn wc we wret wrest)) :=
  PSsi (pss_cons hset (pss_cons (ps_if hc (pss_cons hst hret) pss_nil) hrest)) fun E σ H ⟨N, A, H0, ρ, u, F, R, ⟨hil, hw⟩, k1, k2, k3, k4, k5⟩ =>
    ⟨N, A, H0, ρ, u, _, R, hw, fun B p as H1 xss u1 s1 m1 hp fr n1 q1 => by
      have nA : ¬ A p := R.fresh hp
      have nas : ∀ b ∈ as, ¬ A b := fun b hb => R.fresh (fr b hb)
      have nb : ∀ a, B a → A a ∨ H a = none := fun a h => by
        rcases (n1.mem a).mp h with h | h | h
        · exact .inl h
        · rw [h]; exact .inr hp
        · exact .inr (fr a h)
      have trk : ∀ a, B a → H1 a ≠ none := fun a h => by
        rcases (n1.mem a).mp h with h | h | h
        · exact s1.there (R.trk a h)
        · rw [h, n1.at_]; simp
        · obtain ⟨j, hj⟩ := List.getElem?_of_mem h
          obtain ⟨vs, xs, _, h2, _⟩ := n1.row j a hj
          rw [h2]; simp
      have R1 : Rel X.K N B H0 (σ.set i (some (.ref p))) H1 (ρ.set i none) u1 := (R.grow s1 m1 (fun a h => (n1.mem a).mpr (.inl h)) nb trk []).setAny i _
      have ownA : ∀ (j : Nat) (xs : OC), (ρ.set i none)[j]? = some (some (SV.ob xs)) → ∀ a, (σ.set i (some (V.ref p)))[j]? = some (some (V.ref a)) → A a := fun j xs e a ea => by
        by_cases q : i = j
        · subst q
          by_cases hl : i < ρ.length
          · rw [List.getElem?_set_self hl] at e; cases e
          · rw [List.getElem?_eq_none (by rw [List.length_set]; omega)] at e; cases e
        · rw [List.getElem?_set_ne q] at e ea
          obtain ⟨a', h1, _, h4, _⟩ := R.ob j xs e
          rw [h1] at ea
          have e' : a' = a := by simpa using ea
          rw [← e']; exact h4
      have hi : (σ.set i (some (V.ref p)))[i]? = some (some (V.ref p)) := List.getElem?_set_self (by rw [← R.len]; exact hil)
      refine ⟨N, B, H0, _, u1, _, R1, q1, fun t H2 u2 s2 m2 q2 => ?_⟩
      have R2 := R1.go s2 m2
      have n2 := n1.step s2
      cases t with
      | false =>
        have RD := R2.nestD n2 nA nas R.sub ownA hi
        have gg : Goes A A H H2 := (s1.trans s2).goes
        exact ⟨N, A, H0, _, u2, F, RD, q2, fun A' σ' H' ρ' u' g R' q => k1 _ _ _ _ _ (gg.trans g) R' q, k2, fun A' σ' H' ρ' u' g R' q => k3 _ _ _ _ _ (gg.trans g) R' q, fun A' σ' H' ρ' u' g R' q => k4 _ _ _ _ _ (gg.trans g) R' q, k5⟩
      | true =>
        refine ⟨N, B, H0, _, u2, _, R2, q2, fun v H3 d u3 s3 m3 hd ⟨a, b, xs, ea, eb, hx, hbl, q3⟩ => ?_⟩
        have R3 := R2.go s3 m3
        have n3 := n2.step s3
        obtain ⟨va, ha1, ha2⟩ := R3.dat ja _ ea
        cases ha2
        obtain ⟨vb, hb1, hb2⟩ := R3.dat jb _ eb
        cases hb2
        have hal : a < as.length := by rw [n3.len]; exact (List.getElem?_eq_some_iff.mp hx).1
        obtain ⟨c, hc⟩ : ∃ c, as[a]? = some c := ⟨_, List.getElem?_eq_getElem hal⟩
        obtain ⟨ws, ys, hx', hcs, hda⟩ := n3.row a c hc
        rw [hx] at hx'
        cases hx'
        have hcm := List.mem_of_getElem? hc
        have hBc : B c := (n3.mem c).mpr (.inr (.inr hcm))
        have h0c : H0 c = none := R.step.fresh (fr c hcm)
        have n4 := n3.put (j := b) hc hx hcs hda hd
        have R4 := R3.putB (vs' := ws.set b v) hcs hBc h0c fun j xs e e2 => nas c hcm (ownA j xs e c e2)
        refine ⟨.ref p, hi, .int a, ha1, p, as.map V.ref, a, .ref c, rfl, rfl, .inl (.inl n3.at_), atI_nat (by rw [List.getElem?_map, hc]; rfl), .int b, hb1, c, ws, b, b, rfl, rfl, hcs, (by simp [ixN, hda.length, hbl]), ?_⟩
        have RD := R4.nestD n4 nA nas R.sub ownA hi
        have gg : Goes A A H (upd H3 c (.lst (ws.set b v))) := by
          have g1 : Goes A A H H3 := ((s1.trans s2).trans s3).goes
          refine ⟨fun x o nx h m => ?_, fun x o h m => ?_, fun x h => .inl h⟩
          · rw [upd_ne (ne_of_none h (fr c hcm))]; exact g1.keep x o nx h m
          · obtain ⟨o', h', m'⟩ := g1.ms x o h m
            exact ⟨o', by rw [upd_ne (ne_of_none h (fr c hcm))]; exact h', m'⟩
        exact ⟨N, A, H0, _, u3, _, RD, q3, fun _ _ _ _ _ _ _ q => q.elim, k2, fun A' σ' H' ρ' u' g R' q => k3 _ _ _ _ _ (gg.trans g) R' q, fun A' σ' H' ρ' u' g R' q => k4 _ _ _ _ _ (gg.trans g) R' q, k5⟩⟩
theorem psSetLcN {i : Nat} {y : Str} {py spos : Pos} {elt tg iter : Expr} {scope : Scope} {own : List (Str × Nat)} {pos : Pos} {wi : WA} {is : List Nat} {b : WB} {we : WA} (hN : X.N.Nodup) (hy : X.N[i]? = some y) (hyl : X.env.scope.names.lookup y = some .local) (hsw : swapsWith (.ListComp elt [⟨tg, iter, [], 0⟩] scope pos) (some (.Name y py)) spos.line X.env = pure true) (hc : X.calm = true) (hi : PI X tg iter (tIt X.K wi)) (ok : BlkOk X.N X.env.scope scope own)
    (hg : ∀ (s : Shared) (H : Hp) (C : Addr) (cl : List (Str × Addr)) (fp : List Addr), PG (X.blk s H scope (compEnvC scope cl C X.env) fp) tg (tGt X.K is b))
    (he : ∀ (s : Shared) (H : Hp) (C : Addr) (cl : List (Str × Addr)) (fp : List Addr), PE (X.blk s H scope (compEnvC scope cl C X.env) fp) elt (tF X.K we)) (sub : ∀ i ∈ is, i ∈ own.map (·.2)) (hs : ∀ x, foldedSetIterable iter X.env x = pure x := by intro _; rfl) :
    PS X (.Assign [.Name y py] (.ListComp elt [⟨tg, iter, [], 0⟩] scope pos) spos) (tAsg (tFF X.K (wLcF wi b we (own.map (·.2)))) (gName i)) :=
  PSi (ps_setLc hc hN hy hyl hsw hi ok hg (fun _ _ _ _ _ => ptsN) he hs) fun E σ H h => lc_impN sub σ H _ h
end
end DW

set_option Elab.async false
set_option linter.all false
set_option maxRecDepth 100000
set_option maxHeartbeats 4000000
namespace DW
open PySem PySem.Spec PyProof.Rows L2
/-! ### the law's call, for a law that uses repr -/
/-- the script alone, where the top's own text does not know it -/
def soloH (K : PySem.W.Frag) (a : Addr) (o : Obj) (xs : List V) : Hp := fun b => if b = a ∧ K.lookup a = none then some (.frz o (.lst xs)) else none
theorem solo_at {K : PySem.W.Frag} {a b : Addr} {o : Obj} {xs : List V} {z : HO} (h : soloH K a o xs b = some z) : b = a ∧ K.lookup a = none ∧ z = .frz o (.lst xs) := by
  unfold soloH at h
  split at h
  · rename_i q
    exact ⟨q.1, q.2, (Option.some.inj h).symm⟩
  · cases h
section
variable {P : Program} {w : World} {K : PySem.W.Frag} {mg mb : Str → Option Value} {k : Nat} {fa a : Addr} {fd : FuncData} {x : Str} {sp : Sp} {s1 : Shared} {vs : List Value} {ns : List Int}
structure LawAt (K : PySem.W.Frag) (mg mb : Str → Option Value) (a : Addr) (vs : List Value) (ns : List Int) (s1 : Shared) : Prop where
  kin : K.In s1.heap
  gl : s1.heap.Ns mainGlobals mg
  bl : s1.heap.Ns builtinsNs mb
  bb : ∀ x : Str, x ≠ "__name__" → mb x = bootBuiltins x
  nl : s1.heap.NoLimit
  gn : s1.gens = #[]
  at_ : s1.heap.get? a = some { cls := .type "list", data := .seq vs.toArray }
  is_ : IntsAre vs ns
  len : ns.length ≤ sizeLine
abbrev LawAt.H {K : PySem.W.Frag} {mg mb : Str → Option Value} {a : Addr} {vs : List Value} {ns : List Int} {s1 : Shared} (_ : LawAt K mg mb a vs ns s1) : Hp := soloH K a { cls := .type "list", data := .seq vs.toArray } (ns.map V.int)
theorem LawAt.vals (L : LawAt K mg mb a vs ns s1) : Vals (ns.map V.int) vs := vals_ints L.is_
theorem LawAt.sq (L : LawAt K mg mb a vs ns s1) : SqL K L.H a (ns.map V.int) := by
  cases q : K.lookup a with
  | none => exact .inl (.inr ⟨_, by unfold LawAt.H soloH; rw [if_pos ⟨rfl, q⟩]⟩)
  | some o =>
    obtain rfl : o = { cls := .type "list", data := .seq vs.toArray } := Option.some.inj ((L.kin a o q).symm.trans L.at_)
    refine .inr ⟨_, vs.toArray, _, q, rfl, rfl, rfl, ?_, ?_⟩
    · rw [List.size_toArray, L.is_.length]
      exact L.len
    · simpa using L.vals
theorem LawAt.hok (L : LawAt K mg mb a vs ns s1) : HOk P w L.H s1.heap := fun b z h => by
  obtain ⟨rfl, _, rfl⟩ := solo_at h
  exact ⟨L.at_, by rw [List.length_map]; exact L.len, vs, _, L.vals, L.at_⟩
theorem LawAt.low (L : LawAt K mg mb a vs ns s1) {b : Addr} {m : Str → Option Value} (h : s1.heap.Ns b m) : (hidT s1.heap L.H).Ns b m := by
  obtain ⟨o, es, ep, e, d, r⟩ := h
  refine ⟨o, es, ep, hidT_get e ?_, d, r⟩
  cases q : L.H b with
  | none => rfl
  | some z =>
    obtain ⟨rfl, _, _⟩ := solo_at q
    obtain rfl := Option.some.inj (L.at_.symm.trans e)
    cases (show Data.seq vs.toArray _ = Data.dict es ep from d)
theorem LawAt.kb (L : LawAt K mg mb a vs ns s1) : K.In (hidT s1.heap L.H) := fun b o e => by
  refine hidT_get (L.kin b o e) ?_
  cases q : L.H b with
  | none => rfl
  | some z =>
    obtain ⟨rfl, n, _⟩ := solo_at q
    rw [n] at e
    cases e
theorem LawAt.env (L : LawAt K mg mb a vs ns s1) : Env0 P w K mg (hidT s1.heap L.H) callerA [] s1 L.H := by
  obtain ⟨mc, n1, n2⟩ := L.nl
  refine ⟨rfl, ⟨L.kb, L.low L.gl, ⟨mb, L.low L.bl, L.bb⟩, ⟨mc, L.low n1, n2⟩⟩, fun b o e => of_hidT e, Nat.le_of_eq (hidT_size _ _), trivial, ?_, L.hok, .of_eq L.gn⟩
  exact fun b hb => absurd (show b ∈ ([] : List Addr) from hb) (by simp)
theorem LawAt.call (L : LawAt K mg mb a vs ns s1) (hr : Room k callerA) (F : ∀ base : Heap, K.In base → base.Ns mainGlobals mg → FnG P w K mg base k fa fd [x] sp) (hb : ∀ (s : Shared) (u : Value), BindsTo s fd ⟨[u], []⟩ [(x, u)])
    (hsp : ∀ H : Hp, Only H → SqL K H a (ns.map V.int) → sp [.ref a] H (fun v _ => v = .bl true) fun _ _ _ => False) :
    codeAny (model P w) callerA (.call (.ref fa) ⟨[.ref a], []⟩) (fun r s' => r = .ok (.ret (.bool true)) ∧ OldK s1.heap s'.heap ∧ s'.os = s1.os ∧ AllBare s'.gens) s1 := by
  have only : Only L.H := fun b => by
    cases q : L.H b with
    | none => exact .inl rfl
    | some z => exact .inr ⟨_, _, congrArg some (solo_at q).2.2⟩
  have goal := (F _ L.kb (L.low L.gl)).go callerA [] s1 L.H ⟨[.ref a], []⟩ [.ref a] [.ref a] _ _ rfl hr L.env (hb s1 (.ref a)) (.cons rfl .nil) (hsp L.H only L.sq)
  refine codeAny_mono goal fun r s' h => ?_
  match r, h with
  | .error e, h => exact h.elim
  | .ok .next, h => exact False.elim h
  | .ok .brk, h => exact False.elim h
  | .ok .cont, h => exact False.elim h
  | .ok (.ret u), h =>
    obtain ⟨v, H', os, bare, un, hok', r', q⟩ := h
    obtain rfl : v = .bl true := q
    obtain rfl : u = Value.bool true := r'
    refine ⟨rfl, .of_keep fun b o e => ?_, os, bare⟩
    cases q : L.H b with
    | none => exact un.keep b o e q (fun z => absurd (show b ∈ ([] : List Addr) from z) (by simp)) (by simp)
    | some z =>
      obtain ⟨rfl, _, rfl⟩ := solo_at q
      have o1 := (hok' b _ (un.frzs b _ _ q)).1
      rw [← e, L.at_]
      exact o1
end
theorem kit_in {K : PySem.W.Frag} {D C : Addr} {b : Bool} (hi : PySem.W.isClsIn K C = true) (ht : PySem.W.typeIn K (.ref C) = some (.type "type")) (hs : PySem.W.subIn K (.ref D) (.ref C) = some b) (hd : PySem.W.subIn K (.ref D) (.ref D) = some true) : PySem.W.kitOne K (.ref D) (.ref C) = some b := by
  unfold PySem.W.kitOne
  by_cases e : D = C
  · subst e
    rw [hs] at hd
    rw [if_pos (by simp), hd]
  · rw [if_neg (by simpa using e)]
    have hi' : (PySem.W.clsIn K C).isSome = true := hi
    show (if ((PySem.W.clsIn K C).isSome && PySem.W.typeIn K (.ref C) == some (.type "type")) = true then PySem.W.subIn K (.ref D) (.ref C) else none) = some b
    rw [hi', ht]
    exact hs
theorem law_start {K : PySem.W.Frag} {H : Hp} {a : Addr} {ns : List Int} {W : WF} (hl : ns.length ≤ 63) (hO : Only H) (hS : SqL K H a (ns.map V.int)) (hW : ∀ ns : List Int, ns.length ≤ 63 → W 0 [sD ns] (fun d _ => d = .bool true)) : spD K W [.ref a] H (fun v _ => v = .bl true) fun _ _ _ => False := by
  refine ⟨fun _ => False, [sD ns], 0, fun d _ => d = .bool true, fun _ h => h.elim, fun b o e m => ?_, .cons ?_ .nil, hW ns hl, fun v H' d u' _ _ hd e => ?_⟩
  · rcases hO b with z | ⟨ob, xs, z⟩
    · rw [z] at e; cases e
    · rw [z] at e
      cases e
      exact m.elim
  · rcases hS with h | h
    · refine .scr h (fun z => z) ?_
      rcases h with h | ⟨o, h⟩ <;> rw [h] <;> simp
    · exact .scrK (.inr h)
  · subst e
    cases hd
    rfl
theorem walk_G {l : PySem.W.OpenLaw} {n k : Nat} {q : Program} {loose : List Str} {XP : (Str → Option Value) → Heap → Prop} {YP : World → Heap → Prop} {d : DefRec} {K : Params → PySem.W.Frag} {sp : World → Sp} {x : Str}
    (hn : l.most = some n) (hn2 : n ≤ sizeLine) (hdf : d.params.defaults = []) (hr : Room k callerA) (hY : ∀ (w : World) (h : Heap), YP w h → (K w.params).In h)
    (F : ∀ (w : World) (mg : Str → Option Value) (fa : Addr) (h : Heap), (K w.params).In h → h.Ns mainGlobals mg → mg d.name = some (.ref fa) → ∃ fd : FuncData, (∀ (s : Shared) (u : Value), BindsTo s fd ⟨[u], []⟩ [(x, u)]) ∧ ∀ base : Heap, (K w.params).In base → base.Ns mainGlobals mg → FnG l.prog w (K w.params) mg base k fa fd [x] (sp w))
    (hsp : ∀ (w : World) (H : Hp) (a : Addr) (ns : List Int), ns.length ≤ n → Only H → SqL (K w.params) H a (ns.map V.int) → sp w [.ref a] H (fun v _ => v = .bl true) fun _ _ _ => False) :
    PySem.W.WalkO q loose XP YP l.row.toRowW d [] (fun f vs => PySem.call f vs) := by
  refine Att.attach_call hn hdf fun w s0 s1 mg mb fa o pm cd doc a vs ns G Y ho hd hcd hmg hobj hints hlen hg => ?_
  obtain ⟨fd, hb, hF⟩ := F w mg fa _ (hY w _ Y) G.T.g hmg
  have L : LawAt (K w.params) mg mb a vs ns s1 := ⟨hY w _ Y, G.T.g, G.T.b, G.T.builtins, G.T.nolimit, hg, hobj, hints, Nat.le_trans hlen hn2⟩
  exact L.call hr hF hb fun H hO hS => hsp w H a ns hlen hO hS
end DW

set_option Elab.async false
set_option linter.all false
set_option maxRecDepth 100000
set_option maxHeartbeats 4000000
namespace DW
open PySem PySem.Spec PyProof.Rows L2
section
variable {X : Cx} {W : XK}
/-! ### the truth of a list or a tuple -/
@[simp] def fTru : D → (Bool → Prop) → Prop
  | .list xs, Q => Q (!xs.isEmpty)
  | .tuple xs, Q => Q (!xs.isEmpty)
  | _, _ => False
@[simp] def wtTru (w : WE) : WT := fun ρ u Q => w ρ u fun d u1 => fTru d fun b => Q b u1
theorem empty_len {α β : Type} {xs : List α} {ys : List β} (h : xs.length = ys.length) : xs.isEmpty = ys.isEmpty := by
  cases xs <;> cases ys <;> first | rfl | cases h
theorem ptTru {e : Expr} {w : WE} (h : PE X e (tBo X.K w)) (he : ∀ whole, isTrue e X.env whole = (do let v ← whole; standAt e.pos; holding [v] (truthy v)) := by intro _; rfl) : PT X e (tTe X.K (wtTru w)) := PTi (pt_truth h he) fun σ H Q ⟨N, A, H0, ρ, u, Qd, R, hw, k⟩ =>
  ⟨N, A, H0, ρ, u, _, R, hw, fun x H1 c u1 s1 m1 hx q => by
    cases c <;> try exact q.elim
    · obtain ⟨a, xs, rfl, ha, hxs⟩ := hx.lists
      exact ⟨!xs.isEmpty, .inl ⟨xs, .inl (.inl ha), rfl⟩, by rw [empty_len hxs.length]; exact k _ _ u1 s1 m1 q⟩
    · obtain ⟨a, xs, rfl, ha, _, hxs⟩ := hx.tuples
      exact ⟨!xs.isEmpty, .inr (.inl ⟨xs, .inl (.inl ha), rfl⟩), by rw [empty_len hxs.length]; exact k _ _ u1 s1 m1 q⟩⟩
/-! ### xs.extend(e), x = xs.pop() -/
@[simp] def wExt (i : Nat) (w : WE) : WS := fun F ρ u => ∃ xs, ρ[i]? = some (some (SV.own xs)) ∧ w ρ u fun d u1 => ∃ ys, d = .list ys ∧ xs.length + ys.length ≤ 100000 ∧ F.nx (ρ.set i (some (.own (xs ++ ys)))) u1
theorem psExt {st : Stmt} {i : Nat} {w : WE} (h : PS X st (tDrop (tBM X.K "list" rExtend (tVar i) (tCons (tD X.K w) tNil)))) : PS X st (tSx X.K W (wExt i w)) := PSi h fun E σ H ⟨N, A, H0, ρ, u, F, R, ⟨xs, e0, hw⟩, k1, k2, k3, k4, k5⟩ => by
  obtain ⟨a, vs, h1, h2, h3, h4, h5⟩ := R.own i xs e0
  refine ⟨.ref a, h1, .inl ⟨rfl, vs, .inl (.inl h2)⟩, N, A, H0, ρ, u, _, R, hw, fun v H1 d u1 s1 m1 hd ⟨ys, ed, hl, q⟩ => ?_⟩
  subst ed
  have ha := s1.keep a _ h2 (fun m => m)
  have h3' := h3.goes (A' := A) s1.goes
  cases hd with
  | lst hb nb hys =>
  refine ⟨a, _, vs, _, rfl, rfl, ha, hb, szOf (by rw [h3.length, hys.length]; exact hl), ?_⟩
  exact k1 A σ _ _ u1 (s1.goes.trans (goes_put ha h4)) ((R.go s1 m1).putOwn e0 h1 ha h4 h5 (h3'.append hys)) q
@[simp] def wPop (j i : Nat) : WS := fun F ρ u => ∃ xs x, ρ[i]? = some (some (SV.own (xs ++ [x]))) ∧ F.nx ((ρ.set i (some (.own xs))).set j (some (.d x))) u
theorem DaAll.last {K : PySem.W.Frag} {A : Addr → Prop} {H : Hp} {vs : List V} {xs : List D} {x : D} (h : DaAll K A H vs (xs ++ [x])) : ∃ v, vs[vs.length - 1]? = some v ∧ Da K A H v x ∧ DaAll K A H vs.dropLast xs := by
  have hl := h.length
  rw [List.length_append] at hl
  have e : (xs ++ [x])[vs.length - 1]? = some x := by
    have : vs.length - 1 = xs.length := by simp at hl; omega
    rw [this]; simp
  obtain ⟨v, h1, h2⟩ := h.get e
  refine ⟨v, h1, h2, ?_⟩
  have t := h.take xs.length
  rw [List.take_left'  rfl] at t
  have e2 : vs.take xs.length = vs.dropLast := by
    rw [List.dropLast_eq_take]
    congr 1
    simp at hl
    omega
  rw [← e2]
  exact t
theorem psPop {st : Stmt} {j i : Nat} (h : PS X st (tAsg (tBM0 X.K "list" rPop (tVar i)) (gName j))) : PS X st (tSx X.K W (wPop j i)) := PSi h fun E σ H ⟨N, A, H0, ρ, u, F, R, ⟨xs, x, e0, hq⟩, k1, k2, k3, k4, k5⟩ => by
  obtain ⟨a, vs, h1, h2, h3, h4, h5⟩ := R.own i _ e0
  obtain ⟨v, hv, hd, hr⟩ := h3.last
  have g := goes_put (vs' := vs.dropLast) h2 h4
  refine ⟨.ref a, h1, .inl ⟨rfl, vs, .inl (.inl h2)⟩, a, vs, v, rfl, rfl, h2, hv, ?_⟩
  exact k1 A _ _ _ u g ((R.putOwn e0 h1 h2 h4 h5 hr).setD (hd.goes g)) hq
/-! ### while -/
def wWhile (wc : WT) (wb : WS) : WS := fun F ρ u => ∃ Iv : Nat → Rho → Nat → Prop, (∃ m, Iv m ρ u) ∧ ∀ m ρ u, Iv m ρ u → wc ρ u fun t u1 =>
  if t = true then wb { nx := fun ρ' u' => ∃ m', m' < m ∧ Iv m' ρ' u', rt := F.rt, bk := F.nx, ct := fun ρ' u' => ∃ m', m' < m ∧ Iv m' ρ' u', ex := F.ex } ρ u1 else F.nx ρ u1
theorem psWhile {c : Expr} {body : List Stmt} {pos : Pos} {wc : WT} {wb : WS} (hp : PassesOwn (model X.prog X.w) X.A X.env X.xe) (hc : PT X c (tTe X.K wc)) (hb : PSs X body (tSx X.K W wb)) : PS X (.While c body [] pos) (tSx X.K W (wWhile wc wb)) := PSi (ps_while hp hc hb) fun E σ H ⟨N, A, H0, ρ, u, F, R, ⟨Iv, ⟨m0, i0⟩, turn⟩, k1, k2, k3, k4, k5⟩ => by
  refine ⟨fun m σ' H' => ∃ A' ρ' u', Goes A A' H H' ∧ Rel X.K N A' H0 σ' H' ρ' u' ∧ Iv m ρ' u', ⟨m0, A, ρ, u, Goes.refl, R, i0⟩, ?_⟩
  rintro m σ1 H1 ⟨A1, ρ1, u1, g1, R1, i1⟩
  refine ⟨N, A1, H0, ρ1, u1, _, R1, turn m ρ1 u1 i1, fun t H2 u2 s2 m2 q => ?_⟩
  have R2 := R1.go s2 m2
  have g2 := g1.trans s2.goes
  cases t with
  | false => exact k1 A1 σ1 H2 ρ1 u2 g2 R2 q
  | true =>
    refine ⟨fun σ' H' => ∃ m', m' < m ∧ ∃ A' ρ' u', Goes A A' H H' ∧ Rel X.K N A' H0 σ' H' ρ' u' ∧ Iv m' ρ' u', fun σ' H' ⟨m', hm, r⟩ => ⟨m', hm, r⟩, N, A1, H0, ρ1, u2, _, R2, q, ?_, k2, ?_, ?_, k5⟩
    · exact fun A' σ' H' ρ' u' g R' ⟨m', hm, z⟩ => ⟨m', hm, A', ρ', u', g2.trans g, R', z⟩
    · exact fun A' σ' H' ρ' u' g R' z => k1 A' σ' H' ρ' u' (g2.trans g) R' z
    · exact fun A' σ' H' ρ' u' g R' ⟨m', hm, z⟩ => ⟨m', hm, A', ρ', u', g2.trans g, R', z⟩
end
end DW

set_option Elab.async false
set_option linter.all false
set_option maxRecDepth 100000
set_option maxHeartbeats 2000000
namespace DW
open PySem PySem.Spec PyProof.Rows L2
/-! ### keys -/
mutual
/-- a key of ints, None and tuples of such -/
def isK : D → Bool
  | .none | .int _ => true
  | .tuple xs => isKs xs
  | _ => false
def isKs : List D → Bool
  | [] => true
  | x :: xs => isK x && isKs xs
end
mutual
def nk : D → NestedKey
  | .int i => .num i
  | .tuple xs => .tup (nkl xs)
  | _ => .none
def nkl : List D → List NestedKey
  | [] => []
  | x :: xs => nk x :: nkl xs
end
mutual
theorem nk_data : ∀ d, isK d = true → (nk d).data = d
  | .none, _ => by simp [nk, NestedKey.data]
  | .int i, _ => by simp [nk, NestedKey.data]
  | .tuple xs, h => by
    simp only [nk, NestedKey.data]
    rw [nkl_data xs (by simpa [isK] using h)]
  | .bool _, h => by simp [isK] at h
  | .str _, h => by simp [isK] at h
  | .list _, h => by simp [isK] at h
  | .dict _, h => by simp [isK] at h
theorem nkl_data : ∀ ds, isKs ds = true → NestedKey.datas (nkl ds) = ds
  | [], _ => by simp [nkl, NestedKey.datas]
  | x :: xs, h => by
    simp only [isKs, Bool.and_eq_true] at h
    simp only [nkl, NestedKey.datas]
    rw [nk_data x h.1, nkl_data xs h.2]
end
mutual
theorem nk_tx : ∀ d, noTx (nk d) = true
  | .none => by simp [nk, noTx]
  | .int i => by simp [nk, noTx]
  | .tuple xs => by simp only [nk, noTx]; exact nkl_tx xs
  | .bool _ => by simp [nk, noTx]
  | .str _ => by simp [nk, noTx]
  | .list _ => by simp [nk, noTx]
  | .dict _ => by simp [nk, noTx]
theorem nkl_tx : ∀ ds, noTxs (nkl ds) = true
  | [] => by simp [nkl, noTxs]
  | x :: xs => by simp only [nkl, noTxs, Bool.and_eq_true]; exact ⟨nk_tx x, nkl_tx xs⟩
end
mutual
theorem data_nk : ∀ k, noTx k = true → nk k.data = k
  | .none, _ => by simp [nk, NestedKey.data]
  | .num i, _ => by simp [nk, NestedKey.data]
  | .text x, h => by simp [noTx] at h
  | .tup ks, h => by
    simp only [NestedKey.data, nk]
    rw [data_nkl ks (by simpa [noTx] using h)]
theorem data_nkl : ∀ ks, noTxs ks = true → nkl (NestedKey.datas ks) = ks
  | [], _ => by simp [nkl, NestedKey.datas]
  | k :: ks, h => by
    simp only [noTxs, Bool.and_eq_true] at h
    simp only [NestedKey.datas, nkl]
    rw [data_nk k h.1, data_nkl ks h.2]
end
mutual
theorem isK_data : ∀ k, noTx k = true → isK k.data = true
  | .none, _ => by simp [NestedKey.data, isK]
  | .num i, _ => by simp [NestedKey.data, isK]
  | .text x, h => by simp [noTx] at h
  | .tup ks, h => by
    simp only [NestedKey.data, isK]
    exact isKs_datas ks (by simpa [noTx] using h)
theorem isKs_datas : ∀ ks, noTxs ks = true → isKs (NestedKey.datas ks) = true
  | [], _ => by simp [NestedKey.datas, isKs]
  | k :: ks, h => by
    simp only [noTxs, Bool.and_eq_true] at h
    simp only [NestedKey.datas, isKs, Bool.and_eq_true]
    exact ⟨isK_data k h.1, isKs_datas ks h.2⟩
end
mutual
theorem hash_kh (w : World) : ∀ k, noTx k = true → k.hash w = kh k
  | .none, _ => by simp [NestedKey.hash, kh]
  | .num i, _ => by simp [NestedKey.hash, kh]
  | .text x, h => by simp [noTx] at h
  | .tup ks, h => by
    simp only [NestedKey.hash, kh]
    rw [hashes_kh w ks (by simpa [noTx] using h)]
theorem hashes_kh (w : World) : ∀ ks, noTxs ks = true → NestedKey.hashes w ks = khs ks
  | [], _ => by simp [NestedKey.hashes, khs]
  | k :: ks, h => by
    simp only [noTxs, Bool.and_eq_true] at h
    simp only [NestedKey.hashes, khs]
    rw [hash_kh w k h.1, hashes_kh w ks h.2]
end
mutual
theorem nk_depth : ∀ d, (nk d).depth ≤ d.depth
  | .none => by simp [nk, NestedKey.depth]
  | .int i => by simp [nk, NestedKey.depth]
  | .tuple xs => by
    simp only [nk, NestedKey.depth, PyData.depth]
    have := nkl_depth xs
    omega
  | .bool _ => by simp [nk, NestedKey.depth]
  | .str _ => by simp [nk, NestedKey.depth]
  | .list _ => by simp [nk, NestedKey.depth]
  | .dict _ => by simp [nk, NestedKey.depth]
theorem nkl_depth : ∀ ds, NestedKey.depthAll (nkl ds) ≤ PyData.depthAll ds
  | [] => by simp [nkl, NestedKey.depthAll]
  | x :: xs => by
    simp only [nkl, NestedKey.depthAll, PyData.depthAll]
    have h1 := nk_depth x
    have h2 := nkl_depth xs
    omega
end
/-- equal as keys -/
def keq (a b : D) : Bool := NestedKey.beq (nk a) (nk b)
theorem keq_iff {a b : D} (ha : isK a = true) (hb : isK b = true) : keq a b = true ↔ a = b := by
  unfold keq
  constructor
  · intro h
    rw [← nk_data a ha, ← nk_data b hb, NestedKey.eq_of_beq _ _ h]
  · rintro rfl
    exact NestedKey.beq_self _
/-! ### dicts over data -/
def dGet (kvs : List (D × D)) (k : D) : Option D := (kvs.find? fun p => keq p.1 k).map (·.2)
def dPut (kvs : List (D × D)) (k v : D) : List (D × D) := if kvs.any (fun p => keq p.1 k) = true then kvs.map (fun p => if keq p.1 k = true then (p.1, v) else p) else kvs ++ [(k, v)]
/-- the key goes with the dict's -/
inductive KOk (kvs : List (D × D)) : D → Prop
  | int {i : Int} : (∀ p ∈ kvs, ∃ j, p.1 = .int j) → KOk kvs (.int i)
  | tup {ks : List D} : isKs ks = true → PyData.depthAll ks ≤ 7 → (∀ p ∈ kvs, ∃ ks, p.1 = .tuple ks) → KOk kvs (.tuple ks)
/-! heap level -/
section
variable {P : Program} {w : World} {K : PySem.W.Frag} {A : Addr → Prop} {H : Hp} {h : Heap}
mutual
/-- data in the heap that are a key -/
theorem Da.nested (ok : HOk P w H h) : ∀ {v : V} {d : D} {u : Value}, Da K A H v d → isK d = true → RelV v u → NestedIs h (nk d) u
  | _, _, _, .non, _, r => by cases r; exact .none
  | _, _, _, .int i, _, r => by obtain ⟨t, rfl⟩ := r; exact .int i t
  | _, _, _, .tup h1 _ hs, k, r => by
    cases r
    obtain ⟨_, its, rv, o, h2, h3, n, h4⟩ := ok _ _ h1
    simp only [nk]
    exact .tup h2 h3 h4 (by simpa using DaAll.nested ok hs (by simpa [isK] using k) rv)
  | _, _, _, .bl b, k, _ => by simp [isK] at k
  | _, _, _, .str x, k, _ => by simp [isK] at k
  | _, _, _, .lst _ _ _, k, _ => by simp [isK] at k
  | _, _, _, .scr _ _ _, k, _ => by simp [isK, sD] at k
  | _, _, _, .scrK _, k, _ => by simp [isK, sD] at k
  | _, _, _, .dct0 _ _, k, _ => by simp [isK] at k
  | _, _, _, .rng _ _, k, _ => by simp [isK] at k
  | _, _, _, .dctK _ _ _, k, _ => by simp [isK] at k
  | _, _, _, .dctN _ _ _ _, k, _ => by simp [isK] at k
  | _, _, _, .mm _ _, k, _ => by simp [isK, mD] at k
  | _, _, _, .err _, k, _ => by simp [isK, eD] at k
theorem DaAll.nested (ok : HOk P w H h) : ∀ {vs : List V} {ds : List D} {us : List Value}, DaAll K A H vs ds → isKs ds = true → Vals vs us → NestedAll h (nkl ds) us
  | _, _, _, .nil, _, r => by cases r; exact .nil
  | _, _, _, .cons a b, k, r => by
    cases r with
    | cons r1 r2 =>
      simp only [isKs, Bool.and_eq_true] at k
      exact .cons (Da.nested ok a k.1 r1) (DaAll.nested ok b k.2 r2)
end
/-- what stands at the dict's address -/
theorem dx_of {a : Addr} {xs : List (NestedKey × Addr × V)} (ok : HOk P w H h) (e : Rd H a (DxO a xs)) (hk : DaAll K A H (xs.map fun p => .ref p.2.1) (xs.map fun p => p.1.data)) :
    xs.length ≤ sizeLine ∧ (a == sysModules) = false ∧ (∀ p ∈ xs, NkOk p.1) ∧ ∃ ys : List (NestedKey × Addr × Value),
      Paired (fun (p : NestedKey × Addr × V) (q : NestedKey × Addr × Value) => p.1 = q.1 ∧ p.2.1 = q.2.1 ∧ RelV p.2.2 q.2.2) xs ys ∧ h.DictOfH (nestedKind P w) a ys := by
  obtain ⟨⟨h1, h2, ⟨_, h3⟩, ys, pr, o, es, ep, g1, g2, g3, g4, g5⟩, _⟩ := (show ObjOk P w H h a (DxO a xs) from rd_of ok e)
  refine ⟨h1, h2, h3, ys, pr, o, es, ep, g1, g2, g3, ?_, ?_, g5⟩
  · rw [g4]
    have all : ∀ {l : List (NestedKey × Addr × V)} {m : List (NestedKey × Addr × Value)}, Paired (fun (p : NestedKey × Addr × V) (q : NestedKey × Addr × Value) => p.1 = q.1 ∧ p.2.1 = q.2.1 ∧ RelV p.2.2 q.2.2) l m → (∀ p ∈ l, NkOk p.1) →
        m.map (fun x => (⟨kh x.1, .ref x.2.1, x.2.2⟩ : DictEntry)) = m.map (entryOfKey (nestedKind P w)) := by
      intro l m q
      induction q with
      | nil => intro _; rfl
      | @cons p q ps qs hq t ih =>
        intro n
        rw [List.map_cons, List.map_cons, ih fun p hp => n p (List.mem_cons_of_mem _ hp)]
        have e : (nestedKind P w).hash q.1 = kh q.1 := hash_kh w q.1 (by rw [← hq.1]; exact (n p List.mem_cons_self).tx)
        unfold entryOfKey
        rw [e]
    exact all pr h3
  · have all : ∀ {l : List (NestedKey × Addr × V)} {m : List (NestedKey × Addr × Value)}, Paired (fun (p : NestedKey × Addr × V) (q : NestedKey × Addr × Value) => p.1 = q.1 ∧ p.2.1 = q.2.1 ∧ RelV p.2.2 q.2.2) l m → (∀ p ∈ l, NkOk p.1) →
        DaAll K A H (l.map fun p => .ref p.2.1) (l.map fun p => p.1.data) → ∀ x ∈ m, (nestedKind P w).is h x.1 x.2.1 := by
      intro l m q
      induction q with
      | nil => intro _ _ x hx; exact nomatch hx
      | @cons p q ps qs hq t ih =>
        intro n hd x hx
        rw [List.map_cons, List.map_cons] at hd
        cases hd with
        | cons d1 d2 =>
          rcases List.mem_cons.mp hx with e | hx
          · subst e
            have n1 := n p List.mem_cons_self
            obtain ⟨ks, ek⟩ := n1.tu
            have := Da.nested ok d1 (isK_data _ n1.tx) (u := .ref p.2.1) rfl
            rw [data_nk _ n1.tx] at this
            rw [← hq.1, ← hq.2.1]
            exact ⟨this, n1.dp⟩
          · exact ih (fun p hp => n p (List.mem_cons_of_mem _ hp)) d2 x hx
    exact all pr h3 hk
end
end DW

set_option Elab.async false
set_option linter.all false
set_option maxRecDepth 100000
set_option maxHeartbeats 2000000
namespace DW
open PySem PySem.Spec PyProof.Rows L2
/-! ### what a dict holds, in the heap and over data -/
section
variable {K : PySem.W.Frag} {A : Addr → Prop} {H : Hp}
theorem keq_ints {i j : Int} : keq (.int i) (.int j) = decide (i = j) := by
  simp [keq, nk, NestedKey.beq]
theorem keq_data {a b : NestedKey} (ha : noTx a = true) (hb : noTx b = true) : keq a.data b.data = decide (a = b) := by
  unfold keq
  rw [data_nk a ha, data_nk b hb, NestedKey.decide_eq]
theorem keq_dataR {a : NestedKey} {b : D} (ha : noTx a = true) : keq a.data b = decide (a = nk b) := by
  unfold keq
  rw [data_nk a ha, NestedKey.decide_eq]
theorem iget : ∀ {xs : List (Int × V)} {vs : List D} {i : Int}, DaAll K A H (xs.map Prod.snd) vs →
    (∃ v d, valV (ikv xs) (.inl i) = some v ∧ dGet (iks xs vs) (.int i) = some d ∧ Da K A H v d) ∨ (valV (ikv xs) (.inl i) = none ∧ dGet (iks xs vs) (.int i) = none)
  | [], _, i, h => by cases h; exact .inr ⟨rfl, rfl⟩
  | (j, v) :: xs, _, i, h => by
    cases h with
    | @cons _ _ d ds h1 h2 =>
      by_cases e : j = i
      · refine .inl ⟨v, d, valV_pos (by rw [e]), ?_, h1⟩
        simp [dGet, iks, List.find?_cons, keq_ints, e]
      · have e1 : valV (ikv ((j, v) :: xs)) (.inl i) = valV (ikv xs) (.inl i) := valV_neg (fun z => e (by cases z; rfl))
        have e2 : dGet (iks ((j, v) :: xs) (d :: ds)) (.int i) = dGet (iks xs ds) (.int i) := by
          simp [dGet, iks, List.find?_cons, keq_ints, e]
        rw [e1, e2]
        exact iget h2
theorem nget {ys : List (NestedKey × Addr × Value)} {k : D} : ∀ {xs : List (NestedKey × Addr × V)} {vs : List D}, Paired (fun (p : NestedKey × Addr × V) (q : NestedKey × Addr × Value) => p.1 = q.1 ∧ p.2.1 = q.2.1 ∧ RelV p.2.2 q.2.2) xs ys → (∀ p ∈ xs, NkOk p.1) → DaAll K A H (xs.map fun p => p.2.2) vs →
    (∃ v d u b, atKey ys (nk k) = some (b, u) ∧ dGet (nks xs vs) k = some d ∧ RelV v u ∧ Da K A H v d) ∨ (atKey ys (nk k) = none ∧ dGet (nks xs vs) k = none) := by
  intro xs vs pr n h
  induction pr generalizing vs with
  | nil => cases h; exact .inr ⟨rfl, rfl⟩
  | @cons p q ps qs hq t ih =>
    cases h with
    | @cons _ _ d ds h1 h2 =>
      have n1 := n p List.mem_cons_self
      have e0 : keq p.1.data k = decide (p.1 = nk k) := keq_dataR n1.tx
      by_cases e : p.1 = nk k
      · refine .inl ⟨p.2.2, d, q.2.2, q.2.1, ?_, ?_, hq.2.2, h1⟩
        · simp [atKey, List.find?_cons, ← hq.1, e]
        · have e0' : keq p.1.data k = true := by rw [e0]; simp [e]
          simp only [dGet, nks, List.map_cons, List.zip_cons_cons, List.find?_cons, e0']
          rfl
      · have e1 : atKey (q :: qs) (nk k) = atKey qs (nk k) := by simp [atKey, List.find?_cons, ← hq.1, e]
        have e2 : dGet (nks (p :: ps) (d :: ds)) k = dGet (nks ps ds) k := by simp [dGet, nks, List.find?_cons, e0, e]
        rw [e1, e2]
        exact ih (fun p hp => n p (List.mem_cons_of_mem _ hp)) h2
theorem DaAll.map_len {α : Type} {f : α → V} {xs : List α} {vs : List D} (h : DaAll K A H (xs.map f) vs) : xs.length = vs.length := by
  have := h.length
  rwa [List.length_map] at this
end
section
variable {X : Cx} {pins : List (Addr × Obj)} {σ : L2.St} {H : Hp} {s : Shared} {a : Addr} {K : PySem.W.Frag} {A : Addr → Prop} {kvs : List (D × D)} {y v : V} {k : D} {u r : Value} {B : Around} {E : Value → Shared → Prop}
theorem room8 (hu : B.units + 12 < cLine) : (nestedKind X.prog X.w).room B.in1 := by
  show B.in1.units + 8 < cLine
  have : B.in1.units = B.units + 1 := rfl
  omega
/-- an empty dict of either sort -/
theorem dk_nil (I : Inv X pins σ H s) (e : Rd H a (.dK [])) : (a == sysModules) = false ∧ s.heap.DictOfH (nestedKind X.prog X.w) a [] := by
  obtain ⟨_, hd, vs, rel, o, es, ep, g1, g2, g3, g4⟩ := dk_rd I.hok e
  cases rel
  refine ⟨hd, o, es, ep, g1, g2, g3, ?_, (fun x hx => nomatch hx), List.nodup_nil⟩
  have := g4.2.1.length
  have e0 : es.toList = [] := List.eq_nil_of_length_eq_zero (by simpa using this)
  rw [e0]
  rfl
/-- what is known of the dict at a: ints, or tuples (or empty) -/
theorem dic_split (I : Inv X pins σ H s) (g : DicR K A H a kvs) (ko : KOk kvs k) (hy : Da K A H y k) :
    (∃ xs vs i, Rd H a (.dK (ikv xs)) ∧ DaAll K A H (xs.map Prod.snd) vs ∧ kvs = iks xs vs ∧ y = .int i ∧ k = .int i) ∨
    (∃ xs ys vs b, y = .ref b ∧ (a == sysModules) = false ∧ xs.length ≤ sizeLine ∧ (∀ p ∈ xs, NkOk p.1) ∧ NkOk (nk k) ∧ isK k = true ∧ (nestedKind X.prog X.w).is s.heap (nk k) b ∧ Paired (fun (p : NestedKey × Addr × V) (q : NestedKey × Addr × Value) => p.1 = q.1 ∧ p.2.1 = q.2.1 ∧ RelV p.2.2 q.2.2) xs ys ∧
      s.heap.DictOfH (nestedKind X.prog X.w) a ys ∧ DaAll K A H (xs.map fun p => .ref p.2.1) (xs.map fun p => p.1.data) ∧ DaAll K A H (xs.map fun p => p.2.2) vs ∧ kvs = nks xs vs ∧ (Rd H a (DxO a xs) ∨ (Rd H a (.dK []) ∧ xs = []))) := by
  cases ko with
  | @int i hall =>
    cases hy
    rcases g with ⟨xs, vs, h1, h2, h3⟩ | ⟨xs, vs, h1, h2, h3, h4⟩
    · exact .inl ⟨xs, vs, i, h1, h2, h3, rfl, rfl⟩
    · obtain ⟨g1, g2, g3, ys, pr, dd⟩ := dx_of I.hok h1 h2
      cases xs with
      | nil =>
        obtain ⟨⟨_, _, ⟨z, _⟩, _⟩, _⟩ := (show ObjOk X.prog X.w H s.heap a (DxO a []) from rd_of I.hok h1)
        exact absurd z (by simp)
      | cons p r =>
        cases h3 with
        | cons d1 d2 =>
          obtain ⟨j, e⟩ := hall _ (by rw [h4]; exact List.mem_cons_self)
          obtain ⟨ks, e2⟩ := (g3 p List.mem_cons_self).tu
          simp [e2, NestedKey.data] at e
  | @tup ks hk hdp hall =>
    have hkK : isK (.tuple ks) = true := by simpa [isK] using hk
    have hno : NkOk (nk (.tuple ks)) := ⟨nk_tx _, by
      have := nkl_depth ks
      simp only [nk, NestedKey.depth]
      omega, ⟨nkl ks, by simp only [nk]⟩⟩
    cases hy with
    | @tup b ys0 ds0 t1 t2 t3 =>
      have his : (nestedKind X.prog X.w).is s.heap (nk (.tuple ks)) b := ⟨Da.nested I.hok (.tup t1 t2 t3) hkK rfl, hno.dp⟩
      rcases g with ⟨xs, vs, h1, h2, h3⟩ | ⟨xs, vs, h1, h2, h3, h4⟩
      · cases xs with
        | nil =>
          cases h2
          obtain ⟨hd, dd⟩ := dk_nil I h1
          exact .inr ⟨[], [], [], b, rfl, hd, Nat.zero_le _, (fun p hp => nomatch hp), hno, hkK, his, .nil, dd, .nil, .nil, h3, .inr ⟨h1, rfl⟩⟩
        | cons p r =>
          cases h2 with
          | cons d1 d2 =>
            obtain ⟨ks', e⟩ := hall _ (by rw [h3]; exact List.mem_cons_self)
            cases e
      · obtain ⟨g1, g2, g3, ys, pr, dd⟩ := dx_of I.hok h1 h2
        exact .inr ⟨xs, ys, vs, b, rfl, g2, g1, g3, hno, hkK, his, pr, dd, h2, h3, h4, .inl h1⟩
theorem dic_type (I : Inv X pins σ H s) (g : DicR K A H a kvs) : s.TypeIs (.ref a) "dict" := by
  rcases g with ⟨xs, vs, h1, h2, h3⟩ | ⟨xs, vs, h1, h2, h3, h4⟩
  · obtain ⟨_, _, vs, _, dd⟩ := dk_rd I.hok h1
    exact dd.typeIs
  · obtain ⟨g1, g2, g3, ys, pr, dd⟩ := dx_of I.hok h1 h2
    exact dd.typeIs
/-- d[y], there -/
theorem dic_getItem {d : D} {Q : Value → Shared → Prop} (hu : B.units + 12 < cLine) (I : Inv X pins σ H s) (g : DicR K A H a kvs) (ko : KOk kvs k) (hy : Da K A H y k) (ry : RelV y u) (hv : dGet kvs k = some d)
    (h : ∀ v w' s', Inv X pins σ H s' → Da K A H v d → RelV v w' → Q w' s') : wpAny (model X.prog X.w) B (getItem (.ref a) u) Q E s := by
  rcases dic_split I g ko hy with ⟨xs, vs, i, h1, h2, h3, rfl, rfl⟩ | ⟨xs, ys, vs, b, rfl, h1, _, h3, _, h4, h5, h6, h7, h8, h9, h10, _⟩
  · subst h3
    rcases iget (i := i) h2 with ⟨v, d', e1, e2, hd⟩ | ⟨_, e2⟩
    · rw [hv] at e2
      cases e2
      exact d_getItem (by omega) I (.inl ⟨_, .inl i, h1, rfl, e1.symm⟩) ry fun w' s' I' r' => h v w' s' I' hd r'
    · rw [hv] at e2; cases e2
  · subst h10
    cases (show u = Value.ref b from ry)
    rcases nget (k := k) h6 h3 h9 with ⟨v, d', uu, bb, e1, e2, rr, hd⟩ | ⟨_, e2⟩
    · rw [hv] at e2
      cases e2
      exact wpAny_getItem_heap (room8 hu) h5 h7 e1 (h v uu _ (I.tok _) hd rr)
    · rw [hv] at e2; cases e2
/-- y in d -/
theorem dic_in {Q : Value → Shared → Prop} (hu : B.units + 12 < cLine) (I : Inv X pins σ H s) (g : DicR K A H a kvs) (ko : KOk kvs k) (hy : Da K A H y k) (ry : RelV y u)
    (h : ∀ s', Inv X pins σ H s' → Q (.bool (dGet kvs k).isSome) s') : wpAny (model X.prog X.w) B (compareOp .In u (.ref a)) Q E s := by
  rcases dic_split I g ko hy with ⟨xs, vs, i, h1, h2, h3, rfl, rfl⟩ | ⟨xs, ys, vs, b, rfl, h1, _, h3, _, h4, h5, h6, h7, h8, h9, h10, _⟩
  · subst h3
    refine d_in (o := valV (ikv xs) (.inl i)) (by omega) I (.inl ⟨_, .inl i, h1, rfl, rfl⟩) ry fun s' I' => ?_
    rcases iget (i := i) h2 with ⟨v, d', e1, e2, hd⟩ | ⟨e1, e2⟩
    · have q := h s' I'; rw [e2] at q; rw [e1]; exact q
    · have q := h s' I'; rw [e2] at q; rw [e1]; exact q
  · subst h10
    cases (show u = Value.ref b from ry)
    refine wpAny_in_heap (room8 hu) h5 h1 h7 ?_
    rcases nget (k := k) h6 h3 h9 with ⟨v, d', uu, bb, e1, e2, rr, hd⟩ | ⟨e1, e2⟩
    · have q := h; rw [e2] at q; rw [e1]; exact q _ (I.tok _)
    · have q := h; rw [e2] at q; rw [e1]; exact q _ (I.tok _)
theorem dic_notIn {Q : Value → Shared → Prop} (hu : B.units + 12 < cLine) (I : Inv X pins σ H s) (g : DicR K A H a kvs) (ko : KOk kvs k) (hy : Da K A H y k) (ry : RelV y u)
    (h : ∀ s', Inv X pins σ H s' → Q (.bool (!(dGet kvs k).isSome)) s') : wpAny (model X.prog X.w) B (compareOp .NotIn u (.ref a)) Q E s := by
  rcases dic_split I g ko hy with ⟨xs, vs, i, h1, h2, h3, rfl, rfl⟩ | ⟨xs, ys, vs, b, rfl, h1, _, h3, _, h4, h5, h6, h7, h8, h9, h10, _⟩
  · subst h3
    refine d_notIn (o := valV (ikv xs) (.inl i)) (by omega) I (.inl ⟨_, .inl i, h1, rfl, rfl⟩) ry fun s' I' => ?_
    rcases iget (i := i) h2 with ⟨v, d', e1, e2, hd⟩ | ⟨e1, e2⟩
    · have q := h s' I'; rw [e2] at q; rw [e1]; exact q
    · have q := h s' I'; rw [e2] at q; rw [e1]; exact q
  · subst h10
    cases (show u = Value.ref b from ry)
    refine wpAny_notIn_heap (room8 hu) h5 h1 h7 ?_
    rcases nget (k := k) h6 h3 h9 with ⟨v, d', uu, bb, e1, e2, rr, hd⟩ | ⟨e1, e2⟩
    · have q := h; rw [e2] at q; rw [e1]; exact q _ (I.tok _)
    · have q := h; rw [e2] at q; rw [e1]; exact q _ (I.tok _)
end
end DW

set_option Elab.async false
set_option linter.all false
set_option maxRecDepth 100000
set_option maxHeartbeats 2000000
namespace DW
open PySem PySem.Spec PyProof.Rows L2
abbrev PRel : NestedKey × Addr × V → NestedKey × Addr × Value → Prop := fun p q => p.1 = q.1 ∧ p.2.1 = q.2.1 ∧ RelV p.2.2 q.2.2
section
variable {K : PySem.W.Frag} {A : Addr → Prop} {H : Hp}
/-! ### stores: ints as keys -/
def irep (i : Int) (v : V) (xs : List (Int × V)) : List (Int × V) := xs.map fun p => if p.1 = i then (p.1, v) else p
def irepD (i : Int) (d : D) : List (Int × V) → List D → List D
  | p :: xs, w :: ws => (if p.1 = i then d else w) :: irepD i d xs ws
  | _, _ => []
theorem iput_any : ∀ {xs : List (Int × V)} {vs : List D} {i : Int}, DaAll K A H (xs.map Prod.snd) vs → ((ikv xs).any fun p => decide (p.1 = .inl i)) = (iks xs vs).any fun p => keq p.1 (.int i)
  | [], _, i, h => by cases h; rfl
  | p :: xs, _, i, h => by
    cases h with
    | cons h1 h2 =>
      have e : decide ((Sum.inl p.1 : Key) = Sum.inl i) = decide (p.1 = i) := decide_eq_decide.mpr ⟨fun h => Sum.inl.inj h, fun h => by rw [h]⟩
      have := iput_any (i := i) h2
      simp only [ikv, iks, List.map_cons, List.zip_cons_cons, List.any_cons, keq_ints, e] at this ⊢
      rw [this]
theorem irep_k (i : Int) (v : V) : ∀ xs : List (Int × V), ((ikv xs).map fun kv => if kv.1 = (.inl i : Key) then (kv.1, v) else kv) = ikv (irep i v xs)
  | [] => rfl
  | p :: xs => by
    have := irep_k i v xs
    simp only [ikv, irep, List.map_cons] at this ⊢
    rw [this]
    by_cases e : p.1 = i
    · rw [if_pos e, if_pos (by rw [e])]
    · rw [if_neg e, if_neg (fun z => e (Sum.inl.inj z))]
theorem irep_d (i : Int) (v : V) (d : D) : ∀ (xs : List (Int × V)) (vs : List D), DaAll K A H (xs.map Prod.snd) vs → Da K A H v d →
    DaAll K A H ((irep i v xs).map Prod.snd) (irepD i d xs vs) ∧ ((iks xs vs).map fun p => if keq p.1 (.int i) = true then (p.1, d) else p) = iks (irep i v xs) (irepD i d xs vs)
  | [], _, h, _ => by cases h; exact ⟨.nil, rfl⟩
  | p :: xs, _, h, hd => by
    cases h with
    | @cons _ _ w ws h1 h2 =>
      obtain ⟨r1, r2⟩ := irep_d i v d xs ws h2 hd
      simp only [iks, irep, irepD, List.map_cons, List.zip_cons_cons, keq_ints] at r1 r2 ⊢
      rw [r2]
      by_cases e : p.1 = i
      · simp only [e, if_true, decide_true]
        exact ⟨.cons hd r1, trivial⟩
      · simp only [e, if_false, decide_false, Bool.false_eq_true]
        exact ⟨.cons h1 r1, trivial⟩
theorem iput {xs : List (Int × V)} {vs : List D} {i : Int} {v : V} {d : D} (h : DaAll K A H (xs.map Prod.snd) vs) (hd : Da K A H v d) :
    ∃ xs' vs', putK (ikv xs) (.inl i) v = ikv xs' ∧ DaAll K A H (xs'.map Prod.snd) vs' ∧ dPut (iks xs vs) (.int i) d = iks xs' vs' := by
  unfold putK dPut
  rw [iput_any h]
  by_cases q : ((iks xs vs).any fun p => keq p.1 (.int i)) = true
  · rw [if_pos q, if_pos q]
    obtain ⟨r1, r2⟩ := irep_d i v d xs vs h hd
    exact ⟨_, _, irep_k i v xs, r1, r2⟩
  · rw [if_neg q, if_neg q]
    refine ⟨xs ++ [(i, v)], vs ++ [d], by simp [ikv], ?_, ?_⟩
    · rw [List.map_append]
      exact h.append (.cons hd .nil)
    · unfold iks
      rw [List.map_append, List.zip_append (by rw [List.length_map]; exact h.map_len)]
      rfl
/-! tuples as keys -/
def nrep (k : NestedKey) (v : V) (xs : List (NestedKey × Addr × V)) : List (NestedKey × Addr × V) := xs.map fun p => if p.1 = k then (p.1, p.2.1, v) else p
def nrepD (k : NestedKey) (d : D) : List (NestedKey × Addr × V) → List D → List D
  | p :: xs, w :: ws => (if p.1 = k then d else w) :: nrepD k d xs ws
  | _, _ => []
theorem nput_any {k : D} {xs : List (NestedKey × Addr × V)} {ys : List (NestedKey × Addr × Value)} (pr : Paired PRel xs ys) : ∀ {vs : List D}, (∀ p ∈ xs, NkOk p.1) → DaAll K A H (xs.map fun p => p.2.2) vs → ((nks xs vs).any fun p => keq p.1 k) = (atKey ys (nk k)).isSome := by
  induction pr with
  | nil => intro vs n h; cases h; rfl
  | @cons p q ps qs hq t ih =>
    intro vs n h
    cases h with
    | cons h1 h2 =>
      have := ih (fun p hp => n p (List.mem_cons_of_mem _ hp)) h2
      have e0 := keq_dataR (b := k) (n p List.mem_cons_self).tx
      simp only [nks, List.map_cons, List.zip_cons_cons, List.any_cons, e0] at this ⊢
      rw [this]
      by_cases e : p.1 = nk k
      · simp [atKey, List.find?_cons, ← hq.1, e]
      · simp [atKey, List.find?_cons, ← hq.1, e]
theorem nrep_d {k : D} {v : V} {r : Value} {d : D} (rv : RelV v r) (hd : Da K A H v d) {xs : List (NestedKey × Addr × V)} {ys : List (NestedKey × Addr × Value)} (pr : Paired PRel xs ys) : ∀ {vs : List D}, (∀ p ∈ xs, NkOk p.1) → DaAll K A H (xs.map fun p => p.2.2) vs →
    Paired PRel (nrep (nk k) v xs) (ys.map (putAt (nk k) r)) ∧ (∀ p ∈ nrep (nk k) v xs, NkOk p.1) ∧ DaAll K A H ((nrep (nk k) v xs).map fun p => p.2.2) (nrepD (nk k) d xs vs) ∧
    ((nks xs vs).map fun p => if keq p.1 k = true then (p.1, d) else p) = nks (nrep (nk k) v xs) (nrepD (nk k) d xs vs) ∧ (nrep (nk k) v xs).map (fun p => V.ref p.2.1) = xs.map (fun p => V.ref p.2.1) ∧ (nrep (nk k) v xs).map (fun p => p.1.data) = xs.map fun p => p.1.data := by
  induction pr with
  | nil => intro vs n h; cases h; exact ⟨.nil, (fun p hp => nomatch hp), .nil, rfl, rfl, rfl⟩
  | @cons p q ps qs hq t ih =>
    intro vs n h
    cases h with
    | @cons _ _ w ws h1 h2 =>
      obtain ⟨a1, a2, a3, a4, a5, a6⟩ := ih (fun p hp => n p (List.mem_cons_of_mem _ hp)) h2
      have e0 := keq_dataR (b := k) (n p List.mem_cons_self).tx
      by_cases e : p.1 = nk k
      · have e2 : q.1 = nk k := hq.1.symm.trans e
        have e0' : keq p.1.data k = true := by rw [e0]; exact decide_eq_true e
        simp only [nks, nrep, nrepD, List.map_cons, List.zip_cons_cons, e0', putAt, if_pos e, if_pos e2, if_true] at a1 a2 a3 a4 a5 a6 ⊢
        rw [a4, a5, a6]
        refine ⟨.cons ⟨hq.1, hq.2.1, rv⟩ a1, ?_, .cons hd a3, rfl, rfl, rfl⟩
        intro p' hp'
        rcases List.mem_cons.mp hp' with z | z
        · rw [z]; exact n p List.mem_cons_self
        · exact a2 p' z
      · have e2 : ¬ q.1 = nk k := fun z => e (hq.1.trans z)
        have e0' : keq p.1.data k = false := by rw [e0]; exact decide_eq_false e
        simp only [nks, nrep, nrepD, List.map_cons, List.zip_cons_cons, e0', putAt, if_neg e, if_neg e2, Bool.false_eq_true, if_false] at a1 a2 a3 a4 a5 a6 ⊢
        rw [a4, a5, a6]
        refine ⟨.cons hq a1, ?_, .cons h1 a3, rfl, rfl, rfl⟩
        intro p' hp'
        rcases List.mem_cons.mp hp' with z | z
        · rw [z]; exact n p List.mem_cons_self
        · exact a2 p' z
theorem nput {k : D} {b : Addr} {v : V} {r : Value} {d : D} {xs : List (NestedKey × Addr × V)} {ys : List (NestedKey × Addr × Value)} {vs : List D} (pr : Paired PRel xs ys) (n : ∀ p ∈ xs, NkOk p.1) (nkk : NkOk (nk k)) (ik : isK k = true)
    (hk : DaAll K A H (xs.map fun p => .ref p.2.1) (xs.map fun p => p.1.data)) (h : DaAll K A H (xs.map fun p => p.2.2) vs) (rv : RelV v r) (hd : Da K A H v d) (hb : Da K A H (.ref b) k) :
    ∃ xs' vs', Paired PRel xs' (storedH ys (nk k) b r) ∧ (∀ p ∈ xs', NkOk p.1) ∧ DaAll K A H (xs'.map fun p => .ref p.2.1) (xs'.map fun p => p.1.data) ∧ DaAll K A H (xs'.map fun p => p.2.2) vs' ∧ dPut (nks xs vs) k d = nks xs' vs' ∧ 0 < xs'.length ∧ xs'.length ≤ xs.length + 1 := by
  unfold storedH dPut
  have ea := nput_any (k := k) pr n h
  rw [ea]
  by_cases q : (atKey ys (nk k)).isSome = true
  · rw [if_pos q, if_pos q]
    obtain ⟨a1, a2, a3, a4, a5, a6⟩ := nrep_d (k := k) rv hd pr n h
    refine ⟨_, _, a1, a2, ?_, a3, a4, ?_, by simp [nrep]⟩
    · rw [a5, a6]; exact hk
    · cases pr with
      | nil => simp [atKey] at q
      | cons _ _ => simp [nrep]
  · rw [if_neg q, if_neg q]
    refine ⟨xs ++ [(nk k, b, v)], vs ++ [d], Paired.snoc pr ⟨rfl, rfl, rv⟩, ?_, ?_, ?_, ?_, by simp, by simp⟩
    · intro p hp
      rcases List.mem_append.mp hp with z | z
      · exact n p z
      · rw [List.mem_singleton.mp z]; exact nkk
    · rw [List.map_append, List.map_append]
      refine hk.append (.cons ?_ .nil)
      show Da K A H (.ref b) (nk k).data
      rw [nk_data k ik]; exact hb
    · rw [List.map_append]
      exact h.append (.cons hd .nil)
    · unfold nks
      rw [List.map_append, List.zip_append (by rw [List.length_map]; exact h.map_len)]
      show _ = _ ++ [((nk k).data, d)]
      rw [nk_data k ik]
end
section
variable {X : Cx} {pins : List (Addr × Obj)} {σ : L2.St} {H : Hp} {s : Shared} {a : Addr} {K : PySem.W.Frag} {A : Addr → Prop} {kvs : List (D × D)} {y v : V} {k d : D} {u r : Value} {B : Around} {E : Value → Shared → Prop}
theorem entries_kh {ys : List (NestedKey × Addr × Value)} : ∀ {xs : List (NestedKey × Addr × V)}, Paired PRel xs ys → (∀ p ∈ xs, NkOk p.1) → ys.map (entryOfKey (nestedKind X.prog X.w)) = ys.map (fun x => (⟨kh x.1, .ref x.2.1, x.2.2⟩ : DictEntry)) := by
  intro xs q
  induction q with
  | nil => intro _; rfl
  | @cons p q ps qs hq t ih =>
    intro n
    rw [List.map_cons, List.map_cons, ih fun p hp => n p (List.mem_cons_of_mem _ hp)]
    have e : (nestedKind X.prog X.w).hash q.1 = kh q.1 := hash_kh X.w q.1 (by rw [← hq.1]; exact (n p List.mem_cons_self).tx)
    unfold entryOfKey
    rw [e]
theorem dic_setItem {Q : Unit → Shared → Prop} (hu : B.units + 12 < cLine) (I : Inv X pins σ H s) (g : DicW K A H a kvs) (ko : KOk kvs k) (hy : Da K A H y k) (ry : RelV y u) (hv : Da K A H v d) (rv : RelV v r) (hA : A a) (hl : kvs.length < 100000)
    (h : ∀ o' s', ¬ IsM o' → DicW K A (upd H a o') a (dPut kvs k d) → Inv X pins σ (upd H a o') s' → Q () s') : wpAny (model X.prog X.w) B (setItem (.ref a) u r) Q E s := by
  rcases dic_split I g.rd ko hy with ⟨xs, vs, i, h1, h2, h3, rfl, rfl⟩ | ⟨xs, ys, vs, b, rfl, h1, hz, h3, hn, h4, h5, h6, h7, h8, h9, h10, h11⟩
  · have e1 : H a = some (.dK (ikv xs)) := by
      rcases g with ⟨xs', vs', g1, _⟩ | ⟨xs', vs', g1, _⟩
      · rcases h1 with z | ⟨o, z⟩
        · exact z
        · rw [g1] at z; cases z
      · rcases h1 with z | ⟨o, z⟩
        · rw [g1] at z; exact nomatch z
        · rw [g1] at z; exact nomatch z
    obtain ⟨xs', vs', q1, q2, q3⟩ := iput (i := i) h2 hv
    have hlen : (ikv xs).length < sizeLine := by
      rw [h3] at hl
      have e2 : (ikv xs).length = (iks xs vs).length := by simp [ikv, iks, h2.map_len]
      rw [e2]
      exact szLt hl
    refine d_setItem (by omega) I (.inl ⟨_, .inl i, e1, rfl, hlen, rfl⟩) ry rv fun s' I' => ?_
    have g0 : Goes A A H (upd H a (.dK (putK (ikv xs) (.inl i) v))) := goes_putO e1 isM_ikv hA
    refine h _ s' (by rw [q1]; exact isM_ikv) (.inl ⟨xs', vs', by rw [q1]; exact upd_same, q2.goes g0, by rw [h3]; exact q3⟩) I'
  · have e1 : (∃ o, H a = some o ∧ ¬ IsM o) ∧ Mut (H a) := by
      rcases g with ⟨xs', vs', g1, _⟩ | ⟨xs', vs', g1, _⟩
      · exact ⟨⟨_, g1, isM_ikv⟩, by rw [g1]; exact trivial⟩
      · exact ⟨⟨_, g1, isM_dx⟩, by rw [g1]; exact trivial⟩
    obtain ⟨⟨o, eo, mo⟩, mu⟩ := e1
    cases (show u = Value.ref b from ry)
    have hzy : ys.length ≤ sizeLine := by rw [← Paired.length h6]; exact hz
    obtain ⟨xs', vs', q1, q2, q3, q4, q5, q6, q7⟩ := nput (k := k) (b := b) h6 h3 hn h4 h8 h9 rv hv hy
    have hlen : xs'.length ≤ sizeLine := by
      have e2 : xs.length = kvs.length := by rw [h10]; simp [nks, h9.map_len]
      exact szOf (by omega)
    refine wpAny_setItem_heap (hsz := hzy) (room8 hu) h5 h7 fun h' dd' hs => ?_
    obtain ⟨q, es, ep, hq, g2, g3, g4, _, g5⟩ := dd'
    have g0 : Goes A A H (upd H a (DxO a xs')) := goes_putO eo mo hA
    refine h _ _ isM_dx (.inr ⟨xs', vs', upd_same, q3.goes g0, q4.goes g0, by rw [h10]; exact q5⟩) (d_write (ob := DxO a xs') I mu hs ⟨q, hq⟩ ?_)
    refine ⟨⟨hlen, h1, ⟨q6, q2⟩, _, q1, q, es, ep, hq, g2, g3, ?_, g5⟩, ⟨q, hq⟩, fun h1 h2 ⟨f1, f2, f3, zs, f4, o3, es3, ep3, f5, f6⟩ keep => ⟨f1, f2, f3, zs, f4, o3, es3, ep3, keep _ f5, f6⟩⟩
    rw [g4]
    exact entries_kh q1 q2
end
end DW

set_option Elab.async false
set_option linter.all false
set_option maxRecDepth 100000
set_option maxHeartbeats 2000000
namespace DW
open PySem PySem.Spec PyProof.Rows L2
/-! ### rules: d[k], k in d -/
abbrev WDi := Rho → Nat → (List (D × D) → Nat → Prop) → Prop
/-- a dict that is read -/
def tDi (K : PySem.W.Frag) (w : WDi) : TE := fun σ H Q => ∃ (N A : Addr → Prop) (H0 : Hp) (ρ : Rho) (u : Nat) (Qd : List (D × D) → Nat → Prop), Rel K N A H0 σ H ρ u ∧ w ρ u Qd ∧
  ∀ a H' kvs u', Step H H' → MInv A u' K H' → DicR K A H' a kvs → Qd kvs u' → Q (.ref a) H'
@[simp] def wDiO (i : Nat) : WDi := fun ρ u Q => ∃ kvs, ρ[i]? = some (some (SV.dic kvs)) ∧ Q kvs u
@[simp] def wDiD (w : WE) : WDi := fun ρ u Q => w ρ u fun d u1 => ∃ kvs, d = xD kvs ∧ Q kvs u1
def tXGet (K : PySem.W.Frag) (td ty : TE) : TE := fun σ H Q => td σ H fun x H1 => ty σ H1 fun y H2 => ∃ A a kvs k d, x = .ref a ∧ DicR K A H2 a kvs ∧ KOk kvs k ∧ Da K A H2 y k ∧ dGet kvs k = some d ∧ ∀ v, Da K A H2 v d → Q v H2
def tXIn (K : PySem.W.Frag) (g : Bool → Bool) (ty td : TE) : TE := fun σ H Q => ty σ H fun y H1 => td σ H1 fun x H2 => ∃ A a kvs k, x = .ref a ∧ DicR K A H2 a kvs ∧ KOk kvs k ∧ Da K A H2 y k ∧ Q (.bl (g (dGet kvs k).isSome)) H2
section
variable {X : Cx} {o i e : Expr} {pos : Pos} {td ty : TE}
theorem pe_xget (hu : X.A.units + 12 < cLine) (ho : PE X o td) (hi : PE X i ty) (hs : NoSl i) : PE X (.Subscript o i pos) (tXGet X.K td ty) := by
  refine ⟨fun pins s σ H Q I h => ?_⟩
  refine subD_of PySem.F.slot_dict_getitem.lookup hs (thn (ho.run pins s σ H _ I h) fun u s1 ⟨x, H1, I1, rx, q1⟩ => thn (hi.run pins s1 σ H1 _ I1 q1) fun iv s2 ⟨y, H2, I2, ry, A, a, kvs, k, d, ex, g, ko, hy, hv, q2⟩ => ?_)
  subst ex
  obtain rfl : u = Value.ref a := rx
  exact ⟨dic_type I2 g, dic_getItem hu I2 g ko hy ry hv fun v w' s3 I3 hd rw' => ⟨v, H2, I3, rw', q2 v hd⟩⟩
theorem pc_xin (hu : X.A.units + 12 < cLine) (hi : PE X i ty) (ho : PE X o td) : PC X .In i o (tXIn X.K id ty td) := by
  refine ⟨fun pins s σ H Q I h => ?_⟩
  refine thn (hi.run pins s σ H _ I h) fun iv s1 ⟨y, H1, I1, ry, q1⟩ => thn (ho.run pins s1 σ H1 _ I1 q1) fun u s2 ⟨x, H2, I2, rx, A, a, kvs, k, ex, g, ko, hy, q2⟩ => ?_
  subst ex
  obtain rfl : u = Value.ref a := rx
  exact dic_in hu I2 g ko hy ry fun s3 I3 => ⟨.bl _, H2, I3, rfl, q2⟩
theorem pc_xnotin (hu : X.A.units + 12 < cLine) (hi : PE X i ty) (ho : PE X o td) : PC X .NotIn i o (tXIn X.K not ty td) := by
  refine ⟨fun pins s σ H Q I h => ?_⟩
  refine thn (hi.run pins s σ H _ I h) fun iv s1 ⟨y, H1, I1, ry, q1⟩ => thn (ho.run pins s1 σ H1 _ I1 q1) fun u s2 ⟨x, H2, I2, rx, A, a, kvs, k, ex, g, ko, hy, q2⟩ => ?_
  subst ex
  obtain rfl : u = Value.ref a := rx
  exact dic_notIn hu I2 g ko hy ry fun s3 I3 => ⟨.bl _, H2, I3, rfl, q2⟩
/-! over data -/
theorem pdO {i : Nat} {e : Expr} (h : PE X e (tVar i)) : PE X e (tDi X.K (wDiO i)) := PEi h fun σ H Q ⟨N, A, H0, ρ, u, Qd, R, ⟨kvs, e, hw⟩, k⟩ => by
  obtain ⟨a, h1, h2, _⟩ := R.ob i _ e
  exact ⟨.ref a, h1, k a H kvs u (Step.refl H) R.minv (DicW.rd h2) hw⟩
theorem pdD {e : Expr} {w : WE} (h : PE X e (tD X.K w)) : PE X e (tDi X.K (wDiD w)) := PEi h fun σ H Q ⟨N, A, H0, ρ, u, Qd, R, hw, k⟩ =>
  ⟨N, A, H0, ρ, u, _, R, hw, fun v H1 d u1 s1 m1 hd ⟨kvs, e, q⟩ => by
    subst e
    obtain ⟨a, rfl, g⟩ := hd.dicR
    exact k a H1 kvs u1 s1 m1 g q⟩
@[simp] def wDGet (wd : WDi) (wk : WE) : WE := fun ρ u Q => wd ρ u fun kvs u1 => wk ρ u1 fun k u2 => KOk kvs k ∧ ∃ d, dGet kvs k = some d ∧ Q d u2
theorem pDGet {o i : Expr} {pos : Pos} {wd : WDi} {wk : WE} (hu : X.A.units + 65 < cLine) (ho : PE X o (tDi X.K wd)) (hi : PE X i (tD X.K wk)) (hs : NoSl i := by exact fun _ _ => rfl) : PE X (.Subscript o i pos) (tD X.K (wDGet wd wk)) :=
  PEi (pe_xget (by omega) ho hi hs) fun σ H Q ⟨N, A, H0, ρ, u, Qd, R, hw, k⟩ => ⟨N, A, H0, ρ, u, _, R, hw, fun a H1 kvs u1 s1 m1 g q1 => ⟨N, A, H0, ρ, u1, _, R.go s1 m1, q1, fun y H2 kd u2 s2 m2 hy ⟨ko, d, hv, q2⟩ =>
    ⟨A, a, kvs, kd, d, rfl, g.step s2, ko, hy, hv, fun v hd => k v H2 d u2 (s1.trans s2) m2 hd q2⟩⟩⟩
@[simp] def wDIn (g : Bool → Bool) (wk : WE) (wd : WDi) : WE := fun ρ u Q => wk ρ u fun k u1 => wd ρ u1 fun kvs u2 => KOk kvs k ∧ Q (.bool (g (dGet kvs k).isSome)) u2
theorem xin_imp {K : PySem.W.Frag} {g : Bool → Bool} {wk : WE} {wd : WDi} : ∀ σ H Q, tD K (wDIn g wk wd) σ H Q → tXIn K g (tD K wk) (tDi K wd) σ H Q := fun σ H Q ⟨N, A, H0, ρ, u, Qd, R, hw, k⟩ =>
  ⟨N, A, H0, ρ, u, _, R, hw, fun y H1 kd u1 s1 m1 hy q1 => ⟨N, A, H0, ρ, u1, _, R.go s1 m1, q1, fun a H2 kvs u2 s2 m2 gg ⟨ko, q2⟩ =>
    ⟨A, a, kvs, kd, rfl, gg, ko, hy.goes s2.goes, k _ H2 _ u2 (s1.trans s2) m2 (.bl _) q2⟩⟩⟩
theorem pDIn {i o : Expr} {wd : WDi} {wk : WE} (hu : X.A.units + 65 < cLine) (hi : PE X i (tD X.K wk)) (ho : PE X o (tDi X.K wd)) (hm : behindInMarks .In o = false := by rfl) : PE X (.Compare i [.In] [o] pos) (tD X.K (wDIn id wk wd)) :=
  PEi (pe_cmp (pc_xin (by omega) hi ho) hm) xin_imp
theorem pDNotIn {i o : Expr} {wd : WDi} {wk : WE} (hu : X.A.units + 65 < cLine) (hi : PE X i (tD X.K wk)) (ho : PE X o (tDi X.K wd)) (hm : behindInMarks .NotIn o = false := by rfl) : PE X (.Compare i [.NotIn] [o] pos) (tD X.K (wDIn not wk wd)) :=
  PEi (pe_cmp (pc_xnotin (by omega) hi ho) hm) xin_imp
theorem ptDIn {i o : Expr} {wd : WDi} {wk : WE} (hu : X.A.units + 65 < cLine) (hi : PE X i (tD X.K wk)) (ho : PE X o (tDi X.K wd)) (hm : behindInMarks .In o = false := by rfl) : PT X (.Compare i [.In] [o] pos) (tTe X.K (wTst (wDIn id wk wd))) :=
  PTi (pt_cmp (pc_xin (by omega) hi ho) hm) fun σ H Q ⟨N, A, H0, ρ, u, Qd, R, hw, k⟩ => xin_imp σ H _ ⟨N, A, H0, ρ, u, _, R, hw, fun v H' d u' s m hd ⟨b, e, q⟩ => ⟨b, by subst e; cases hd; rfl, k b H' u' s m q⟩⟩
theorem ptDNotIn {i o : Expr} {wd : WDi} {wk : WE} (hu : X.A.units + 65 < cLine) (hi : PE X i (tD X.K wk)) (ho : PE X o (tDi X.K wd)) (hm : behindInMarks .NotIn o = false := by rfl) : PT X (.Compare i [.NotIn] [o] pos) (tTe X.K (wTst (wDIn not wk wd))) :=
  PTi (pt_cmp (pc_xnotin (by omega) hi ho) hm) fun σ H Q ⟨N, A, H0, ρ, u, Qd, R, hw, k⟩ => xin_imp σ H _ ⟨N, A, H0, ρ, u, _, R, hw, fun v H' d u' s m hd ⟨b, e, q⟩ => ⟨b, by subst e; cases hd; rfl, k b H' u' s m q⟩⟩
end
/-! ### d[k] = v -/
def sXPut (K : PySem.W.Frag) (td ty tv : TE) : TS := fun D σ H => tv σ H fun v H1 => td σ H1 fun x H2 => ty σ H2 fun y H3 => ∃ A a kvs k d, x = .ref a ∧ DicW K A H3 a kvs ∧ A a ∧ KOk kvs k ∧ Da K A H3 y k ∧ Da K A H3 v d ∧ kvs.length < 100000 ∧
  ∀ o', ¬ IsM o' → DicW K A (upd H3 a o') a (dPut kvs k d) → D.nx σ (upd H3 a o')
section
variable {X : Cx} {W : XK}
theorem ps_xput {o i value : Expr} {pos pos' : Pos} {td ty tv : TE} (hu : X.A.units + 12 < cLine) (ho : PE X o td) (hi : PE X i ty) (hv : PE X value tv) (hs : swapsWith value (some (.Subscript o i pos')) pos.line X.env = pure false) :
    PS X (.Assign [.Subscript o i pos'] value pos) (sXPut X.K td ty tv) := by
  refine ⟨fun pins s σ H D I h => ?_⟩
  refine wpAny_Assign_Subscript (thn (hv.run pins s σ H _ I h) fun r s1 ⟨v, H1, I1, rv, q1⟩ => thn (ho.run pins s1 σ H1 _ I1 q1) fun u s2 ⟨x, H2, I2, rx, q2⟩ => thn (hi.run pins s2 σ H2 _ I2 q2) fun iv s3 ⟨y, H3, I3, ry, A, a, kvs, k, d, ex, g, hA, ko, hy, hd, hl, q3⟩ => ?_) hs
  subst ex
  obtain rfl : u = Value.ref a := rx
  exact dic_setItem hu I3 g ko hy ry hd rv hA hl fun o' s4 n gw I4 => ⟨σ, _, I4, q3 o' n gw⟩
@[simp] def wPutD (i : Nat) (wk wv : WE) : WS := fun F ρ u => ∃ kvs, ρ[i]? = some (some (SV.dic kvs)) ∧ wv ρ u fun v u1 => wk ρ u1 fun k u2 => KOk kvs k ∧ kvs.length < 100000 ∧ F.nx (ρ.set i (some (.dic (dPut kvs k v)))) u2
theorem psPutD {i : Nat} {o idx e : Expr} {pos pos' : Pos} {wk wv : WE} (hu : X.A.units + 65 < cLine) (ho : PE X o (tVar i)) (hi : PE X idx (tD X.K wk)) (hv : PE X e (tD X.K wv)) (hs : swapsWith e (some (.Subscript o idx pos')) pos.line X.env = pure false := by rfl) :
    PS X (.Assign [.Subscript o idx pos'] e pos) (tSx X.K W (wPutD i wk wv)) := PSi (ps_xput (by omega) ho hi hv hs) fun E σ H ⟨N, A, H0, ρ, u, F, R, ⟨kvs, e0, hw⟩, k1, k2, k3, k4, k5⟩ => by
  obtain ⟨a, h1, h2, h4, h5⟩ := R.ob i _ e0
  refine ⟨N, A, H0, ρ, u, _, R, hw, fun v H1 d u1 s1 m1 hd q1 => ⟨.ref a, h1, N, A, H0, ρ, u1, _, R.go s1 m1, q1, fun y H2 kd u2 s2 m2 hy ⟨ko, hl, q2⟩ => ?_⟩⟩
  have st := s1.trans s2
  refine ⟨A, a, kvs, kd, d, rfl, h2.step st, h4, ko, hy, hd.goes s2.goes, hl, fun o' n gw => ?_⟩
  have h2' : OwnAt X.K A H2 a (.dic kvs) := h2.step st
  obtain ⟨o, eo, mo⟩ := h2'.some
  exact k1 A σ _ _ u2 (st.goes.trans (goes_putO eo mo h4)) ((R.go st m2).putOb (c' := .dic (dPut kvs kd d)) e0 h1 h2' h4 h5 n gw) q2
/-! ### from here on a dict changes no more -/
@[simp] def wFrzD (i : Nat) (a : WS) : WS := fun F ρ u => ∃ kvs, ρ[i]? = some (some (SV.dic kvs)) ∧ a F (ρ.set i (some (.d (xD kvs)))) u
/-- a thing is locked for good -/
def tLockS (t : TS) : TS := fun D σ H => ∃ d u, H d = some u ∧ Mut (some u) ∧ ∀ od, t D σ (upd H d (.frz od u))
theorem pss_lockS {sts : List Stmt} {t : TS} (h : PSs X sts t) : PSs X sts (tLockS t) := by
  refine ⟨fun pins s σ H D I hw => ?_⟩
  obtain ⟨d, u, hd, mu, hw⟩ := hw
  obtain ⟨od, I1⟩ := I.lock hd mu
  exact h.run pins s σ _ D I1 (hw od)
theorem pssFrzD {sts : List Stmt} {i : Nat} {a : WS} (h : PSs X sts (tSx X.K W a)) : PSs X sts (tSx X.K W (wFrzD i a)) := PSsi (pss_lockS h) fun E σ H ⟨N, A, H0, ρ, u, F, R, ⟨kvs, e, hw⟩, k1, k2, k3, k4, k5⟩ => by
  obtain ⟨a, h1, h2, h4, h5⟩ := R.ob i _ e
  have key : ∀ (o : HO), H a = some o → ¬ IsM o → Mut (some o) → (∀ od, Da X.K (fun b => A b ∧ b ≠ a) (upd H a (.frz od o)) (.ref a) (xD kvs)) → tLockS (tSx X.K W ‹WS›) E σ H := fun o ho mo mu hx => by
    refine ⟨a, o, ho, mu, fun od => ?_⟩
    have g : Goes A (fun b => A b ∧ b ≠ a) H (upd H a (.frz od o)) := ⟨fun b z n hb _ => by rw [upd_ne (fun q => n (by rw [q]; exact h4))]; exact hb, fun b z hb m => by
      by_cases q : b = a
      · rw [q, ho] at hb; cases hb; exact absurd m mo
      · exact ⟨z, by rw [upd_ne q]; exact hb, m⟩, fun b hb => .inl hb.1⟩
    have st : Step H0 (upd H a (.frz od o)) := ⟨fun b z hb m => by rw [upd_ne (ne_of_none hb h5)]; exact R.step.keep b z hb m, fun b z hb m => by
      obtain ⟨o', h', m'⟩ := R.step.ms b z hb m
      exact ⟨o', by rw [upd_ne (ne_of_none hb h5)]; exact h', m'⟩⟩
    have mi : MInv (fun b => A b ∧ b ≠ a) u X.K (upd H a (.frz od o)) := (R.minv.putA (o := .frz od o) h4 (fun m => m)).less fun b _ hb => hb.1
    have R' := R.less e h1 h5 g st mi (fun b z nb hb _ => by rw [upd_ne nb]; exact hb) (fun b hb => by
      by_cases q : b = a
      · rw [q, upd_same]; simp
      · rw [upd_ne q]; exact R.trk b hb) (hx od)
    exact ⟨N, _, H0, _, u, F, R', hw, fun A1 σ' H' ρ' u' g' R' q => k1 A1 σ' H' ρ' u' (g.trans g') R' q, k2, fun A1 σ' H' ρ' u' g' R' q => k3 A1 σ' H' ρ' u' (g.trans g') R' q, fun A1 σ' H' ρ' u' g' R' q => k4 A1 σ' H' ρ' u' (g.trans g') R' q, k5⟩
  have gg : ∀ (o : HO) (od : Obj), H a = some o → ¬ IsM o → Goes A (fun b => A b ∧ b ≠ a) H (upd H a (.frz od o)) := fun o od ho mo => ⟨fun b z n hb _ => by rw [upd_ne (fun q => n (by rw [q]; exact h4))]; exact hb, fun b z hb m => by
      by_cases q : b = a
      · rw [q, ho] at hb; cases hb; exact absurd m mo
      · exact ⟨z, by rw [upd_ne q]; exact hb, m⟩, fun b hb => .inl hb.1⟩
  rcases h2 with ⟨xs, vs, g1, g2, g3⟩ | ⟨xs, vs, g1, g2, g3, g4⟩
  · refine key _ g1 isM_ikv trivial fun od => ?_
    rw [g3]
    exact .dctK upd_same (fun z => z.2 rfl) (g2.goes (gg _ od g1 isM_ikv))
  · refine key _ g1 isM_dx trivial fun od => ?_
    rw [g4]
    exact .dctN upd_same (fun z => z.2 rfl) (g2.goes (gg _ od g1 isM_dx)) (g3.goes (gg _ od g1 isM_dx))
end
end DW

set_option Elab.async false
set_option linter.all false
set_option maxRecDepth 100000
set_option maxHeartbeats 2000000
namespace DW
open PySem PySem.Spec PyProof.Rows L2
/-! ### walks over the keys -/
section
variable {X : Cx} {pins : List (Addr × Obj)} {σ : L2.St} {H : Hp} {s : Shared} {d : Addr} {o : Obj}
theorem frzN {xs : List (NestedKey × Addr × V)} (I : Inv X pins σ H s) (h : H d = some (.frz o (DxO d xs))) :
    (d == sysModules) = false ∧ s.heap.get? d = some o ∧ o.ExactDict ∧ ∃ (es : Array DictEntry) (ep : Nat), o.data = .dict es ep ∧ es.size = xs.length ∧
      ∀ (i : Nat) (p : NestedKey × Addr × V), xs[i]? = some p → ∃ en : DictEntry, es[i]? = some en ∧ en.key = .ref p.2.1 := by
  obtain ⟨hd, ⟨_, hs, _, ys, pr, o', es, ep, ho, hx, hdt, he, _⟩, _⟩ := (show ObjOk X.prog X.w H s.heap d (.frz o (DxO d xs)) from I.hok d _ h)
  rw [hd] at ho
  cases ho
  refine ⟨hs, hd, hx, es, ep, hdt, ?_, fun i p e => ?_⟩
  · have l1 : es.toList.length = ys.length := by rw [he, List.length_map]
    have l2 : xs.length = ys.length := Paired.length pr
    rw [Array.length_toList] at l1
    omega
  · obtain ⟨b, hb, e1, e2, _⟩ := paired_get pr e
    refine ⟨⟨kh b.1, .ref b.2.1, b.2.2⟩, ?_, by rw [e2]⟩
    rw [← Array.getElem?_toList, he, List.getElem?_map, hb]
    rfl
end
def Itn (d : Addr) (o : Obj) (xs : List (NestedKey × Addr × V)) : It :=
  ⟨fun i H => H d = some (.frz o (DxO d xs)) ∧ i < xs.length, fun i H x H' => H' = H ∧ ∃ p : NestedKey × Addr × V, xs[i]? = some p ∧ x = .ref p.2.1, fun i H => H d = some (.frz o (DxO d xs)) ∧ xs.length ≤ i⟩
section
variable {P : Program} {w : World} {K : PySem.W.Frag} {tg : Expr} {d : Addr} {o : Obj} {es : Array DictEntry} {ep : Nat}
theorem turn_keysN {xs : List (NestedKey × Addr × V)} (it : Addr) (hod : o.data = .dict es ep) : Turn P w K tg (Itn d o xs) [it] it (fun i h => h.IsKeyIter it d i xs.length ep) where
  mem := by simp
  obj := fun i h st b hb => by
    have e : b = it := by simpa using hb
    subst e
    obtain ⟨oi, e, c, dd⟩ := st
    exact ⟨oi, e, fun v z => by rw [dd] at z; cases z⟩
  keep := fun i h h' st k => st.at fun oi e => k it (by simp) oi e
  item := by
    intro X hP hw hK hc i pins s σ H E I hf st hg
    subst hP hw hK
    obtain ⟨hd, hi⟩ := hg
    obtain ⟨f0, f1, f2, f3, f4, f5⟩ := hf it (by simp)
    obtain ⟨hs, hgd, hx, es', ep', hdt, hsz, ent⟩ := frzN I hd
    obtain ⟨rfl, rfl⟩ := dict_ep hod hdt
    obtain ⟨p, hkv⟩ : ∃ p, xs[i]? = some p := ⟨xs[i], List.getElem?_eq_getElem hi⟩
    obtain ⟨en, hen, hkey⟩ := ent i p hkv
    refine next_key_item st hgd hdt hsz hen fun h' st' sb => ?_
    have I1 : Inv X pins σ H { s with heap := h' } := I.turned (t' := s.toks) (fun b ob hb e => (sb.2 b hb).trans e) f0 f1 f3 f4 f5
    obtain ⟨oi, e, c, dd⟩ := id st'
    exact ⟨en.key, rfl, go_of (s := { s with heap := h' }) e c dd (by decide) ⟨.ref p.2.1, H, I1, hkey, ⟨rfl, p, hkv, rfl⟩, st', fun b hb => (hf b hb).1⟩⟩
  done := by
    intro X hP hw hK hc i pins s σ H E I hf st hg
    subst hP hw hK
    obtain ⟨hd, hi⟩ := hg
    obtain ⟨f0, f1, f2, f3, f4, f5⟩ := hf it (by simp)
    obtain ⟨hs, hgd, hx, es', ep', hdt, hsz, ent⟩ := frzN I hd
    obtain ⟨rfl, rfl⟩ := dict_ep hod hdt
    exact next_key_end (I.ok.hd hc) st hgd hdt hsz hi fun h' eb => ⟨rfl, I.turned (t' := s.toks) (fun b ob hb e => eb b ob hb e) f0 f1 f3 f4 f5⟩
  self := fun A i s Q E st h => by
    refine wpAny_pyIter_slot st.typeIs PySem.F.slot_dict_keyiterator_iter (wpAny_call_entry PySem.F.slot_dict_keyiterator_iter st.typeIs PySem.F.entry_dict_keyiterator_iter ?_ (PySem.F.args_dict_keyiterator_iter_1 _))
    show wpAny _ _ (ret (.ref it)) _ _ s
    exact wpAny_pure ⟨_, rfl, "dict_keyiterator", _, st.typeIs, PySem.F.slot_dict_keyiterator_next.lookup, h⟩
end
def iXKeys (td : TE) : TI := fun σ H R => td σ H fun x H1 => ∃ d o, x = .ref d ∧ ((∃ kvs, H1 d = some (.frz o (.dK kvs)) ∧ R (Itk d o kvs) H1) ∨ ∃ xs, H1 d = some (.frz o (DxO d xs)) ∧ R (Itn d o xs) H1)
section
variable {X : Cx} {tg e : Expr} {td : TE}
theorem pi_xkeys (he : PE X e td) : PI X tg e (iXKeys td) := by
  refine ⟨fun pins s σ H R I h => ?_⟩
  refine thn (he.run pins s σ H _ I h) fun u s1 ⟨x, H1, I1, rx, d, o, ex, q⟩ => ?_
  subst ex
  obtain rfl : u = Value.ref d := rx
  rcases q with ⟨kvs, hd, q⟩ | ⟨kvs, hd, q⟩
  · obtain ⟨hs, hgd, hx, es, ep, vs, hdt, hsz, kv, hm⟩ := I1.frzK hd
    refine iter_keys hs hgd hx hdt (pi_one (tk := s1.toks) I1 _ (turn_keys _ hdt) ⟨_, Heap.get?_push_size _ rfl, rfl, ?_⟩ q)
    rw [hsz] <;> rfl
  · obtain ⟨hs, hgd, hx, es, ep, hdt, hsz, ent⟩ := frzN I1 hd
    refine iter_keys hs hgd hx hdt (pi_one (tk := s1.toks) I1 _ (turn_keysN _ hdt) ⟨_, Heap.get?_push_size _ rfl, rfl, ?_⟩ q)
    rw [hsz] <;> rfl
end
section
variable {K : PySem.W.Frag} {A : Addr → Prop} {H : Hp}
theorem iks_keys {xs : List (Int × V)} {vs : List D} (h : DaAll K A H (xs.map Prod.snd) vs) : (iks xs vs).map Prod.fst = xs.map fun p => (.int p.1 : D) := by
  unfold iks
  exact List.map_fst_zip (by rw [List.length_map]; exact Nat.le_of_eq h.map_len)
theorem nks_keys {xs : List (NestedKey × Addr × V)} {vs : List D} (h : DaAll K A H (xs.map fun p => p.2.2) vs) : (nks xs vs).map Prod.fst = xs.map fun p => p.1.data := by
  unfold nks
  exact List.map_fst_zip (by rw [List.length_map]; exact Nat.le_of_eq h.map_len)
theorem it_keysI {a : Addr} {o : Obj} {xs : List (Int × V)} (h : H a = some (.frz o (.dK (ikv xs)))) (n : ¬ A a) : ItOk K A (Itk a o (ikv xs)) (xs.map fun p => (.int p.1 : D)) H := by
  have hl : (ikv xs).length = xs.length := by simp [ikv]
  refine ⟨fun A H => H a = some (.frz o (.dK (ikv xs))) ∧ ¬ A a, ⟨fun A A' H H' g ⟨h1, h2⟩ => ⟨g.keep _ _ h2 h1 (fun m => m), g.notin h2 (by rw [h1]; simp)⟩, fun i A H hi ⟨h1, h2⟩ => ⟨h1, by rw [hl]; simpa using hi⟩, fun A H ⟨h1, h2⟩ => ⟨h1, by rw [hl]; simp⟩, fun i A H x H' hi ⟨h1, h2⟩ _ y => ?_⟩, h, n⟩
  obtain ⟨e, k, v, e1, e2⟩ := y
  subst e e2
  simp only [ikv, List.getElem?_map] at e1
  cases q : xs[i]? with
  | none => rw [q] at e1; cases e1
  | some p =>
    rw [q] at e1
    cases e1
    exact ⟨Step.refl _, fun _ m => m, .int p.1, by rw [List.getElem?_map, q]; rfl, .int _⟩
theorem it_keysN {a : Addr} {o : Obj} {xs : List (NestedKey × Addr × V)} (h : H a = some (.frz o (DxO a xs))) (n : ¬ A a) (hk : DaAll K A H (xs.map fun p => .ref p.2.1) (xs.map fun p => p.1.data)) : ItOk K A (Itn a o xs) (xs.map fun p => p.1.data) H := by
  refine ⟨fun A H => H a = some (.frz o (DxO a xs)) ∧ ¬ A a ∧ DaAll K A H (xs.map fun (p : NestedKey × Addr × V) => (.ref p.2.1 : V)) (xs.map fun (p : NestedKey × Addr × V) => p.1.data), ⟨fun A A' H H' g ⟨h1, h2, h3⟩ => ⟨g.keep _ _ h2 h1 (fun m => m), g.notin h2 (by rw [h1]; simp), h3.goes g⟩, fun i A H hi ⟨h1, h2, _⟩ => ⟨h1, by simpa using hi⟩, fun A H ⟨h1, h2, _⟩ => ⟨h1, by simp⟩, fun i A H x H' hi ⟨h1, h2, h3⟩ _ y => ?_⟩, h, n, hk⟩
  obtain ⟨e, p, e1, e2⟩ := y
  subst e e2
  obtain ⟨d, h4, h5⟩ := h3.get' (i := i) (v := .ref p.2.1) (by rw [List.getElem?_map, e1]; rfl)
  exact ⟨Step.refl _, fun _ m => m, d, h4, h5⟩
@[simp] def wiDic (w : WE) : WA := fun ρ u Q => w ρ u fun d u1 => ∃ kvs, d = xD kvs ∧ Q (kvs.map Prod.fst) u1
theorem Da.dicF {v : V} {kvs : List (D × D)} (h : Da K A H v (xD kvs)) : ∃ a o, v = .ref a ∧ ¬ A a ∧ ((∃ xs : List (Int × V), H a = some (.frz o (.dK (ikv xs))) ∧ kvs.map Prod.fst = xs.map fun p => (.int p.1 : D)) ∨
    ∃ xs : List (NestedKey × Addr × V), H a = some (.frz o (DxO a xs)) ∧ DaAll K A H (xs.map fun p => .ref p.2.1) (xs.map fun p => p.1.data) ∧ kvs.map Prod.fst = xs.map fun p => p.1.data) := by
  generalize e : xD kvs = d at h
  cases h with
  | dctK h1 h2 h3 => cases e; exact ⟨_, _, rfl, h2, .inl ⟨_, h1, iks_keys h3⟩⟩
  | dctN h1 h2 h3 h4 => cases e; exact ⟨_, _, rfl, h2, .inr ⟨_, h1, h3, nks_keys h4⟩⟩
  | rng => simp [xD, rngD] at e
  | _ => simp [xD, sD, eD, mD] at e
end
theorem piDic {X : Cx} {tg e : Expr} {w : WE} (h : PE X e (tD X.K w)) : PI X tg e (tIt X.K (wiDic w)) := PIi (pi_xkeys h) fun σ H Q ⟨N, A, H0, ρ, u, Qd, R, hw, k⟩ =>
  ⟨N, A, H0, ρ, u, _, R, hw, fun v H1 d u1 s1 m1 hd ⟨kvs, e, q⟩ => by
    subst e
    obtain ⟨a, o, rfl, na, q1⟩ := hd.dicF
    rcases q1 with ⟨xs, h1, h2⟩ | ⟨xs, h1, h2, h3⟩
    · rw [h2] at q
      exact ⟨a, o, rfl, .inl ⟨_, h1, k _ _ _ u1 s1 m1 (it_keysI h1 na) q⟩⟩
    · rw [h3] at q
      exact ⟨a, o, rfl, .inr ⟨_, h1, k _ _ _ u1 s1 m1 (it_keysN h1 na h2) q⟩⟩⟩
end DW

set_option Elab.async false
set_option linter.all false
set_option maxRecDepth 100000
set_option maxHeartbeats 2000000
namespace DW
open PySem PySem.Spec PyProof.Rows L2
/-! ### len(d) -/
section
variable {X : Cx}
def rLenX : List V → Hp → VK → Prop := fun xs H Q => ∃ K A a kvs, xs = [.ref a] ∧ DicR K A H a kvs ∧ Q (.int (kvs.length : Nat)) H
theorem call_len_x : CallR X (.builtin "len") rLenX := by
  intro pins s σ H xs us Q I r h
  obtain ⟨K, A, a, kvs, rfl, g, q⟩ := h
  obtain ⟨u, rfl, rx⟩ := vals1 r
  cases rx
  have hn := line63
  rcases g with ⟨xs, vs, h1, h2, h3⟩ | ⟨xs, vs, h1, h2, h3, h4⟩
  · have e : kvs.length = (ikv xs).length := by rw [h3]; simp [iks, ikv, h2.map_len]
    rw [e] at q
    exact d_len I h1 fun t s' I' => ⟨.int ((ikv xs).length : Nat), H, I', ⟨t, rfl⟩, q⟩
  · obtain ⟨hz, hd, _, ys, pr, dd⟩ := dx_of I.hok h1 h2
    have e : kvs.length = ys.length := by rw [h4, ← Paired.length pr]; simp [nks, h3.map_len]
    have hz' : ys.length ≤ sizeLine := by rw [← Paired.length pr]; exact hz
    rw [e] at q
    have hm : s.heap.DictKeyed (nestedKind X.prog X.w) a (pairsH ys) := ⟨ys, dd, rfl⟩
    have el : (pairsH ys).length = ys.length := pairsH_length ys
    refine PyProof.Rows.call_len_slot (n := ((pairsH ys).length : Nat)) hm.typeIs PySem.F.slot_dict_len (fun Q' hq => len_keyed hd hm hq) (by omega) (by rw [el]; omega) ?_
    rw [el]
    exact ⟨.int (ys.length : Nat), H, I.tok _, ⟨_, rfl⟩, q⟩
@[simp] def wLenD (wd : WDi) : WE := fun ρ u Q => wd ρ u fun kvs u1 => Q (.int (kvs.length : Nat)) u1
theorem pLenD {x : Str} {e : Expr} {p pos : Pos} {wd : WDi} (hx : x = "len") (hg : Gl X x) (hm : X.mg x = none) (h : PE X e (tDi X.K wd)) (he : starEach [e] X.env = (false, eval e X.env) :: starEach [] X.env := by rfl) : PE X (.Call (.Name x p) [e] [] pos) (tD X.K (wLenD wd)) := by
  subst hx
  exact PEi (pe_callB call_len_x hg hm PySem.boot_len (pa_cons h pa_nil he) (by decide) (by decide) he rfl) fun σ H Q ⟨N, A, H0, ρ, u, Qd, R, hw, k⟩ =>
    ⟨N, A, H0, ρ, u, _, R, hw, fun a H1 kvs u1 s1 m1 g q1 => ⟨X.K, A, a, kvs, rfl, g, k _ H1 _ u1 s1 m1 (.int _) q1⟩⟩
end
/-! ### a, b, c = [], {}, x: what is one's own among several values -/
section
variable {K : PySem.W.Frag} {N A B : Addr → Prop} {H0 H H' : Hp} {σ : L2.St} {ρ : Rho} {u u' : Nat}
/-- a slot gets an object that is kept away already -/
theorem Rel.setNew (R : Rel K N A H0 σ H ρ u) {i : Nat} {p : Addr} {c : OC} (ho : OwnAt K A H p c) (hA : A p) (h0 : H0 p = none) (no : ∀ (j : Nat) (c' : OC), ρ[j]? = some (some (SV.ob c')) → σ[j]? ≠ some (some (V.ref p))) :
    Rel K N A H0 (σ.set i (some (.ref p))) H (ρ.set i (some (.ob c))) u where
  len := by rw [List.length_set, List.length_set]; exact R.len
  step := R.step
  minv := R.minv
  sub := R.sub
  trk := R.trk
  ntrk := R.ntrk
  dat := fun j x e => by
    by_cases q : i = j
    · subst q; exact nomatch (set_self e)
    · rw [List.getElem?_set_ne q] at e ⊢
      exact R.dat j x e
  ob := fun j xs e => by
    by_cases q : i = j
    · subst q
      have e' := set_self e
      cases e'
      refine ⟨p, ?_, ho, hA, h0⟩
      have hl : i < ρ.length := by
        by_cases hl : i < ρ.length
        · exact hl
        · rw [List.getElem?_eq_none (by rw [List.length_set]; omega)] at e; cases e
      exact List.getElem?_set_self (by rw [← R.len]; exact hl)
    · rw [List.getElem?_set_ne q] at e ⊢
      exact R.ob j xs e
  dis := fun j k xs ys a e1 e2 s1 s2 => by
    have val : ∀ a, (σ.set i (some (V.ref p)))[i]? = some (some (V.ref a)) → a = p := fun a h => by
      by_cases hl : i < σ.length
      · rw [List.getElem?_set_self hl] at h
        have e3 : p = a := by simpa using h
        exact e3.symm
      · rw [List.getElem?_eq_none (by rw [List.length_set]; omega)] at h; cases h
    have old : ∀ j xs, i ≠ j → (ρ.set i (some (SV.ob c)))[j]? = some (some (SV.ob xs)) → (σ.set i (some (V.ref p)))[j]? = some (some (V.ref p)) → False := fun j xs q e s => by
      rw [List.getElem?_set_ne q] at e s
      exact no j xs e s
    by_cases q : i = j
    · by_cases q2 : i = k
      · exact q.symm.trans q2
      · subst q
        have e3 := val a s1
        subst e3
        exact (old k ys q2 e2 s2).elim
    · by_cases q2 : i = k
      · subst q2
        have e3 := val a s2
        subst e3
        exact (old j xs q e1 s1).elim
      · rw [List.getElem?_set_ne q] at e1 s1
        rw [List.getElem?_set_ne q2] at e2 s2
        exact R.dis j k xs ys a e1 e2 s1 s2
/-- what a value among several is -/
def SvAt (K : PySem.W.Frag) (A : Addr → Prop) (H : Hp) (v : V) : SV → Prop
  | .d x => Da K A H v x
  | .ob c => ∃ a, v = .ref a ∧ OwnAt K A H a c
inductive SvAll (K : PySem.W.Frag) (A : Addr → Prop) (H : Hp) : List V → List SV → List Addr → Prop
  | nil : SvAll K A H [] [] []
  | dat {v : V} {vs : List V} {x : D} {ss : List SV} {ps : List Addr} : Da K A H v x → SvAll K A H vs ss ps → SvAll K A H (v :: vs) (.d x :: ss) ps
  | ob {a : Addr} {vs : List V} {c : OC} {ss : List SV} {ps : List Addr} : OwnAt K A H a c → SvAll K A H vs ss ps → SvAll K A H (.ref a :: vs) (.ob c :: ss) (a :: ps)
/-- the world behind several new things -/
structure Newer (K : PySem.W.Frag) (A B : Addr → Prop) (H H' : Hp) (u' : Nat) (ps : List Addr) : Prop where
  step : Step H H'
  minv : MInv B u' K H'
  mem : ∀ a, B a ↔ A a ∨ a ∈ ps
  fresh : ∀ a ∈ ps, H a = none
  nd : ps.Nodup
  there : ∀ a ∈ ps, H' a ≠ none
theorem Rel.newer (R : Rel K N A H0 σ H ρ u) {ps : List Addr} (w : Newer K A B H H' u' ps) : Rel K N B H0 σ H' ρ u' :=
  R.grow w.step w.minv (fun a h => (w.mem a).mpr (.inl h)) (fun a h => ((w.mem a).mp h).elim .inl fun h => .inr (w.fresh a h)) (fun a h => ((w.mem a).mp h).elim (fun h => w.step.there (R.trk a h)) (w.there a)) []
theorem Newer.goes {ps : List Addr} (w : Newer K A B H H' u' ps) : Goes A B H H' := ⟨fun a o _ h m => w.step.keep a o h m, w.step.ms, fun a h => ((w.mem a).mp h).elim .inl fun h => .inr (w.fresh a h)⟩
/-- several stores -/
def setSs (σ : L2.St) : List (Nat × V) → L2.St
  | [] => σ
  | p :: r => setSs (σ.set p.1 (some p.2)) r
@[simp] def setRs (ρ : Rho) : List Nat → List SV → Rho
  | i :: is, s :: ss => setRs (ρ.set i (some s)) is ss
  | _, _ => ρ
theorem Rel.setAll {vs : List V} {ss : List SV} {ps : List Addr} (h : SvAll K A H vs ss ps) : ∀ {is : List Nat} {σ : L2.St} {ρ : Rho}, is.length = vs.length → Rel K N A H0 σ H ρ u → (∀ a ∈ ps, A a ∧ H0 a = none) → ps.Nodup → (∀ (j : Nat) (c' : OC) (a : Addr), ρ[j]? = some (some (SV.ob c')) → σ[j]? = some (some (V.ref a)) → a ∉ ps) →
    Rel K N A H0 (setSs σ (is.zip vs)) H (setRs ρ is ss) u := by
  induction h with
  | nil => intro is σ ρ hl R _ _ _; cases is with
    | nil => exact R
    | cons => cases hl
  | @dat v vs x ss ps h1 t ih =>
    intro is σ ρ hl R hp hn no
    cases is with
    | nil => cases hl
    | cons i is =>
      refine ih (by simpa using hl) (R.setD h1) hp hn fun j c' a e1 e2 => ?_
      by_cases q : i = j
      · subst q; exact nomatch (set_self e1)
      · rw [List.getElem?_set_ne q] at e1 e2
        exact no j c' a e1 e2
  | @ob p vs c ss ps h1 t ih =>
    intro is σ ρ hl R hp hn no
    cases is with
    | nil => cases hl
    | cons i is =>
      have hn' := List.nodup_cons.mp hn
      refine ih (by simpa using hl) (R.setNew h1 (hp p List.mem_cons_self).1 (hp p List.mem_cons_self).2 fun j c' e1 e2 => no j c' p e1 e2 List.mem_cons_self) (fun a ha => hp a (List.mem_cons_of_mem _ ha)) hn'.2 fun j c' a e1 e2 => ?_
      by_cases q : i = j
      · subst q
        have hl : i < σ.length := by
          by_cases hl : i < σ.length
          · exact hl
          · rw [List.getElem?_eq_none (by rw [List.length_set]; omega)] at e2; cases e2
        rw [List.getElem?_set_self hl] at e2
        have e3 : p = a := by simpa using e2
        rw [← e3]
        exact hn'.1
      · rw [List.getElem?_set_ne q] at e1 e2
        exact fun z => no j c' a e1 e2 (List.mem_cons_of_mem _ z)
theorem SvAll.goes {A' : Addr → Prop} {H1 : Hp} (s : Step H H1) (g : Goes A A' H H1) : ∀ {vs : List V} {ss : List SV} {ps : List Addr}, SvAll K A H vs ss ps → SvAll K A' H1 vs ss ps
  | _, _, _, .nil => .nil
  | _, _, _, .dat h t => .dat (h.goes g) (t.goes s g)
  | _, _, _, .ob h t => .ob (h.go g fun o e m => s.keep _ _ e m) (t.goes s g)
end
abbrev WOw := Rho → Nat → (List SV → Nat → Prop) → Prop
def tOw (K : PySem.W.Frag) (w : WOw) : TA := fun σ H Q => ∃ (N A : Addr → Prop) (H0 : Hp) (ρ : Rho) (u : Nat) (Qd : List SV → Nat → Prop), Rel K N A H0 σ H ρ u ∧ w ρ u Qd ∧
  ∀ B vs H' ss ps u', Newer K A B H H' u' ps → SvAll K B H' vs ss ps → Qd ss u' → Q vs H'
section
variable {X : Cx} {W : XK}
@[simp] def woNil : WOw := fun _ u Q => Q [] u
@[simp] def woDat (w : WE) (ws : WOw) : WOw := fun ρ u Q => w ρ u fun d u1 => ws ρ u1 fun ss u2 => Q (.d d :: ss) u2
@[simp] def woLst (w : WA) (ws : WOw) : WOw := fun ρ u Q => w ρ u fun ds u1 => ws ρ u1 fun ss u2 => Q (.own ds :: ss) u2
@[simp] def woDic (ws : WOw) : WOw := fun ρ u Q => ws ρ u fun ss u2 => Q (.dic [] :: ss) u2
theorem poNil : PA X [] (tOw X.K woNil) := PAi pa_nil fun σ H Q ⟨N, A, H0, ρ, u, Qd, R, hw, k⟩ => k A [] H [] [] u ⟨Step.refl H, R.minv, fun a => by simp, (fun a h => nomatch h), List.nodup_nil, (fun a h => nomatch h)⟩ .nil hw
theorem poDat {e : Expr} {es : List Expr} {w : WE} {ws : WOw} (h : PE X e (tD X.K w)) (hs : PA X es (tOw X.K ws)) (he : starEach (e :: es) X.env = (false, eval e X.env) :: starEach es X.env := by rfl) : PA X (e :: es) (tOw X.K (woDat w ws)) :=
  PAi (pa_cons h hs he) fun σ H Q ⟨N, A, H0, ρ, u, Qd, R, hw, k⟩ => ⟨N, A, H0, ρ, u, _, R, hw, fun v H1 d u1 s1 m1 hd q1 => ⟨N, A, H0, ρ, u1, _, R.go s1 m1, q1, fun B vs H2 ss ps u2 w2 h2 q2 =>
    k B (v :: vs) H2 (.d d :: ss) ps u2 ⟨s1.trans w2.step, w2.minv, w2.mem, fun a h => s1.fresh (w2.fresh a h), w2.nd, w2.there⟩ (.dat (hd.goes w2.goes) h2) q2⟩⟩
theorem ob_imp {N A : Addr → Prop} {H0 H H1 : Hp} {σ : L2.St} {ρ : Rho} {u u1 : Nat} {K : PySem.W.Frag} {p : Addr} {c : OC} {ws : WOw} {Qd : List SV → Nat → Prop} {Q : List V → Hp → Prop} (R : Rel K N A H0 σ H ρ u) (s1 : Step H H1) (m1 : MInv (Aand A p) u1 K H1) (hp : H p = none) (ho : OwnAt K (Aand A p) H1 p c)
    (q1 : ws ρ u1 fun ss u2 => Qd (.ob c :: ss) u2) (k : ∀ B vs H' ss ps u', Newer K A B H H' u' ps → SvAll K B H' vs ss ps → Qd ss u' → Q vs H') : tOw K ws σ H1 fun vs H2 => Q (.ref p :: vs) H2 := by
  have w1 : Newer K A (Aand A p) H H1 u1 [p] := ⟨s1, m1, fun a => by simp [Aand], fun a h => by rw [List.mem_singleton.mp h]; exact hp, by simp, fun a h => by rw [List.mem_singleton.mp h]; exact ho.ne⟩
  refine ⟨N, Aand A p, H0, ρ, u1, _, R.newer w1, q1, fun B vs H2 ss ps u2 w2 h2 q2 => ?_⟩
  have np : p ∉ ps := fun z => ho.ne (w2.fresh p z)
  refine k B (.ref p :: vs) H2 (.ob c :: ss) (p :: ps) u2 ⟨s1.trans w2.step, w2.minv, fun a => ?_, fun a h => ?_, List.nodup_cons.mpr ⟨np, w2.nd⟩, fun a h => ?_⟩ (.ob (ho.go w2.goes fun o e m => w2.step.keep _ _ e m) h2) q2
  · rw [w2.mem a]
    unfold Aand
    rw [List.mem_cons, or_assoc]
  · rcases List.mem_cons.mp h with e | h
    · rw [e]; exact hp
    · exact s1.fresh (w2.fresh a h)
  · rcases List.mem_cons.mp h with e | h
    · rw [e]; exact w2.step.there ho.ne
    · exact w2.there a h
theorem poLst {e : Expr} {es : List Expr} {w : WA} {ws : WOw} (h : PE X e (tF X.K w)) (hs : PA X es (tOw X.K ws)) (he : starEach (e :: es) X.env = (false, eval e X.env) :: starEach es X.env := by rfl) : PA X (e :: es) (tOw X.K (woLst w ws)) :=
  PAi (pa_cons h hs he) fun σ H Q ⟨N, A, H0, ρ, u, Qd, R, hw, k⟩ => ⟨N, A, H0, ρ, u, _, R, hw, fun p vs H1 ds u1 s1 m1 hp hp' hd q1 => ob_imp R s1 m1 hp (c := .lst ds) ⟨vs, hp', hd⟩ q1 k⟩
theorem poDic {pos : Pos} {es : List Expr} {ws : WOw} (hs : PA X es (tOw X.K ws)) (he : starEach (.Dict [] [] pos :: es) X.env = (false, eval (.Dict [] [] pos) X.env) :: starEach es X.env := by rfl) : PA X (.Dict [] [] pos :: es) (tOw X.K (woDic ws)) :=
  PAi (pa_cons pe_dnewK hs he) fun σ H Q ⟨N, A, H0, ρ, u, Qd, R, hw, k⟩ p hp => ob_imp R (Step.new hp) (R.minv.newA hp (fun m => m)) hp (c := .dic []) (.inl ⟨[], [], upd_same, .nil, rfl⟩) hw k
/-- the stores -/
@[simp] def wOw (is : List Nat) (w : WOw) : WS := fun F ρ u => w ρ u fun ss u1 => ss.length = is.length ∧ F.nx (setRs ρ is ss) u1
theorem SvAll.len {K : PySem.W.Frag} {A : Addr → Prop} {H : Hp} : ∀ {vs : List V} {ss : List SV} {ps : List Addr}, SvAll K A H vs ss ps → vs.length = ss.length
  | _, _, _, .nil => rfl
  | _, _, _, .dat _ t => congrArg (· + 1) t.len
  | _, _, _, .ob _ t => congrArg (· + 1) t.len
theorem ow_end {N A B : Addr → Prop} {H0 H H' : Hp} {σ : L2.St} {ρ : Rho} {u u' : Nat} {K : PySem.W.Frag} {vs : List V} {ss : List SV} {ps : List Addr} {is : List Nat} (R : Rel K N A H0 σ H ρ u) (w : Newer K A B H H' u' ps) (h : SvAll K B H' vs ss ps) (hl : ss.length = is.length) : Rel K N B H0 (setSs σ (is.zip vs)) H' (setRs ρ is ss) u' :=
  Rel.setAll h (hl.symm.trans h.len.symm) (R.newer w) (fun a ha => ⟨(w.mem a).mpr (.inr ha), R.step.fresh (w.fresh a ha)⟩) w.nd fun j c' a e1 e2 z => by
    obtain ⟨b, h1, h2, _⟩ := R.ob j c' e1
    rw [e2] at h1
    cases h1
    exact h2.ne (w.fresh a z)
theorem psOw2 {st : Stmt} {i j : Nat} {w : WOw} (h : PS X st (tPar i j (tOw X.K w))) : PS X st (tSx X.K W (wOw [i, j] w)) := PSi h fun E σ H ⟨N, A, H0, ρ, u, F, R, hw, k1, k2, k3, k4, k5⟩ =>
  ⟨N, A, H0, ρ, u, _, R, hw, fun B vs H1 ss ps u1 w1 h1 ⟨hl, q⟩ => by
    have hl2 := h1.len
    rw [hl] at hl2
    match vs, hl2 with
    | [v, v'], _ => exact ⟨v, v', rfl, k1 B _ _ _ u1 w1.goes (ow_end R w1 h1 hl) q⟩⟩
theorem psOw3 {st : Stmt} {i j l : Nat} {w : WOw} (h : PS X st (tPar3 i j l (tOw X.K w))) : PS X st (tSx X.K W (wOw [i, j, l] w)) := PSi h fun E σ H ⟨N, A, H0, ρ, u, F, R, hw, k1, k2, k3, k4, k5⟩ =>
  ⟨N, A, H0, ρ, u, _, R, hw, fun B vs H1 ss ps u1 w1 h1 ⟨hl, q⟩ => by
    have hl2 := h1.len
    rw [hl] at hl2
    match vs, hl2 with
    | [v, v', v''], _ => exact ⟨v, v', v'', rfl, k1 B _ _ _ u1 w1.goes (ow_end R w1 h1 hl) q⟩⟩
/-- by a tuple -/
def gNames : List Nat → TGs
  | [] => gNil
  | i :: is => gCons (gName i) (gNames is)
theorem gNames_imp {H : Hp} {Q : L2.St → Hp → Prop} : ∀ {is : List Nat} {vs : List V} {σ : L2.St}, vs.length = is.length → Q (setSs σ (is.zip vs)) H → gNames is vs σ H Q
  | [], [], σ, _, q => ⟨rfl, q⟩
  | i :: is, v :: vs, σ, hl, q => ⟨v, vs, rfl, gNames_imp (by simpa using hl) q⟩
  | [], _ :: _, _, hl, _ => by cases hl
  | _ :: _, [], _, hl, _ => by cases hl
theorem psOwT {st : Stmt} {is : List Nat} {n : Nat} {w : WOw} (h : PS X st (tAsg (tTup (tOw X.K w)) (gTup X.K n (gNames is)))) (hn : is.length = n := by rfl) (hs : n ≤ 100 := by decide) : PS X st (tSx X.K W (wOw is w)) := PSi h fun E σ H ⟨N, A, H0, ρ, u, F, R, hw, k1, k2, k3, k4, k5⟩ =>
  ⟨N, A, H0, ρ, u, _, R, hw, fun B vs H1 ss ps u1 w1 h1 ⟨hl, q⟩ => by
    have hl2 : vs.length = is.length := h1.len.trans hl
    refine ⟨szOf (by omega), fun p hp => ⟨p, vs, rfl, .inl (.inl upd_same), by omega, gNames_imp hl2 ?_⟩⟩
    have st : Step H1 (upd H1 p (.tup vs)) := Step.new hp
    have w2 : Newer X.K A B H (upd H1 p (.tup vs)) u1 ps := ⟨w1.step.trans st, w1.minv.new hp (fun m => m), w1.mem, w1.fresh, w1.nd, fun a h => st.there (w1.there a h)⟩
    exact k1 B _ _ _ u1 w2.goes (ow_end R w2 (h1.goes st st.goes) hl) q⟩
/-- x = {} -/
@[simp] def wSetM (i : Nat) : WS := fun F ρ u => F.nx (ρ.set i (some (.dic []))) u
theorem psSetM {st : Stmt} {i : Nat} (h : PS X st (tAsg tDNewK (gName i))) : PS X st (tSx X.K W (wSetM i)) := PSi h fun E σ H ⟨N, A, H0, ρ, u, F, R, hw, k1, k2, k3, k4, k5⟩ p hp =>
  k1 _ _ _ _ u (goes_and (Step.new hp) hp) (R.setOb (Step.new hp) (R.minv.newA hp (fun m => m)) hp (c := .dic []) (.inl ⟨[], [], upd_same, .nil, rfl⟩)) hw
end
end DW

set_option Elab.async false
set_option linter.all false
set_option maxRecDepth 100000
set_option maxHeartbeats 2000000
namespace DW
open PySem PySem.Spec PyProof.Rows L2
/-! ### sorted(xs) of alike data -/
def dLe (a b : D) : Bool := !PySem.W.dataLt b a
noncomputable def dSort (ds : List D) : List D := ds.mergeSort dLe
theorem dSort_perm (ds : List D) : (dSort ds).Perm ds := List.mergeSort_perm ds _
def dOrd : KeyOrd := listOrd itemOrd
theorem dLe_total : PySem.W.TotalLe dLe := PySem.W.sortLe_total (listOrd itemOrd) false PySem.W.keyToks
theorem dSort_sorted (ds : List D) : (dSort ds).Pairwise fun a b => dLe a b = true := PySem.W.sort_pairwise dLe_total ds
/-- what may be sorted -/
structure SrtOk (ds : List D) : Prop where
  alike : PySem.W.AllAlike ds
  kind : PySem.W.Sortable ds
  lay : ∀ d ∈ ds, d.canLay0 = true
  dep : ∀ d ∈ ds, d.depth ≤ 30
section
variable {X : Cx} {K : PySem.W.Frag}
def rSortD (K : PySem.W.Frag) : List V → Hp → VK → Prop := fun vs H Q => ∃ (a : Addr) (xs : List V) (A : Addr → Prop) (ds : List D), vs = [V.ref a] ∧ SqL K H a xs ∧ DaAll K A H xs ds ∧ SrtOk ds ∧
  ∀ ys p, DaAll K A H ys (dSort ds) → H p = none → Q (.ref p) (upd H p (.lst ys))
theorem zip_da {A : Addr → Prop} {H : Hp} : ∀ {xs : List V} {ds : List D}, DaAll K A H xs ds → ∀ p ∈ xs.zip ds, Da K A H p.1 p.2
  | _, _, .nil, p, h => by simp at h
  | _, _, .cons a b, p, h => by
    rw [List.zip_cons_cons] at h
    rcases List.mem_cons.mp h with e | h
    · rw [e]; exact a
    · exact zip_da b p h
theorem da_of_zip {A : Addr → Prop} {H : Hp} : ∀ {zs : List (V × D)}, (∀ p ∈ zs, Da K A H p.1 p.2) → DaAll K A H (zs.map Prod.fst) (zs.map Prod.snd)
  | [], _ => .nil
  | p :: zs, h => .cons (h p List.mem_cons_self) (da_of_zip fun q hq => h q (List.mem_cons_of_mem _ hq))
theorem cr_sortD (hu : X.A.units + 65 < cLine) : CallR X (.builtin "sorted") (rSortD X.K) := by
  intro pins s σ H vs us Q I r h
  obtain ⟨a, xs, A, ds, rfl, hs, hx, ok, q⟩ := h
  obtain ⟨its, rv, hl, hz⟩ := I.list hs
  obtain ⟨u, rfl, ru⟩ := vals1 r
  obtain rfl : u = Value.ref a := ru
  -- each value with what it is
  have each : ∀ {xs : List V} {ds : List D} {us : List Value}, DaAll X.K A H xs ds → Vals xs us → (∀ d ∈ ds, d.canLay0 = true) → PySem.W.EachIs (fun (u : Value) (b : V × D) => RelV b.1 u ∧ ∃ as, Reads s.heap u b.2 as) us (xs.zip ds) := by
    intro xs ds us hd
    induction hd using DaAll.rec (motive_1 := fun _ _ _ => True) generalizing us with
    | nil => intro r _; cases r; exact .nil
    | @cons v vs d ds h1 h2 _ ih =>
      intro r c
      cases r with
      | cons r1 r2 =>
        exact .cons ⟨r1, Dp.reads I d v _ (h1.dp (c d List.mem_cons_self)) r1⟩ (ih r2 fun d hd => c d (List.mem_cons_of_mem _ hd))
    | _ => trivial
  have e1 := each hx rv ok.lay
  have old : ∀ b o, s.heap.get? b = some o → (PySem.W.sortingHeap (PySem.W.copyHeap s.heap its) (s.heap.objs.size + 1) its).get? b = some o := fun b o e => PySem.W.sorting_copy_old e
  have e2 : PySem.W.EachIs (fun (u : Value) (b : V × D) => RelV b.1 u ∧ ∃ as, Reads (PySem.W.sortingHeap (PySem.W.copyHeap s.heap its) (s.heap.objs.size + 1) its) u b.2 as) its (xs.zip ds) :=
    e1.mono fun u b h => ⟨h.1, let ⟨as, r⟩ := h.2; ⟨as, PyProof.Rows.Reads.keeps old r⟩⟩
  have len : xs.length = ds.length := hx.length
  have e3 : PySem.W.EachIs (fun v d => ∃ as, Reads (PySem.W.sortingHeap (PySem.W.copyHeap s.heap its) (s.heap.objs.size + 1) its) v d as) its ds := by
    have m : ∀ {us : List Value} {bs : List (V × D)}, PySem.W.EachIs (fun (u : Value) (b : V × D) => RelV b.1 u ∧ ∃ as, Reads (PySem.W.sortingHeap (PySem.W.copyHeap s.heap its) (s.heap.objs.size + 1) its) u b.2 as) us bs → PySem.W.EachIs (fun v d => ∃ as, Reads (PySem.W.sortingHeap (PySem.W.copyHeap s.heap its) (s.heap.objs.size + 1) its) v d as) us (bs.map Prod.snd) := by
      intro us bs h
      induction h with
      | nil => exact .nil
      | cons h1 _ ih => exact .cons h1.2 ih
    have := m e2
    rwa [List.map_snd_zip (Nat.le_of_eq len.symm)] at this
  have S : PySem.W.SortsAt X.prog X.w X.A.in1.in1 { s with heap := PySem.W.sortingHeap (PySem.W.copyHeap s.heap its) (s.heap.objs.size + 1) its } (PySem.W.dataKind (PySem.W.sortingHeap (PySem.W.copyHeap s.heap its) (s.heap.objs.size + 1) its) ds) its :=
    PySem.W.SortsAt.data (s := { s with heap := PySem.W.sortingHeap (PySem.W.copyHeap s.heap its) (s.heap.objs.size + 1) its }) e3 ok.alike ok.kind fun d hd => by
      have := ok.dep d hd
      show X.A.units + 1 + 1 + d.depth < cLine
      omega
  refine PySem.W.sorted_vals hl.isList S (by rw [← rv.length]; exact hz) ?_
  have e4 : PySem.W.EachIs (fun v (b : V × D) => (PySem.W.dataKind (PySem.W.sortingHeap (PySem.W.copyHeap s.heap its) (s.heap.objs.size + 1) its) ds).keyOf v = some (PySem.W.keyToks b.2)) its (xs.zip ds) := by
    have m : ∀ {us : List Value} {bs : List (V × D)}, PySem.W.EachIs (fun (u : Value) (b : V × D) => RelV b.1 u ∧ ∃ as, Reads (PySem.W.sortingHeap (PySem.W.copyHeap s.heap its) (s.heap.objs.size + 1) its) u b.2 as) us bs → (∀ b ∈ bs, b.2 ∈ ds) →
        PySem.W.EachIs (fun v (b : V × D) => (PySem.W.dataKind (PySem.W.sortingHeap (PySem.W.copyHeap s.heap its) (s.heap.objs.size + 1) its) ds).keyOf v = some (PySem.W.keyToks b.2)) us bs := by
      intro us bs h
      induction h with
      | nil => intro _; exact .nil
      | cons h1 _ ih => intro m; obtain ⟨as, r⟩ := h1.2; exact .cons (PySem.W.dataKind_some ok.alike (m _ List.mem_cons_self) r) (ih fun b hb => m b (List.mem_cons_of_mem _ hb))
    exact m e2 fun b hb => (List.of_mem_zip hb).2
  have e5 := PySem.W.sortVals_each (rev := false) (κ := PySem.W.dataKind (PySem.W.sortingHeap (PySem.W.copyHeap s.heap its) (s.heap.objs.size + 1) its) ds) (fun b : V × D => PySem.W.keyToks b.2) e2 e4
  generalize hout : PySem.W.sortVals (PySem.W.dataKind (PySem.W.sortingHeap (PySem.W.copyHeap s.heap its) (s.heap.objs.size + 1) its) ds) false its its = out at e5 ⊢
  generalize hzs : (xs.zip ds).mergeSort (PySem.W.sortLe (PySem.W.dataKind (PySem.W.sortingHeap (PySem.W.copyHeap s.heap its) (s.heap.objs.size + 1) its) ds).toKeyOrd false fun b : V × D => PySem.W.keyToks b.2) = zs at e5
  have pm : zs.Perm (xs.zip ds) := by rw [← hzs]; exact List.mergeSort_perm _ _
  have hd : zs.map Prod.snd = dSort ds := by
    rw [← hzs]
    unfold dSort
    rw [← List.map_snd_zip (l₁ := xs) (l₂ := ds) (Nat.le_of_eq len.symm)]
    rw [List.map_snd_zip (Nat.le_of_eq len.symm)]
    have := PySem.W.sort_maps (r := fun (p q : V × D) => dLe p.2 q.2) (s := dLe) Prod.snd (l := xs.zip ds) (fun a _ b _ => rfl)
    rw [List.map_snd_zip (Nat.le_of_eq len.symm)] at this
    rw [← this]
    rfl
  have hda : DaAll X.K A H (zs.map Prod.fst) (dSort ds) := by
    rw [← hd]
    exact da_of_zip fun p hp => zip_da hx p (pm.mem_iff.mp hp)
  have hv : Vals (zs.map Prod.fst) out := by
    have m : ∀ {us : List Value} {bs : List (V × D)}, PySem.W.EachIs (fun (u : Value) (b : V × D) => RelV b.1 u ∧ ∃ as, Reads (PySem.W.sortingHeap (PySem.W.copyHeap s.heap its) (s.heap.objs.size + 1) its) u b.2 as) us bs → Vals (bs.map Prod.fst) us := by
      intro us bs h
      induction h with
      | nil => exact .nil
      | cons h1 _ ih => exact .cons h1.1 ih
    exact m e5
  obtain ⟨e, he⟩ := sortedAll_at s.heap its out.toArray
  have hln : (zs.map Prod.fst).length ≤ sizeLine := by
    rw [List.length_map, pm.length_eq, List.length_zip]
    omega
  refine ⟨.ref (s.heap.objs.size + 1), upd H (s.heap.objs.size + 1) (.lst (zs.map Prod.fst)), I.laid (t' := s.toks) (fun b o q => sortedAll_old q) (Nat.le_succ _) ⟨hln, out, e, hv, he⟩, rfl, q _ _ hda (I.hok.fresh (Nat.le_succ _))⟩
/-- sorted(e): a new list -/
@[simp] def wSort (w : WE) : WA := fun ρ u Q => w ρ u fun d u1 => ∃ ds, d = .list ds ∧ SrtOk ds ∧ Q (dSort ds) u1
theorem pSort {x : Str} {e : Expr} {p pos : Pos} {w : WE} (hx : x = "sorted") (hu : X.A.units + 65 < cLine) (hg : Gl X x) (hm : X.mg x = none) (h : PE X e (tBo X.K w)) (he : starEach [e] X.env = (false, eval e X.env) :: starEach [] X.env := by rfl) : PE X (.Call (.Name x p) [e] [] pos) (tF X.K (wSort w)) := by
  subst hx
  exact PEi (pe_callB (cr_sortD hu) hg hm (by decide +kernel) (pa_cons h pa_nil he) (by decide) (by decide) he rfl) fun σ H Q ⟨N, A, H0, ρ, u, Qd, R, hw, k⟩ =>
    ⟨N, A, H0, ρ, u, _, R, hw, fun v H1 d u1 s1 m1 hd ⟨ds, e, ok, q⟩ => by
      subst e
      obtain ⟨a, xs, rfl, ha, hxs⟩ := hd.lists
      refine ⟨a, xs, A, ds, rfl, .inl (.inl ha), hxs, ok, fun ys p hy hp => ?_⟩
      exact k p ys _ _ u1 (s1.trans (Step.new hp)) (m1.newA hp (fun m => m)) (s1.fresh hp) upd_same (hy.goes (goes_and (Step.new hp) hp)) q⟩
/-! ### len(set(xs)), ints -/
def distinct (ns : List Int) : Nat := (firstMet (fun i => ns.getD i 0) ns.length).length
def tLenSetI2 (K : PySem.W.Frag) (ta : TE) : TE := fun σ H Q => ta σ H fun x H1 => ∃ (l : Addr) (ns : List Int), x = V.ref l ∧ SqL K H1 l (ns.map V.int) ∧ ns.length < 64 ∧ Q (.int (distinct ns : Nat)) H1
theorem pe_lenSetI2 {a : Expr} {ta : TE} {p p2 q pos : Pos} (hc : X.calm = true) (hg : Gl X "len") (hm : X.mg "len" = none) (hg2 : Gl X "set") (hm2 : X.mg "set" = none) (ha : PE X a ta)
    (na : starEach [a] X.env = (false, eval a X.env) :: starEach [] X.env := by rfl) : PE X (.Call (.Name "len" p) [.Call (.Name "set" p2) [a] [] q] [] pos) (tLenSetI2 X.K ta) := by
  refine ⟨fun pins s σ H Q I h => ?_⟩
  refine Call_ (ld_blt I hg hm PySem.boot_len ?_)
  refine PyProof.Rows.callWith_builtin1 (PyProof.Rows.args_cons ?_ rfl) rfl rfl
  refine Call_ (ld_blt I hg2 hm2 PyProof.Rows.boot_set ?_)
  refine PyProof.Rows.callWith_type1 (PyProof.Rows.args_cons (thn (ha.run pins s σ H _ I h) fun v s1 ⟨x, H1, I1, r1, q1⟩ => PyProof.Rows.args_nil ?_) na) na rfl
  obtain ⟨l, ns, rfl, hq, h1, q1⟩ := q1
  cases r1
  obtain ⟨its, r, pl, hz⟩ := I1.list hq
  have hl : its.toArray.size = ns.length := by rw [List.size_toArray, ← r.length, List.length_map]
  refine call_set_list (I1.ok.hd hc) pl.isList (ns := ns) (by simpa using r.ints) (by unfold scanBound; omega) fun h' tk hS hk => ?_
  rw [hl] at hS
  have hle := firstMet_length_le (fun i => ns.getD i 0) ns.length
  refine PyProof.Rows.args_nil ?_
  obtain ⟨o, es, ep, t, ho, hex, hd, _, _, _, hf, hn⟩ := hS
  have I2 : Inv X pins σ H1 { s1 with heap := h', toks := tk } := I1.kept fun b o e => hk b o (Heap.lt_size e) e
  refine call_len_set ho hex hd hf (by rw [hn] <;> omega) ⟨.int (distinct ns : Nat), H1, I2.tok _, ⟨_, by rw [hn]; rfl⟩, q1⟩
@[simp] def wLenSet (w : WE) : WE := fun ρ u Q => w ρ u fun d u1 => ∃ ns : List Int, d = .list (ns.map .int) ∧ ns.length < 64 ∧ Q (.int (distinct ns : Nat)) u1
theorem pLenSet {a : Expr} {p p2 q pos : Pos} {w : WE} (hc : X.calm = true) (hg : Gl X "len") (hm : X.mg "len" = none) (hg2 : Gl X "set") (hm2 : X.mg "set" = none) (ha : PE X a (tBo X.K w))
    (na : starEach [a] X.env = (false, eval a X.env) :: starEach [] X.env := by rfl) : PE X (.Call (.Name "len" p) [.Call (.Name "set" p2) [a] [] q] [] pos) (tD X.K (wLenSet w)) :=
  PEi (pe_lenSetI2 hc hg hm hg2 hm2 ha na) fun σ H Q ⟨N, A, H0, ρ, u, Qd, R, hw, k⟩ => ⟨N, A, H0, ρ, u, _, R, hw, fun v H1 d u1 s1 m1 hd ⟨ns, e, hl, q⟩ => by
    subst e
    obtain ⟨a, xs, rfl, ha, hxs⟩ := hd.lists
    rw [DaAll.of_ints hxs] at ha
    exact ⟨a, ns, rfl, .inl (.inl ha), hl, k _ _ _ u1 s1 m1 (.int _) q⟩⟩
end
end DW

set_option Elab.async false
set_option linter.all false
set_option maxRecDepth 100000
set_option maxHeartbeats 2000000
namespace DW
open PySem PySem.Spec PyProof.Rows L2
/-! ### rows = [[..] for ..]; for a, b in it: row = rows[e1]; row[e2] = e3 -/
/-- a target that leaves what is one's own -/
def BOk (is : List Nat) (b : WB) : Prop := ∀ d ρ ρ', b d ρ = some ρ' → ∀ (j : Nat) (c : OC), ρ'[j]? = some (some (SV.ob c)) → j ∉ is ∧ ρ[j]? = some (some (SV.ob c))
theorem bo_name {i : Nat} : BOk [i] (bName i) := fun d ρ ρ' h j c e => by
  cases (Option.some.inj h : ρ.set i (some (.d d)) = ρ')
  by_cases q : i = j
  · subst q; exact nomatch (set_self e)
  · rw [List.getElem?_set_ne q] at e
    exact ⟨by simp; exact fun z => q z.symm, e⟩
def BsOk (is : List Nat) (b : WBs) : Prop := ∀ ds ρ ρ', b ds ρ = some ρ' → ∀ (j : Nat) (c : OC), ρ'[j]? = some (some (SV.ob c)) → j ∉ is ∧ ρ[j]? = some (some (SV.ob c))
theorem bo_nil : BsOk [] bNil := fun ds ρ ρ' h j c e => by
  cases ds with
  | nil => cases h; exact ⟨by simp, e⟩
  | cons _ _ => cases h
theorem bo_cons {is js : List Nat} {b : WB} {bs : WBs} (h1 : BOk is b) (h2 : BsOk js bs) : BsOk (is ++ js) (bCons b bs) := fun ds ρ ρ' h j c e => by
  cases ds with
  | nil => cases h
  | cons d r =>
    have h' : (b d ρ).bind (fun ρ' => bs r ρ') = some ρ' := h
    cases q : b d ρ with
    | none => rw [q] at h'; cases h'
    | some ρ1 =>
      rw [q] at h'
      obtain ⟨a1, a2⟩ := h2 r ρ1 ρ' h' j c e
      obtain ⟨a3, a4⟩ := h1 d ρ ρ1 q j c a2
      exact ⟨by rw [List.mem_append, not_or]; exact ⟨a3, a1⟩, a4⟩
theorem bo_tup {is : List Nat} {bs : WBs} (h : BsOk is bs) : BOk is (bTup bs) := fun d ρ ρ' e => by
  cases d <;> first | (cases e; done) | exact h _ ρ ρ' e
@[simp] def wRL (i r : Nat) (b : WB) (we1 we2 we3 : WE) (rest : DE → WS) (F : DE) : List D → Rho → List (List D) → Nat → Prop
  | [], ρ, xss, u => rest F F (ρ.set i (some (.d (.list (xss.map .list))))) u
  | x :: xs, ρ, xss, u => ∃ ρ', b x ρ = some ρ' ∧ we1 ρ' u fun d1 u1 => ∃ (a : Nat) (row : List D), d1 = .int a ∧ xss[a]? = some row ∧ we3 (ρ'.set r none) u1 fun v u2 => we2 (ρ'.set r none) u2 fun d2 u3 => ∃ c : Nat, d2 = .int c ∧ c < row.length ∧
      wRL i r b we1 we2 we3 rest F xs (ρ'.set r none) (xss.set a (row.set c v)) u3
@[simp] def wRows (i r : Nat) (wn : WN) (wi : WA) (b : WB) (we1 we2 we3 : WE) (rest : WS) : WS := fun F ρ u => i < ρ.length ∧ r < ρ.length ∧ wn ρ u fun xss u1 => wi (ρ.set i none) u1 fun ds u2 => wRL i r b we1 we2 we3 (fun _ => rest) F ds (ρ.set i none) xss u2
section
variable {X : Cx} {W : XK}
theorem pssRows {i r : Nat} {st1 s1 s2 : Stmt} {tg iter : Expr} {rest : List Stmt} {pos : Pos} {wn : WN} {wi : WA} {is : List Nat} {b : WB} {we1 we2 we3 : WE} {wrest : WS} (hset : PS X st1 (tAsg (tFF X.K wn) (gName i))) (hp : PassesOwn (model X.prog X.w) X.A X.env X.xe) (hc : X.calm = true)
    (hi : PI X tg iter (tIt X.K wi)) (hg : PG X tg (tGt X.K is b)) (h1 : PS X s1 (tAsg (tOp (rIxL X.K) (tVar i) (tD X.K we1)) (gName r))) (h2 : PS X s2 (tAsg (tD X.K we3) (gSub (tVar r) (tD X.K we2) rSetL))) (hrest : PSs X rest (tSx X.K W wrest))
    (hbo : BOk is b) (ni : i ∉ is) (nr : i ≠ r) (hs : ∀ x, foldedSetIterable iter X.env x = pure x := by intro _; rfl) :
    PSs X (st1 :: .For tg iter [s1, s2] [] pos :: rest) (tSx X.K W (wRows i r wn wi b we1 we2 we3 wrest)) :=
  PSsi (pss_cons hset (pss_cons (ps_for hp hc hi hg (pss_cons h1 (pss_cons h2 pss_nil)) hs) hrest)) fun E σ H ⟨N, A, H0, ρ, u, F, R, ⟨hil, hrl0, hw⟩, k1, k2, k3, k4, k5⟩ =>
    ⟨N, A, H0, ρ, u, _, R, hw, fun B p as H1 xss u1 st1 m1 hpn fr n1 q1 => by
      have nA : ¬ A p := R.fresh hpn
      have nas : ∀ b ∈ as, ¬ A b := fun b hb => R.fresh (fr b hb)
      have nb : ∀ a, B a → A a ∨ H a = none := fun a h => by
        rcases (n1.mem a).mp h with h | h | h
        · exact .inl h
        · rw [h]; exact .inr hpn
        · exact .inr (fr a h)
      have trk : ∀ a, B a → H1 a ≠ none := fun a h => by
        rcases (n1.mem a).mp h with h | h | h
        · exact st1.there (R.trk a h)
        · rw [h, n1.at_]; simp
        · obtain ⟨j, hj⟩ := List.getElem?_of_mem h
          obtain ⟨vs, xs, _, h2, _⟩ := n1.row j a hj
          rw [h2]; simp
      have R1 : Rel X.K N B H0 (σ.set i (some (.ref p))) H1 (ρ.set i none) u1 := (R.grow st1 m1 (fun a h => (n1.mem a).mpr (.inl h)) nb trk []).setAny i _
      have ownA : ∀ (j : Nat) (xs : OC), (ρ.set i none)[j]? = some (some (SV.ob xs)) → ∀ a, (σ.set i (some (V.ref p)))[j]? = some (some (V.ref a)) → A a := fun j xs e a ea => by
        by_cases q : i = j
        · subst q
          by_cases hl : i < ρ.length
          · rw [List.getElem?_set_self hl] at e; cases e
          · rw [List.getElem?_eq_none (by rw [List.length_set]; omega)] at e; cases e
        · rw [List.getElem?_set_ne q] at e ea
          obtain ⟨a', h1, _, h4, _⟩ := R.ob j xs e
          rw [h1] at ea
          have e' : a' = a := by simpa using ea
          rw [← e']; exact h4
      have hi0 : (σ.set i (some (V.ref p)))[i]? = some (some (V.ref p)) := List.getElem?_set_self (by rw [← R.len]; exact hil)
      have gA : Goes A A H H1 := st1.goes
      refine ⟨N, B, H0, _, u1, _, R1, q1, fun J H2 ds u2 st2 m2 ⟨G, hG, g2⟩ q2 => ?_⟩
      have gA2 : Goes A A H H2 := (st1.trans st2).goes
      refine ⟨fun k m σ' H' => m = ds.length - k ∧ k ≤ ds.length ∧ ∃ ρ' u' xss', ρ'.length = ρ.length ∧ Goes A A H H' ∧ G B H' ∧ Rel X.K N B H0 σ' H' ρ' u' ∧ σ'[i]? = some (some (V.ref p)) ∧ (∀ (j : Nat) (xs : OC), ρ'[j]? = some (some (SV.ob xs)) → ∀ a, σ'[j]? = some (some (V.ref a)) → A a) ∧ Nest X.K A B H' p as xss' ∧ wRL i r b we1 we2 we3 (fun _ => wrest) F (ds.drop k) ρ' xss' u',
        ⟨ds.length, by simp, Nat.zero_le _, _, u2, xss, by simp, gA2, g2, R1.go st2 m2, hi0, ownA, n1.step st2, q2⟩, ?_⟩
      rintro k m σ2 H3 ⟨rfl, hk, ρ2, u3, xss2, hl2, g3, gg3, R3, hi3, own3, n3, w3⟩
      by_cases hlt : k < ds.length
      · refine .inr ⟨hG.goes k B H3 hlt gg3, fun σ' H' => ∃ ρ' u' xss', ρ'.length = ρ.length ∧ Goes A A H H' ∧ G B H' ∧ Rel X.K N B H0 σ' H' ρ' u' ∧ σ'[i]? = some (some (V.ref p)) ∧ (∀ (j : Nat) (xs : OC), ρ'[j]? = some (some (SV.ob xs)) → ∀ a, σ'[j]? = some (some (V.ref a)) → A a) ∧ Nest X.K A B H' p as xss' ∧ wRL i r b we1 we2 we3 (fun _ => wrest) F (ds.drop (k + 1)) ρ' xss' u',
          fun σ' H' h => ⟨ds.length - (k + 1), by omega, rfl, hlt, h⟩, fun x H4 y => ?_⟩
        obtain ⟨s4, m4, d, hd, hda⟩ := hG.yields k B H3 x H4 hlt gg3 R3.goes0 y
        have e : ds.drop k = d :: ds.drop (k + 1) := by
          obtain ⟨h1, h2⟩ := List.getElem?_eq_some_iff.mp hd
          rw [← h2]
          exact List.drop_eq_getElem_cons h1
        rw [e] at w3
        obtain ⟨ρ4, hb4, w4⟩ := w3
        have R4 := R3.go s4 (m4 _ R3.minv)
        have gg4 := hG.over _ _ _ _ s4.goes gg3
        have n4 := n3.step s4
        refine ⟨N, B, H0, ρ2, ρ4, u3, d, R4, hda, hb4, fun σ5 off5 R5 => ?_⟩
        have hi5 : σ5[i]? = some (some (V.ref p)) := by rw [off5.2 i ni]; exact hi3
        have own5 : ∀ (j : Nat) (xs : OC), ρ4[j]? = some (some (SV.ob xs)) → ∀ a, σ5[j]? = some (some (V.ref a)) → A a := fun j xs e a ea => by
          obtain ⟨nj, e'⟩ := hbo d ρ2 ρ4 hb4 j xs e
          rw [off5.2 j nj] at ea
          exact own3 j xs e' a ea
        -- row = rows[e1]
        refine ⟨.ref p, hi5, N, B, H0, ρ4, u3, _, R5, w4, fun v1 H5 d1 u5 s5 m5 hd1 ⟨a, row, e1, hrow, w5⟩ => ?_⟩
        subst e1
        cases hd1
        have n5 := n4.step s5
        have hal : a < as.length := by rw [n5.len]; exact (List.getElem?_eq_some_iff.mp hrow).1
        obtain ⟨c, hcc⟩ : ∃ c, as[a]? = some c := ⟨_, List.getElem?_eq_getElem hal⟩
        have hcm := List.mem_of_getElem? hcc
        have hBc : B c := (n5.mem c).mpr (.inr (.inr hcm))
        have h0c : H0 c = none := R.step.fresh (fr c hcm)
        refine ⟨p, as.map V.ref, a, .ref c, rfl, rfl, .inl (.inl n5.at_), atI_nat (by rw [List.getElem?_map, hcc]; rfl), ?_⟩
        have R6 : Rel X.K N B H0 (σ5.set r (some (V.ref c))) H5 (ρ4.set r none) u5 := (R5.go s5 m5).setAny r _
        have hi6 : (σ5.set r (some (V.ref c)))[i]? = some (some (V.ref p)) := by rw [List.getElem?_set_ne (Ne.symm nr)]; exact hi5
        have own6 : ∀ (j : Nat) (xs : OC), (ρ4.set r none)[j]? = some (some (SV.ob xs)) → ∀ a, (σ5.set r (some (V.ref c)))[j]? = some (some (V.ref a)) → A a := fun j xs e a ea => by
          by_cases q : r = j
          · subst q
            by_cases hl : r < ρ4.length
            · rw [List.getElem?_set_self hl] at e; cases e
            · rw [List.getElem?_eq_none (by rw [List.length_set]; omega)] at e; cases e
          · rw [List.getElem?_set_ne q] at e ea
            exact own5 j xs e a ea
        -- row[e2] = e3
        refine ⟨N, B, H0, _, u5, _, R6, w5, fun v H6 dv u6 s6 m6 hdv w6 => ?_⟩
        have hr6 : ∀ z, (σ5.set r (some (V.ref c)))[r]? = z → r < σ5.length → z = some (some (V.ref c)) := fun z e hl => by rw [← e]; exact List.getElem?_set_self hl
        by_cases hrl : r < σ5.length
        · refine ⟨.ref c, List.getElem?_set_self hrl, N, B, H0, _, u6, _, R6.go s6 m6, w6, fun v2 H7 d2 u7 s7 m7 hd2 ⟨cc, e2, hcl, w7⟩ => ?_⟩
          subst e2
          cases hd2
          have n7 := (n5.step s6).step s7
          obtain ⟨ws, ys, hx', hcs, hdw⟩ := n7.row a c hcc
          rw [hrow] at hx'
          cases hx'
          have R7 := (R6.go s6 m6).go s7 m7
          have hdv7 := hdv.goes (A' := B) s7.goes
          refine ⟨c, ws, cc, cc, rfl, rfl, hcs, (by simp [ixN, hdw.length, hcl]), ?_⟩
          have n8 := n7.put (j := cc) hcc hrow hcs hdw hdv7
          have R8 := R7.putB (vs' := ws.set cc v) hcs hBc h0c fun j xs e e2 => nas c hcm (own6 j xs e c e2)
          have g7 : Goes A A H H7 := (((g3.trans s4.goes).trans s5.goes).trans s6.goes).trans s7.goes
          have g8 : Goes A A H (upd H7 c (.lst (ws.set cc v))) := by
            refine ⟨fun x o nx h m => ?_, fun x o h m => ?_, fun x h => .inl h⟩
            · rw [upd_ne (ne_of_none h (fr c hcm))]; exact g7.keep x o nx h m
            · obtain ⟨o', h', m'⟩ := g7.ms x o h m
              exact ⟨o', by rw [upd_ne (ne_of_none h (fr c hcm))]; exact h', m'⟩
          have gg7 : G B H7 := hG.over _ _ _ _ s7.goes (hG.over _ _ _ _ s6.goes (hG.over _ _ _ _ s5.goes gg4))
          have gg8 : G B (upd H7 c (.lst (ws.set cc v))) := hG.over _ _ _ _ (goes_put hcs hBc) gg7
          exact ⟨_, u7, _, by have l1 := R5.len; have l2 := off5.1; have l3 := R3.len; rw [List.length_set]; omega, g8, gg8, R8, hi6, own6, n8, w7⟩
        · refine (hrl ?_).elim
          have l1 := R3.len
          have l2 := off5.1
          omega
      · have e : k = ds.length := by omega
        subst e
        rw [List.drop_length] at w3
        refine .inl ⟨hG.stops B H3 gg3, ?_⟩
        have RD := R3.nestD n3 nA nas R.sub own3 hi3
        exact ⟨N, A, H0, _, u3, F, RD, w3, fun A' σ' H' ρ' u' g R' q => k1 _ _ _ _ _ (g3.trans g) R' q, k2, fun A' σ' H' ρ' u' g R' q => k3 _ _ _ _ _ (g3.trans g) R' q, fun A' σ' H' ρ' u' g R' q => k4 _ _ _ _ _ (g3.trans g) R' q, k5⟩⟩
end
end DW

set_option Elab.async false
set_option linter.all false
set_option maxRecDepth 100000
set_option maxHeartbeats 2000000
namespace DW
open PySem PySem.Spec PyProof.Rows L2
/-! ### sorted(set(xs)), pairs of ints -/
def prD (p : Int × Int) : D := .tuple [.int p.1, .int p.2]
section
variable {X : Cx} {K : PySem.W.Frag}
theorem prs_of {A : Addr → Prop} {H : Hp} : ∀ {ps : List (Int × Int)} {xs : List V}, DaAll K A H xs (ps.map prD) → ∃ ks : List (Addr × List Int), xs = ks.map (fun p => V.ref p.1) ∧ ks.map (·.2) = ps.map (fun p => [p.1, p.2]) ∧ ∀ p ∈ ks, H p.1 = some (.tup (p.2.map V.int)) ∧ ¬ A p.1
  | [], _, h => by cases h; exact ⟨[], rfl, rfl, fun p hp => nomatch hp⟩
  | p :: ps, _, h => by
    rw [List.map_cons] at h
    cases h with
    | cons h1 h2 =>
      obtain ⟨ks, e1, e2, e3⟩ := prs_of h2
      cases h1 with
      | @tup a ys _ t1 t2 t3 =>
        have e : ys = [V.int p.1, V.int p.2] := DaAll.of_ints (ns := [p.1, p.2]) t3
        subst e
        refine ⟨(a, [p.1, p.2]) :: ks, by rw [List.map_cons, e1], by rw [List.map_cons, List.map_cons, e2], fun q hq => ?_⟩
        rcases List.mem_cons.mp hq with z | z
        · rw [z]; exact ⟨t1, t2⟩
        · exact e3 q z
@[simp] def wSortSet (w : WE) : WA := fun ρ u Q => w ρ u fun d u1 => ∃ ps : List (Int × Int), d = .list (ps.map prD) ∧ ps.length < 64 ∧ (∀ p ∈ ps, (0 ≤ p.1 ∧ p.1 < 64) ∧ (0 ≤ p.2 ∧ p.2 < 64)) ∧
  ∀ qs : List (Int × Int), qs.Nodup → (∀ p, p ∈ qs ↔ p ∈ ps) → Q (qs.map prD) u1
theorem pSortSet {a : Expr} {p p2 q pos : Pos} {w : WE} (hc : X.calm = true) (hu : X.A.units + 65 < cLine) (hg : Gl X "sorted") (hm : X.mg "sorted" = none) (hg2 : Gl X "set") (hm2 : X.mg "set" = none) (ha : PE X a (tBo X.K w))
    (na : starEach [a] X.env = (false, eval a X.env) :: starEach [] X.env := by rfl) (na2 : starEach [.Call (.Name "set" p2) [a] [] q] X.env = (false, eval (.Call (.Name "set" p2) [a] [] q) X.env) :: starEach [] X.env := by rfl) : PE X (.Call (.Name "sorted" p) [.Call (.Name "set" p2) [a] [] q] [] pos) (tF X.K (wSortSet w)) :=
  PEi (pe_callB (cr_sortedT hc) hg hm (by decide +kernel) (pa_cons (pe_callTy (cr_setOfT hc (by omega)) hg2 hm2 PyProof.Rows.boot_set (pa_cons ha pa_nil na) (by decide) (by decide) na rfl) pa_nil na2) (by decide) (by decide) na2 rfl) fun σ H Q ⟨N, A, H0, ρ, u, Qd, R, hw, k⟩ =>
    ⟨N, A, H0, ρ, u, _, R, hw, fun v H1 d u1 s1 m1 hd ⟨ps, e, hl, hb, qd⟩ => by
      subst e
      obtain ⟨l, xs, rfl, ha, hxs⟩ := hd.lists
      obtain ⟨ks, e1, e2, e3⟩ := prs_of hxs
      subst e1
      have hlen : ks.length = ps.length := by have := congrArg List.length e2; simpa using this
      refine ⟨l, ks, rfl, .inl (.inl ha), fun p hp => .inl (.inl (e3 p hp).1), by omega, fun a L hna hsub hall => ?_⟩
      have st2 : Step H1 (upd H1 a (SetTO X.prog X.w a L)) := Step.new hna
      have m2 : MInv A u1 X.K (upd H1 a (SetTO X.prog X.w a L)) := m1.new hna (fun m => m)
      have hin : ∀ p ∈ L, ∃ q ∈ ps, p.2 = [q.1, q.2] := fun p hp => by
        have : p.2 ∈ ks.map (·.2) := List.mem_map.mpr ⟨p, hsub p hp, rfl⟩
        rw [e2] at this
        obtain ⟨q, hq, e⟩ := List.mem_map.mp this
        exact ⟨q, hq, e.symm⟩
      refine ⟨a, L, 2, 64, rfl, upd_same, fun p hp => .inl (.inl (by rw [upd_ne (ne_of_none (e3 p (hsub p hp)).1 hna)]; exact (e3 p (hsub p hp)).1)), by decide, fun p hp => ?_, fun L' p pm nd hl2 _ hnp => ?_⟩
      · obtain ⟨q, hq, e⟩ := hin p hp
        rw [e]
        refine ⟨rfl, fun x hx => ?_⟩
        have := hb q hq
        simp only [List.mem_cons, List.not_mem_nil, or_false] at hx
        rcases hx with z | z
        · rw [z]; exact this.1
        · rw [z]; exact this.2
      · have hin' : ∀ p ∈ L', ∃ q ∈ ps, p.2 = [q.1, q.2] := fun p hp => hin p (pm.mem_iff.mp hp)
        have hgo : ∀ p ∈ L', (upd H1 a (SetTO X.prog X.w a L)) p.1 = some (.tup (p.2.map V.int)) ∧ ¬ A p.1 := fun p hp => by
          have := e3 p (hsub p (pm.mem_iff.mp hp))
          exact ⟨by rw [upd_ne (ne_of_none this.1 hna)]; exact this.1, this.2⟩
        have key : ∀ L' : List (Addr × List Int), (∀ p ∈ L', ∃ q ∈ ps, p.2 = [q.1, q.2]) → (∀ p ∈ L', (upd H1 a (SetTO X.prog X.w a L)) p.1 = some (.tup (p.2.map V.int)) ∧ ¬ A p.1) →
            ∃ qs : List (Int × Int), L'.map (·.2) = qs.map (fun q => [q.1, q.2]) ∧ DaAll X.K A (upd H1 a (SetTO X.prog X.w a L)) (L'.map fun q => V.ref q.1) (qs.map prD) := by
          intro L'
          induction L' with
          | nil => intro _ _; exact ⟨[], rfl, .nil⟩
          | cons z zs ih =>
            intro h1 h2
            obtain ⟨qs, f1, f2⟩ := ih (fun p hp => h1 p (List.mem_cons_of_mem _ hp)) (fun p hp => h2 p (List.mem_cons_of_mem _ hp))
            obtain ⟨q, _, e⟩ := h1 z List.mem_cons_self
            obtain ⟨g1, g2⟩ := h2 z List.mem_cons_self
            refine ⟨q :: qs, by rw [List.map_cons, List.map_cons, f1, e], ?_⟩
            rw [List.map_cons, List.map_cons]
            refine .cons (.tup g1 g2 ?_) f2
            rw [e]
            exact DaAll.ints [q.1, q.2]
        obtain ⟨qs, f1, f2⟩ := key L' hin' hgo
        have st3 : Step H1 (upd (upd H1 a (SetTO X.prog X.w a L)) p (.lst (L'.map fun q => V.ref q.1))) := st2.trans (Step.new hnp)
        have inj : ∀ x y : Int × Int, [x.1, x.2] = [y.1, y.2] → x = y := fun x y h => by
          simp only [List.cons.injEq, and_true] at h
          exact Prod.ext h.1 h.2
        refine k p _ _ (qs.map prD) u1 (s1.trans st3) (m2.newA hnp (fun m => m)) ((s1.trans st2).fresh hnp) upd_same (f2.goes (goes_and (Step.new hnp) hnp)) (qd qs ?_ fun q => ?_)
        · rw [f1] at nd
          exact nodup_of_map nd
        · have h1 : q ∈ qs ↔ [q.1, q.2] ∈ L'.map (·.2) := by
            rw [f1]
            exact ⟨fun h => List.mem_map.mpr ⟨q, h, rfl⟩, fun h => by obtain ⟨r, hr, e⟩ := List.mem_map.mp h; rw [← inj r q e]; exact hr⟩
          have h2 : q ∈ ps ↔ [q.1, q.2] ∈ ks.map (·.2) := by
            rw [e2]
            exact ⟨fun h => List.mem_map.mpr ⟨q, h, rfl⟩, fun h => by obtain ⟨r, hr, e⟩ := List.mem_map.mp h; rw [← inj r q e]; exact hr⟩
          rw [h1, h2]
          constructor
          · intro h
            obtain ⟨z, hz, e⟩ := List.mem_map.mp h
            exact List.mem_map.mpr ⟨z, hsub z (pm.mem_iff.mp hz), e⟩
          · intro h
            obtain ⟨z, hz, e⟩ := List.mem_map.mp h
            have := hall z hz
            obtain ⟨y, hy, e4⟩ := List.mem_map.mp this
            exact List.mem_map.mpr ⟨y, pm.mem_iff.mpr hy, by rw [e4, e]⟩⟩
end
end DW

set_option Elab.async false
set_option linter.all false
set_option maxRecDepth 100000
set_option maxHeartbeats 2000000
namespace DW
open PySem PySem.Spec PyProof.Rows L2
/-! ### a range object as a value -/
theorem Da.rngR {K : PySem.W.Frag} {A : Addr → Prop} {H : Hp} {v : V} {lo hi : Int} (h : Da K A H v (rngD lo hi)) : ∃ a, v = .ref a ∧ H a = some (.rng lo hi) := by
  generalize e : rngD lo hi = d at h
  cases h with
  | rng h1 h2 => simp only [rngD, PyData.dict.injEq, List.cons.injEq, Prod.mk.injEq, PyData.int.injEq, true_and, and_true] at e; obtain ⟨e1, e2⟩ := e; subst e1 e2; exact ⟨_, rfl, h1⟩
  | dctK => simp [xD, rngD] at e
  | dctN => simp [xD, rngD] at e
  | _ => simp [rngD, sD, eD, mD] at e
section
variable {X : Cx} {tg : Expr}
theorem cr_range1 : CallR X (.type "range") (fun vs H Q => ∃ j, vs = [V.int j] ∧ ∀ p, H p = none → Q (.ref p) (upd H p (.rng 0 j))) := by
  intro pins s σ H vs us Q I r h
  obtain ⟨j, rfl, q⟩ := h
  obtain ⟨u1, rfl, rj⟩ := vals1 r
  obtain ⟨t, rfl⟩ := rj
  refine call_range_1 ⟨.ref s.heap.objs.size, upd H s.heap.objs.size (.rng 0 j), I.laid (t' := _) (fun b o e => Heap.get?_push_of_some _ e) (Nat.le_refl _) ?_, rfl, q _ (I.hok.fresh (Nat.le_refl _))⟩
  exact ⟨_, _, _, Heap.get?_push_size _ rfl⟩
@[simp] def wRgO (w : WE) : WE := fun ρ u Q => w ρ u fun d u1 => ∃ j, d = .int j ∧ Q (rngD 0 j) u1
theorem pRgO {a : Expr} {p pos : Pos} {w : WE} (hg : Gl X "range") (hm : X.mg "range" = none) (h : PE X a (tD X.K w)) (he : starEach [a] X.env = (false, eval a X.env) :: starEach [] X.env := by rfl) : PE X (.Call (.Name "range" p) [a] [] pos) (tD X.K (wRgO w)) :=
  PEi (pe_callTy cr_range1 hg hm boot_range (pa_cons h pa_nil he) (by decide) (by decide) he rfl) fun σ H Q ⟨N, A, H0, ρ, u, Qd, R, hw, k⟩ =>
    ⟨N, A, H0, ρ, u, _, R, hw, fun v H1 d u1 s1 m1 hd ⟨j, e, q⟩ => by
      subst e
      cases hd
      exact ⟨j, rfl, fun p hp => k _ _ _ u1 (s1.trans (Step.new hp)) (m1.new hp (fun m => m)) (.rng upd_same (R.fresh (s1.fresh hp))) q⟩⟩
def iRgO (td : TE) : TI := fun σ H R => td σ H fun x H1 => ∃ a lo hi, x = .ref a ∧ H1 a = some (.rng lo hi) ∧ (-(2 ^ 62) ≤ lo ∧ lo < 2 ^ 62 ∧ -(2 ^ 62) ≤ hi ∧ hi < 2 ^ 62) ∧ R (Itr lo (hi - lo).toNat) H1
theorem pi_rgO {e : Expr} {td : TE} (he : PE X e td) : PI X tg e (iRgO td) := by
  refine ⟨fun pins s σ H R I h => ?_⟩
  refine thn (he.run pins s σ H _ I h) fun uu s1 ⟨x, H1, I1, rx, a, lo, hi, ex, hr, ⟨h1, h2, h3, h4⟩, q⟩ => ?_
  subst ex
  obtain rfl : uu = Value.ref a := rx
  obtain ⟨t, u, v, ho⟩ := (show ObjOk X.prog X.w H1 s1.heap a (.rng lo hi) from I1.hok a _ hr)
  have hR : IsRange s1.heap a lo hi 1 t u v := ho
  refine wpAny_pyIter_range hR (small_one h1 h2 h3 h4) ?_
  refine ⟨s1.heap.objs.size, [s1.heap.objs.size], _, _, H1, rfl, I1.kept (t' := s1.toks) fun b o e => Heap.get?_push_of_some _ e, turn_range _ lo (hi - lo).toNat, ?_, fun b hb => ?_, q⟩
  · have e1 : lo + ((0 : Nat) : Int) * 1 = lo := by simp
    have e2 : (((hi - lo).toNat : Nat) : Int) - ((0 : Nat) : Int) = Builtin.Range.rangeSize lo hi 1 := by rw [rangeSize_one]; split <;> omega
    show IsRangeIter _ _ (lo + ((0 : Nat) : Int) * 1) ((((hi - lo).toNat : Nat) : Int) - ((0 : Nat) : Int)) 1
    rw [e1, e2]
    exact Heap.get?_push_size _ rfl
  · have e : b = s1.heap.objs.size := by simpa using hb
    subst e
    exact I1.fpOk (Nat.le_refl _) (I1.hok.fresh (Nat.le_refl _))
@[simp] def wiRO (w : WE) : WA := fun ρ u Q => w ρ u fun d u1 => ∃ lo hi, d = rngD lo hi ∧ big62 lo ∧ big62 hi ∧ Q (rgD lo hi) u1
theorem piRgO {e : Expr} {w : WE} (h : PE X e (tD X.K w)) : PI X tg e (tIt X.K (wiRO w)) := PIi (pi_rgO h) fun σ H Q ⟨N, A, H0, ρ, u, Qd, R, hw, k⟩ =>
  ⟨N, A, H0, ρ, u, _, R, hw, fun v H1 d u1 s1 m1 hd ⟨lo, hi, e, b, b2, q⟩ => by
    subst e
    obtain ⟨a, rfl, ha⟩ := hd.rngR
    exact ⟨a, lo, hi, rfl, ha, ⟨b.1, b.2, b2.1, b2.2⟩, k (Itr lo (hi - lo).toNat) H1 (rgD lo hi) u1 s1 m1 it_rng q⟩⟩
end
end DW

set_option Elab.async false
set_option linter.all false
set_option maxRecDepth 100000
set_option maxHeartbeats 2000000
namespace DW
open PySem PySem.Spec PyProof.Rows L2
/-! ### a tuple backwards -/
section
variable {prog : Program} {w : World} {A : Around} {E : Value → Shared → Prop} {s : Shared}
theorem sliceApplied_rev {sl : Addr} {vs : Value} {n : Nat} {Q : Int × Int × Nat → Shared → Prop} (hs : s.heap.IsSliceOf sl .none .none vs) (pv : IsPart vs (some (-1)))
    (h : Q ((n : Int) - 1, -1, n) s) : wpAny (model prog w) A (Builtin.Slice.sliceApplied (.ref sl) (pure (n : Int))) Q E s := by
  obtain ⟨os, hos, hcs, hds⟩ := id hs
  unfold Builtin.Slice.sliceApplied Builtin.Slice.sliceFields
  refine wpAny_bind (wpAny_bind (wpAny_field hos hds (x := .none) rfl (wpAny_bind (wpAny_field hos hds (x := .none) rfl (wpAny_bind (wpAny_field hos hds (x := vs) rfl (wpAny_pure ?_)))))))
  refine wpAny_bind (HT.slicePart_ pv ?_)
  show wpAny _ _ (if ((-1 : Int) == 0) = true then _ else _) _ _ s
  rw [if_neg (by decide)]
  refine wpAny_bind (HT.slicePart_ .none (wpAny_bind (HT.slicePart_ .none (wpAny_bind (wpAny_pure ?_)))))
  show wpAny _ _ (match Builtin.Slice.sliceAdjust none none (-1) (n : Int) with | (lo, hi) => pure (lo, (-1 : Int), Builtin.Slice.slicePlaces lo hi (-1))) _ _ s
  have e1 : Builtin.Slice.sliceAdjust none none (-1) (n : Int) = ((n : Int) - 1, -1) := rfl
  rw [e1]
  have e2 : Builtin.Slice.slicePlaces ((n : Int) - 1) (-1) (-1) = n := by
    unfold Builtin.Slice.slicePlaces
    have h1 : ¬ (-1 : Int) > 0 := by omega
    simp only [h1, if_false]
    rw [show (- -1 : Int) = 1 from rfl, Int.ediv_one]
    split <;> omega
  show wpAny _ _ (pure ((n : Int) - 1, (-1 : Int), Builtin.Slice.slicePlaces ((n : Int) - 1) (-1) (-1))) _ _ s
  rw [e2]
  exact wpAny_pure h
theorem fmap_congr {α β : Type} {f g : α → Option β} : ∀ {l : List α}, (∀ x ∈ l, f x = g x) → l.filterMap f = l.filterMap g
  | [], _ => rfl
  | x :: l, h => by
    rw [List.filterMap_cons, List.filterMap_cons, h x List.mem_cons_self, fmap_congr fun y hy => h y (List.mem_cons_of_mem _ hy)]
theorem pick_rev (xs : Array Value) : ((List.range xs.size).filterMap fun (m : Nat) => xs[(((xs.size : Int) - 1) + (m : Int) * (-1)).toNat]?).toArray = xs.toList.reverse.toArray := by
  have e : ((List.range xs.size).filterMap fun (m : Nat) => xs[(((xs.size : Int) - 1) + (m : Int) * (-1)).toNat]?) = ((List.range xs.size).map fun k => xs.size - 1 - k).filterMap (xs[·]?) := by
    rw [List.filterMap_map]
    refine fmap_congr fun m hm => ?_
    have := List.mem_range.mp hm
    show _ = xs[xs.size - 1 - m]?
    congr 1
    omega
  rw [e, PySem.W.krv_range, List.filterMap_reverse, PySem.W.krv_all]
theorem getItem_tuple_rev {t sl : Addr} {items : Array Value} {vs : Value} {Q : Value → Shared → Prop} (ht : IsTup s.heap t items) (hs : s.heap.IsSliceOf sl .none .none vs) (pv : IsPart vs (some (-1)))
    (h : Q (.ref s.heap.objs.size) { s with heap := s.heap.push { cls := .type "tuple", data := .seq items.toList.reverse.toArray } })
    (hsz : items.size ≤ sizeLine) : wpAny (model prog w) A (getItem (.ref t) (.ref sl)) Q E s := by
  have htake : sizeOk (.seq items.toList.reverse.toArray) := by
    show items.toList.reverse.toArray.size ≤ sizeLine
    rw [List.size_toArray, List.length_reverse, Array.length_toList]
    omega
  obtain ⟨os, hos, hcs, hds⟩ := id hs
  have hTs : s.TypeIs (.ref sl) "slice" := ⟨os, hos, hcs⟩
  unfold getItem
  try with_reducible refine wpAny_holding ?_
  first | refine wpAny_bind (wpAny_pure ?_) | skip
  refine wpAny_bind (wpAny_sequenceKey ht.typeIs (by decide) ?_)
  refine wpAny_bind (wpAny_callSpecial?_slot (name := Str.ofString "__getitem__") ht.typeIs PyProof.Rows.slot_tuple_getitem
    (wpAny_call_entry PyProof.Rows.slot_tuple_getitem ht.typeIs entry_tuple_getitem ?_ (args_tuple_getitem _ _)))
  show wpAny _ _ (Builtin.Tuple.tupleItemsOf (.ref t) >>= _) _ _ s
  refine wpAny_bind (tupleItemsOf_ ht ?_)
  refine wpAny_bind (wpAny_typeOf hTs ?_)
  rw [if_pos (by decide)]
  refine wpAny_bind (sliceApplied_rev hs pv ?_)
  show wpAny _ _ (if (((items.size : Int) - 1) == 0 && (-1 : Int) == 1 && items.size == items.size) = true then _ else _) _ _ s
  rw [if_neg (by simp), pick_rev]
  first
    | exact wpAny_bind (m := Builtin.Tuple.tupleExact _) (wpAny_newObj_type (wpAny_pure ⟨_, rfl, wpAny_pure h⟩) htake)
    | exact wpAny_bind (m := Builtin.Tuple.tupleExact _) (wpAny_newObj_type (wpAny_bind (wpAny_pure (wpAny_pure ⟨_, rfl, wpAny_pure h⟩))) htake)
    | exact wpAny_bind (wpAny_bind (m := Builtin.Tuple.tupleExact _) (wpAny_newObj_type (wpAny_pure (wpAny_pure ⟨_, rfl, wpAny_pure h⟩)) htake))
    | exact wpAny_bind (wpAny_bind (m := Builtin.Tuple.tupleExact _) (wpAny_newObj_type (wpAny_pure ⟨_, rfl, wpAny_pure h⟩) htake))
end
section
variable {X : Cx} {W : XK}
def tRevT (K : PySem.W.Frag) (te : TE) : TE := fun σ H Q => te σ H fun x H1 => ∃ a xs, x = .ref a ∧ SqT K H1 a xs ∧ ∀ p, H1 p = none → Q (.ref p) (upd H1 p (.tup xs.reverse))
theorem pe_revT {e : Expr} {te : TE} {k : Nat} {p1 p2 p3 pos : Pos} (he : PE X e te) : PE X (.Subscript e (.Slice none none (some (.UnaryOp .USub (.Constant (.int 1) k p1) p2)) p3) pos) (tRevT X.K te) := by
  refine ⟨fun pins s σ H Q I h => ?_⟩
  refine Subscript_ (thn (he.run pins s σ H _ I h) fun v s1 ⟨x, H1, I1, r1, q1⟩ => ?_)
  obtain ⟨a, xs, ex, hx, q⟩ := q1
  subst ex
  cases r1
  have hst : PO X (some (.UnaryOp .USub (.Constant (.int 1) k p1) p2)) (tPart (tUn (rU fun i => .int (-i)) (tC (.int 1)))) := po_some (pe_un un_neg pe_int)
  refine wpAny_Slice (thn (po_none.run pins s1 σ H1 (fun o H2 => o = none ∧ H2 = H1) I1 ⟨rfl, rfl⟩) fun vl s2 ⟨l, H2, I2, pl, el, e2⟩ => ?_)
  subst el e2
  refine thn (po_none.run pins s2 σ H2 (fun o H3 => o = none ∧ H3 = H2) I2 ⟨rfl, rfl⟩) fun vu s3 ⟨u, H3, I3, pu, eu, e3⟩ => ?_
  subst eu e3
  refine thn (hst.run pins s3 σ H3 (fun o H4 => o = some (-1) ∧ H4 = H3) I3 ⟨1, rfl, -1, rfl, rfl, rfl⟩) fun vs s4 ⟨o, H4, I4, ps, eo, e4⟩ => ?_
  subst eo e4
  have I5 : Inv X pins σ H4 { s4 with heap := s4.heap.push { cls := .type "slice", data := .fields #[vl, vu, vs] } } := I4.kept (t' := s4.toks) fun b ob q => Heap.get?_push_of_some _ q
  obtain ⟨its, r, ht, hz⟩ := I5.tuple hx
  have hlen := r.length
  have e0 : vl = .none := by cases pl; rfl
  have e1 : vu = .none := by cases pu; rfl
  subst e0 e1
  show wpAny (model X.prog X.w) X.A (subscriptTail e (.Slice none none (some (.UnaryOp .USub (.Constant (.int 1) k p1) p2)) p3) (.ref a) (.ref s4.heap.objs.size)) (EP X pins σ Q) X.xe _
  refine tail_any (ops := [.ref a, .ref s4.heap.objs.size]) ht.typeIs (PyProof.Rows.slot_tuple_getitem.lookup) ?_ (by with_unfolding_all rfl)
  refine getItem_tuple_rev ht (Heap.IsSliceOf.new _ .none .none vs) ps ?_ (by rw [List.size_toArray]; omega)
  refine ⟨.ref _, _, I5.laid (t' := s4.toks) (o := .tup xs.reverse) (fun b ob q => Heap.get?_push_of_some _ q) (Nat.le_refl _) ?_, rfl, q _ (I5.hok.fresh (Nat.le_refl _))⟩
  exact ⟨by rw [List.length_reverse]; exact hz, _, r.reverse, IsTup.new _ _⟩
/-- a tuple backwards, as data -/
@[simp] def wRevT (w : WE) : WE := fun ρ u Q => w ρ u fun d u1 => ∃ xs, d = .tuple xs ∧ Q (.tuple xs.reverse) u1
theorem DaAll.rev {K : PySem.W.Frag} {A : Addr → Prop} {H : Hp} {vs : List V} {ds : List D} (h : DaAll K A H vs ds) : DaAll K A H vs.reverse ds.reverse := by
  induction vs generalizing ds with
  | nil => cases h; exact .nil
  | cons v vs ih =>
    cases h with
    | cons h1 h2 =>
      rw [List.reverse_cons, List.reverse_cons]
      exact (ih h2).append (.cons h1 .nil)
theorem pRevT {e : Expr} {w : WE} {k : Nat} {p1 p2 p3 pos : Pos} (he : PE X e (tBo X.K w)) : PE X (.Subscript e (.Slice none none (some (.UnaryOp .USub (.Constant (.int 1) k p1) p2)) p3) pos) (tD X.K (wRevT w)) :=
  PEi (pe_revT he) fun σ H Q ⟨N, A, H0, ρ, u, Qd, R, hw, k⟩ => ⟨N, A, H0, ρ, u, _, R, hw, fun x H1 c u1 s1 m1 hx ⟨xs, e, q⟩ => by
    subst e
    obtain ⟨a, vs, rfl, ha, na, hxs⟩ := hx.tuples
    exact ⟨a, vs, rfl, .inl (.inl ha), fun p hp => k _ _ _ u1 (s1.trans (Step.new hp)) (m1.new hp (fun m => m)) (.tup upd_same (R.fresh (s1.fresh hp)) (hxs.rev.goes (Step.new hp).goes)) q⟩⟩
/-! a, b = xs.pop() -/
@[simp] def wPopU (b : WB) (i : Nat) : WS := fun F ρ u => ∃ xs x, ρ[i]? = some (some (SV.own (xs ++ [x]))) ∧ ∃ ρ', b x (ρ.set i (some (.own xs))) = some ρ' ∧ F.nx ρ' u
theorem psPopU {st : Stmt} {is : List Nat} {b : WB} {i : Nat} (h : PS X st (tAsg (tBM0 X.K "list" rPop (tVar i)) (tGt X.K is b))) : PS X st (tSx X.K W (wPopU b i)) := PSi h fun E σ H ⟨N, A, H0, ρ, u, F, R, ⟨xs, x, e0, ρ', e1, hq⟩, k1, k2, k3, k4, k5⟩ => by
  obtain ⟨a, vs, h1, h2, h3, h4, h5⟩ := R.own i _ e0
  obtain ⟨v, hv, hd, hr⟩ := h3.last
  have g := goes_put (vs' := vs.dropLast) h2 h4
  refine ⟨.ref a, h1, .inl ⟨rfl, vs, .inl (.inl h2)⟩, a, vs, v, rfl, rfl, h2, hv, ?_⟩
  exact ⟨N, A, H0, _, ρ', u, x, R.putOwn e0 h1 h2 h4 h5 hr, hd.goes g, e1, fun σ' _ R' => k1 A _ _ _ u g R' hq⟩
/-! x in (a, b), ints -/
@[simp] def fInF (neg : Bool) : D → D → (D → Prop) → Prop
  | .int i, .tuple ds, Q => ∃ ns : List Int, ds = ns.map .int ∧ Q (.bool (if neg then !decide (i ∈ ns) else decide (i ∈ ns)))
  | _, _, _ => False
theorem inV_num {i : Int} : ∀ {ns : List Int}, inV (V.int i) (ns.map V.int) = decide (i ∈ ns)
  | [] => rfl
  | n :: ns => by
    have ih := inV_num (i := i) (ns := ns)
    unfold inV at ih ⊢
    rw [List.map_cons, List.any_cons, ih]
    have e : eqV (V.int n) (V.int i) = decide (n = i) := by
      by_cases h : n = i <;> simp [eqV, h]
    rw [e]
    by_cases h1 : n = i <;> by_cases h2 : i ∈ ns <;> simp [h1, h2, eq_comm]
    exact fun z => h1 z.symm
theorem flat_nums : ∀ ns : List Int, (ns.map V.int).all flatV = true
  | [] => rfl
  | _ :: ns => by rw [List.map_cons, List.all_cons, flat_nums ns]; rfl
theorem od_inF {K : PySem.W.Frag} {neg : Bool} : OpD K (rIn K neg) (fInF neg) := fun N A H x y c d Q Qd u hf hm hx hy h k => by
  cases c <;> cases d <;> try exact h.elim
  obtain ⟨ns, rfl, q⟩ := h
  rw [hx.ints]
  obtain ⟨a, xs, rfl, ha, na, hxs⟩ := hy.tuples
  have e := DaAll.of_ints hxs
  subst e
  refine ⟨a, _, rfl, .inr (.inl (.inl ha)), rfl, flat_nums ns, ?_⟩
  rw [inV_num]
  exact k _ H _ (Step.refl H) hm (.bl _) q
end
end DW

set_option Elab.async false
set_option linter.all false
set_option maxRecDepth 100000
set_option maxHeartbeats 3200000
namespace DW
open PySem PySem.Spec PyProof.Rows L2
/-! ### sorted(set(xs)), ints -/
abbrev emp (b : Bool) : Obj := { cls := .type "set", dict := none, data := .set #[] 0 (.fresh 0 0 (!b)) }
section
variable {P : Program} {w : World} {A : Around} {E : Value → Shared → Prop} {s : Shared}
theorem call_set_listI {l : Addr} {items : Array Value} (ns : List Int) {Q : Value → Shared → Prop} (hh : A.handled = none) (hl : s.heap.IsList l items) (hit : IntsAre items.toList ns) (hb : ns.length + 1 < scanBound)
    (h : ∀ (h' : Heap) (tk c : Nat), SetR w h' s.heap.objs.size (fun j => decide (j ∈ ns)) c → c ≤ ns.length → (∀ b o, s.heap.get? b = some o → h'.get? b = some o) → Q (.ref s.heap.objs.size) { s with heap := h', toks := tk }) :
    wpAny (model P w) A (call (.type "set") [.ref l]) Q E s := by
  have sz : items.size = ns.length := by have q := IntsAre.length hit; rwa [Array.length_toList] at q
  obtain ⟨c, tl, hmro⟩ := F.called_set.mro
  have m1 := F.called_set.made
  have m2 := F.called_set.sub
  refine wpAny_call (codeAny_of_tree ?_)
  show wpAny _ _ (callAny (.type "set") _) _ _ _
  refine wpAny_pure ⟨Code.quiet_builtin _ (by decide +kernel), codeAny_builtin F.entry_type_call ?_⟩
  rw [Around.under_plain (weight_type_call_type "set" [.ref l] []) rfl]
  have m3 := F.called_set.notType
  have m4 := F.called_set.canCreate
  have m5 := F.typeCall_set_1 (.ref l)
  repeat (any_goals (first | assumption | wp_step))
  generalize hb0 : w.params.followText "set-order" = bt
  refine codeAny_mono (code_set_led1 (.ref l) (E := E) (Q₁ := fun obj s₁ => obj = .ref s.heap.objs.size ∧ s₁ = { s with heap := s.heap.push (emp bt) }) ⟨rfl, by rw [hb0]⟩) fun r s₁ hr => ?_
  cases r with
  | error e => exact hr
  | ok fl =>
    cases fl with
    | ret obj =>
      obtain ⟨rfl, rfl⟩ := hr
      have hS : (s.heap.push (emp bt)).get? s.heap.objs.size = some (emp bt) := Heap.get?_push_size _ rfl
      have hT : Shared.TypeIs { s with heap := s.heap.push (emp bt) } (.ref s.heap.objs.size) "set" := ⟨_, hS, rfl⟩
      have i1 := F.called_set.init.lookup
      have i2 := F.called_set.init.bind (.ref s.heap.objs.size)
      repeat (any_goals (first | assumption | wp_step))
      refine codeAny_mono (codeAny_call_builtin (R := wants (fun r s₂ => r = .none ∧ ∃ h' tk c, s₂ = { s with heap := h', toks := tk } ∧ SetR w h' s.heap.objs.size (fun j => decide (j ∈ ns)) c ∧ c ≤ ns.length ∧
          (∀ b o, s.heap.get? b = some o → h'.get? b = some o)) E) F.called_set.init.plain F.entry_set_init (check_set_init_1 hT ?_)) fun r₂ s₂ hr₂ => ?_
      · obtain ⟨ol, hol, hcl, nl, hdl⟩ := hl
        obtain ⟨ocls, odict, odata, oslots⟩ := ol
        simp only at hcl hdl
        subst hcl; subst hdl
        have hol2 : (s.heap.push (emp bt)).get? l = some { cls := .type "list", dict := odict, data := .seq items nl, slots := oslots } := Heap.get?_push_of_some _ hol
        have j1 := F.sub_list_set
        have j2 := F.sub_list_frozenset
        have j3 : (Value.type "list" == Value.type "dict") = false := by decide
        have hl2 : (s.heap.push (emp bt)).IsList l items := ⟨_, hol2, rfl, nl, rfl⟩
        unfold Builtin.«set.__init__» noKeywords Builtin.Frozenset.updateFrom
        generalize hPI : pyIter = PI
        wp_walk
        subst hPI
        refine wpAny_pyIter_list hl2 ?_
        refine wpAny_bind (wpAny_runValue ?_)
        have lt0 : l < s.heap.objs.size := Heap.lt_size hol
        have h3 : A.in1.in1.in1.handled = none := by simp [hh]
        have ps : (s.heap.push (emp bt)).objs.size = s.heap.objs.size + 1 := Heap.size_push ..
        have ne1 : l ≠ (s.heap.push (emp bt)).objs.size := by rw [ps]; exact Nat.ne_of_lt (Nat.lt_succ_of_lt lt0)
        have nin : s.heap.objs.size ∉ [(s.heap.push (emp bt)).objs.size, l] := by
          rw [ps]
          simp only [List.mem_cons, List.not_mem_nil, or_false, not_or]
          exact ⟨Nat.ne_of_lt (Nat.lt_succ_self _), Nat.ne_of_gt lt0⟩
        have val : ∀ (i : Nat) (v : Value), items[i]? = some v → ∃ k t, ns[i]? = some k ∧ v = .int k t := fun i v hv => by
          have hi : i < ns.length := by rw [← sz]; exact (Array.getElem?_eq_some_iff.mp hv).1
          obtain ⟨t, e⟩ := PyProof.Rows.IntsAre.int_at hit i v (by rw [Array.getElem?_toList]; exact hv)
          exact ⟨ns[i], t, List.getElem?_eq_getElem hi, by rw [e]; simp [List.getD, hi]⟩
        refine set_update_ints ((Walks.list h3 _ l ne1 items).toS) s.heap.objs.size nin ns sz hb val (items.size - 0) 0 _ (by omega) (Nat.zero_le _) ⟨⟨_, Heap.get?_push_size _ rfl, rfl, rfl⟩, (hl2.push _)⟩ ?hS0 ?hR
        case hS0 =>
          refine ⟨0, Nat.le_refl 0, setR_new_at ?_⟩
          rw [hb0]
          exact Heap.get?_push_of_some _ hS
        case hR =>
          intro s' c' hm hc' hS'
          obtain ⟨h', g2, d', tk', os'⟩ := s'
          have eg : g2 = s.gens := hm.gens
          have ed : d' = s.drawn := hm.drawn
          have eo : os' = s.os := hm.os
          subst eg; subst ed; subst eo
          show wpAny _ _ _ _ _ _
          refine wpAny_pure ?_
          show wpAny _ _ (ret Value.none) _ _ _
          rw [sz] at hc'
          refine wpAny_pure ⟨rfl, h', tk', c', rfl, hS', hc', fun b o e => ?_⟩
          have b0 : b < s.heap.objs.size := Heap.lt_size e
          refine hm.heap b o ?_ (Heap.get?_push_of_some _ (Heap.get?_push_of_some _ e))
          simp only [List.mem_cons, List.not_mem_nil, or_false, not_or]
          exact ⟨Nat.ne_of_lt b0, by rw [ps]; exact Nat.ne_of_lt (Nat.lt_succ_of_lt b0)⟩
      · cases r₂ with
        | error e => exact hr₂
        | ok fl₂ =>
          cases fl₂ with
          | ret r =>
            obtain ⟨rfl, h', tk, c', rfl, z1, z2, z3⟩ := hr₂
            repeat (any_goals (first | assumption | wp_step))
            exact h _ _ _ z1 z2 z3
          | _ => exact hr₂.elim
    | _ => exact hr.elim
end
section
variable {X : Cx}
def rSetI (K : PySem.W.Frag) (w : World) : List V → Hp → VK → Prop := fun vs H Q => ∃ (l : Addr) (ns : List Int), vs = [V.ref l] ∧ SqL K H l (ns.map V.int) ∧ ns.length < 64 ∧
  ∀ (p : Addr) (c : Nat), H p = none → c ≤ ns.length → Q (.ref p) (upd H p (SetO w p (fun j => decide (j ∈ ns)) c))
theorem cr_setI (hc : X.calm = true) : CallR X (.type "set") (rSetI X.K X.w) := by
  intro pins s σ H vs us Q I r h
  obtain ⟨l, ns, rfl, hs, hl, q⟩ := h
  obtain ⟨its, rv, pl, hz⟩ := I.list hs
  rw [Vals.ref1 r]
  refine call_set_listI ns (I.ok.hd hc) pl.isList (by simpa using rv.ints) (by unfold scanBound; omega) fun h' tk c hS hc' hk => ?_
  exact ⟨.ref _, _, I.laid (t' := tk) (o := SetO X.w s.heap.objs.size (fun j => decide (j ∈ ns)) c) (fun b o e => hk b o e) (Nat.le_refl _) (setO_new hS), rfl, q _ c (I.hok.fresh (Nat.le_refl _)) hc'⟩
/-- sorted(set(xs)), ints, fewer than 64 -/
@[simp] def wSortSetI (w : WE) : WA := fun ρ u Q => w ρ u fun d u1 => ∃ ns : List Int, d = .list (ns.map .int) ∧ ns.length < 64 ∧ ∀ ms : List Int, ms.Pairwise (· < ·) → (∀ k, k ∈ ms ↔ k ∈ ns) → Q (ms.map .int) u1
theorem pSortSetI {a : Expr} {p p2 q pos : Pos} {w : WE} (hc : X.calm = true) (hg : Gl X "sorted") (hm : X.mg "sorted" = none) (hg2 : Gl X "set") (hm2 : X.mg "set" = none) (ha : PE X a (tBo X.K w))
    (na : starEach [a] X.env = (false, eval a X.env) :: starEach [] X.env := by rfl) (na2 : starEach [.Call (.Name "set" p2) [a] [] q] X.env = (false, eval (.Call (.Name "set" p2) [a] [] q) X.env) :: starEach [] X.env := by rfl) : PE X (.Call (.Name "sorted" p) [.Call (.Name "set" p2) [a] [] q] [] pos) (tF X.K (wSortSetI w)) :=
  PEi (pe_callB (cr_sortedSet hc) hg hm (by decide +kernel) (pa_cons (pe_callTy (cr_setI hc) hg2 hm2 PyProof.Rows.boot_set (pa_cons ha pa_nil na) (by decide) (by decide) na rfl) pa_nil na2) (by decide) (by decide) na2 rfl) fun σ H Q ⟨N, A, H0, ρ, u, Qd, R, hw, k⟩ =>
    ⟨N, A, H0, ρ, u, _, R, hw, fun v H1 d u1 s1 m1 hd ⟨ns, e, hl, qd⟩ => by
      subst e
      obtain ⟨a, xs, rfl, h1, h2⟩ := hd.lists
      have e := DaAll.of_ints h2
      subst e
      refine ⟨a, ns, rfl, .inl (.inl h1), hl, fun p c hp hc' => ?_⟩
      refine ⟨p, _, c, rfl, upd_same, by omega, fun ms p2 h3 h4 h5 h6 => ?_⟩
      have st := Step.new (o := SetO X.w p (fun j => decide (j ∈ ns)) c) hp
      have m2 := m1.new (o := SetO X.w p (fun j => decide (j ∈ ns)) c) hp (fun m => m)
      exact k p2 (ms.map V.int) _ (ms.map .int) u1 (s1.trans (st.trans (Step.new h6))) (m2.newA h6 (fun m => m)) ((s1.trans st).fresh h6) upd_same (DaAll.ints ms) (qd ms h3 fun j => (h4 j).trans decide_eq_true_iff)⟩
/-! f(b=.., a=..): two names, the other way round -/
@[simp] def wFnSw (W : WF) (ws : WA) : WE := fun ρ u Q => ws ρ u fun ds u1 => W u1 ds.reverse Q
theorem pFnSw {k : Nat} {f : Addr} {fd : FuncData} {ps ks : List Str} {x : Str} {p pos : Pos} {kws : List Keyword} {W : WF} {ws : WA} (F : FnOk X.prog X.w X.K X.mg X.base CX0 k f fd ps (spD X.K W)) (hr : Room k X.A) (hg : Gl X x) (hm : X.mg x = some (.ref f)) (hk : PySem.W.keepIn X.K (.ref f) = true) (hb : NBinds X.K fd ps ks List.reverse)
    (ha : PK X kws (tAr X.K ws)) (hdb : (x == ("__debug__" : Str)) = false := by decide) (hall : (backToKw pos (keywordEach kws X.env)).all (·.1.isSome) = true := by rfl) (hks : (backToKw pos (keywordEach kws X.env)).filterMap (·.1) = ks := by rfl)
    (hpl : ((backTo pos (starEach [] X.env)).any (·.1) || (backToKw pos (keywordEach kws X.env)).any (·.1.isNone)) = false := by rfl) : PE X (.Call (.Name x p) [] kws pos) (tD X.K (wFnSw W ws)) := by
  refine ⟨fun pins s σ H Q I hq => ?_⟩
  refine wpAny_Call_Name_kw (ld_glob I hg hm ?_ hdb)
  have q0 : tAr X.K ws σ H fun vs H1 => spD X.K W vs.reverse H1 Q fun _ _ _ => False := by
    obtain ⟨N, A, H0, ρ, u, Qd, R, hw, k⟩ := hq
    exact ⟨N, A, H0, ρ, u, _, R, hw, fun vs H1 ds u1 s1 m1 hd q =>
      ⟨A, ds.reverse, u1, Qd, fun a h => s1.there (R.trk a h), m1, hd.rev, q, fun v H2 d u2 s2 m2 hd2 q2 => k v H2 d u2 (s1.trans s2) m2 hd2 q2⟩⟩
  refine PySem.W.callWith_KW0 (h₀ := X.base) I.ok.mod.kin hk hall (thn (ha.run pos pins s σ H _ I q0) fun us s1 ⟨vs, H1, I1, r, q⟩ => ⟨I1.kIn, ?_⟩) hpl
  rw [hks]
  have hl : us.length = ps.length := by
    have := F.len _ _ _ _ q
    rw [List.length_reverse] at this
    rw [← r.length]; exact this
  refine wpAny_call (codeAny_mono (F.run X.A X.stack s1 H1 ⟨[], ks.zip us⟩ us.reverse vs.reverse Q _ hr I1.env0 (hb s1 us I1.kIn hl) r.reverse q) fun res s' hq' => ?_)
  cases res with
  | error e => exact pass0 pins σ H1 s1 e s' I1 hq'
  | ok fl =>
    cases fl with
    | ret u => exact I1.after hq'
    | next => exact hq'.elim
    | brk => exact hq'.elim
    | cont => exact hq'.elim
end
end DW

set_option Elab.async false
set_option linter.all false
set_option maxRecDepth 100000
set_option maxHeartbeats 2000000
namespace DW
open PySem PySem.Spec PyProof.Rows L2
/-! ### lists without doubles -/
theorem nodup_le {α : Type} : ∀ {l m : List α}, l.Nodup → (∀ x ∈ l, x ∈ m) → l.length ≤ m.length
  | [], m, _, _ => Nat.zero_le _
  | x :: l, m, nd, h => by
    obtain ⟨h1, h2⟩ := List.nodup_cons.mp nd
    obtain ⟨a, b, e⟩ := List.append_of_mem (h x List.mem_cons_self)
    have : l.length ≤ (a ++ b).length := nodup_le h2 fun y hy => by
      have := h y (List.mem_cons_of_mem _ hy)
      rw [e] at this
      rcases List.mem_append.mp this with z | z
      · exact List.mem_append_left _ z
      · rcases List.mem_cons.mp z with z | z
        · rw [z] at hy; exact absurd hy h1
        · exact List.mem_append_right _ z
    rw [e]
    simp at this ⊢
    omega
/-- as long as one without doubles that has the same items -/
theorem nodup_of_le {α : Type} : ∀ {l m : List α}, (∀ x ∈ l, x ∈ m) → m.Nodup → (∀ x ∈ m, x ∈ l) → l.length ≤ m.length → l.Nodup := by
  intro l m h1 nd h2 hl
  by_cases h : l.Nodup
  · exact h
  · exfalso
    have : ∃ l' : List α, l'.length < l.length ∧ ∀ x ∈ l, x ∈ l' := by
      clear h1 nd h2 hl
      induction l with
      | nil => exact absurd List.nodup_nil h
      | cons x l ih =>
        by_cases hx : x ∈ l
        · exact ⟨l, by simp, fun y hy => (List.mem_cons.mp hy).elim (fun e => by rw [e]; exact hx) id⟩
        · obtain ⟨l', a, b⟩ := ih fun z => h (List.nodup_cons.mpr ⟨hx, z⟩)
          exact ⟨x :: l', by simp; omega, fun y hy => (List.mem_cons.mp hy).elim (fun e => by rw [e]; exact List.mem_cons_self) fun z => List.mem_cons_of_mem _ (b y z)⟩
    obtain ⟨l', a, b⟩ := this
    have := nodup_le nd fun x hx => b x (h2 x hx)
    omega
/-- one within another, both without doubles and as long: the other is within the one -/
theorem nodup_sub {α : Type} {l m : List α} (nd : l.Nodup) (h : ∀ x ∈ l, x ∈ m) (hl : m.length ≤ l.length) : ∀ x ∈ m, x ∈ l := by
  intro x hx
  apply Classical.byContradiction
  intro hn
  have : (x :: l).Nodup := List.nodup_cons.mpr ⟨hn, nd⟩
  have := nodup_le this (m := m) fun y hy => (List.mem_cons.mp hy).elim (fun e => by rw [e]; exact hx) (h y)
  simp at this
  omega
section
variable {X : Cx} {K : PySem.W.Frag}
/-! ### xs.count(i), sum(xs): ints -/
@[simp] def wCount (wa wb : WE) : WE := fun ρ u Q => wa ρ u fun c u1 => ∃ ns : List Int, c = .list (ns.map .int) ∧ wb ρ u1 fun d u2 => ∃ k : Int, d = .int k ∧ Q (.int (ns.count k : Nat)) u2
theorem pCount {o e : Expr} {apos cpos : Pos} {wa wb : WE} (ho : PE X o (tBo X.K wa)) (h : PE X e (tBo X.K wb)) (hbase : attributeBase o "count" X.env (eval o X.env) = eval o X.env := by rfl)
    (hfew : ((backTo cpos (starEach [e] X.env)).all (fun x => !x.1) && (backToKw cpos (keywordEach [] X.env)).all (fun x => x.1.isSome)
      && decide ([e].length + ([] : List Keyword).length + (if ([] : List Keyword).isEmpty then 0 else 1) < 30)) = true := by rfl)
    (hline : (apos.endLine == cpos.line) = true := by rfl) (hs : starEach [e] X.env = (false, eval e X.env) :: starEach [] X.env := by rfl) (hplain : (backTo cpos (starEach [] X.env)).any (·.1) = false := by rfl) :
    PE X (.Call (.Attribute o "count" apos) [e] [] cpos) (tD X.K (wCount wa wb)) :=
  PEi (pe_bm PySem.F.plainAttrs_list PySem.F.slot_list_count PySem.F.type_list_count mt_lcount ho (pa_cons h pa_nil hs) hbase hfew hline hs hplain) fun σ H Q ⟨N, A, H0, ρ, u, Qd, R, hw, k⟩ =>
    ⟨N, A, H0, ρ, u, _, R, hw, fun x H1 c u1 s1 m1 hx ⟨ns, e, q1⟩ => by
      subst e
      obtain ⟨a, xs, rfl, ha, hxs⟩ := hx.lists
      rw [DaAll.of_ints hxs] at ha
      refine ⟨.inl ⟨rfl, _, .inl (.inl ha)⟩, N, A, H0, ρ, u1, _, R.go s1 m1, q1, fun y H2 d u2 s2 m2 hy ⟨k2, e, q⟩ => ?_⟩
      subst e
      rw [hy.ints]
      exact ⟨a, ns, k2, rfl, rfl, .inl (.inl (s2.keep _ _ ha (fun m => m))), k _ _ _ u2 (s1.trans s2) m2 (.int _) q⟩⟩
def fSum : List D → (D → Prop) → Prop := fun ds Q => ∃ ns : List Int, ds = [.list (ns.map .int)] ∧ Q (.int ns.sum)
theorem cd_sum : CallD K (rSum K) fSum := fun N A H xs ds Q Qd u hf hm hx ⟨ns, e, q⟩ k => by
  obtain ⟨v, rfl, hv⟩ := db1 hx e
  obtain ⟨a, vs, rfl, ha, hvs⟩ := hv.lists
  rw [DaAll.of_ints hvs] at ha
  exact ⟨a, ns, rfl, .inl (.inl ha), k _ H _ (Step.refl H) hm (.int _) q⟩
/-! ### is True, is False -/
@[simp] def fIsB (neg : Bool) : D → D → (D → Prop) → Prop
  | .bool a, .bool b, Q => Q (.bool (if neg then !decide (a = b) else decide (a = b)))
  | _, _, _ => False
theorem od_isB : OpD K (fun x y H Q => ∃ a b, x = V.bl a ∧ y = V.bl b ∧ Q (.bl (decide (a = b))) H) (fIsB false) := fun N A H x y c d Q Qd u hf hm hx hy h k => by
  cases c <;> cases d <;> try exact h.elim
  rw [hx.bools, hy.bools]
  exact ⟨_, _, rfl, rfl, k _ H _ (Step.refl H) hm (.bl _) h⟩
theorem od_notB : OpD K (fun x y H Q => ∃ a b, x = V.bl a ∧ y = V.bl b ∧ Q (.bl (!decide (a = b))) H) (fIsB true) := fun N A H x y c d Q Qd u hf hm hx hy h k => by
  cases c <;> cases d <;> try exact h.elim
  rw [hx.bools, hy.bools]
  exact ⟨_, _, rfl, rfl, k _ H _ (Step.refl H) hm (.bl _) h⟩
/-! ### len(set(xs)), pairs of ints -/
def rLenTO (P : Program) (w : World) : List V → Hp → VK → Prop := fun xs H Q => ∃ (a : Addr) (L : List (Addr × List Int)), xs = [.ref a] ∧ H a = some (SetTO P w a L) ∧ ((L.map (·.2)).Nodup → L.length < 64 → Q (.int (L.length : Nat)) H)
theorem cr_lenTO : CallR X (.builtin "len") (rLenTO X.prog X.w) := by
  intro pins s σ H vs us Q I r h
  obtain ⟨a, L, rfl, ha, q⟩ := h
  have R0 : SetT0 X.prog X.w s.heap a L := (I.hok a _ ha).1
  obtain ⟨es, ep, t, ⟨o, ho, hex, hd⟩, h2, h3, h4, h5, h6, h7, h8⟩ := R0.ex
  have hs : es.size = L.length := by
    have h := congrArg List.length h2
    unfold rowsOf at h
    rw [Array.length_toList, List.length_map] at h
    exact h
  have hfit : t.fits es.size = true := by
    have h1 := h3.sz
    rw [List.length_map] at h1
    unfold SetTable.fits SetTable.fill
    rw [h3.dm, hs, h1]
    simp
    omega
  rw [Vals.ref1 r]
  exact call_len_set ho hex hd hfit (by rw [hs]; omega) ⟨.int (L.length : Nat), H, I.tok _, ⟨_, by rw [hs]⟩, q h4 h8⟩
@[simp] def wLenSetP (w : WE) : WE := fun ρ u Q => w ρ u fun d u1 => ∃ ps : List (Int × Int), d = .list (ps.map prD) ∧ ps.length < 64 ∧ ∀ n : Nat, (n = ps.length ↔ ps.Nodup) → Q (.int (n : Nat)) u1
theorem pLenSetP {a : Expr} {p p2 q pos : Pos} {w : WE} (hc : X.calm = true) (hu : X.A.units + 65 < cLine) (hg : Gl X "len") (hm : X.mg "len" = none) (hg2 : Gl X "set") (hm2 : X.mg "set" = none) (ha : PE X a (tBo X.K w))
    (na : starEach [a] X.env = (false, eval a X.env) :: starEach [] X.env := by rfl) (na2 : starEach [.Call (.Name "set" p2) [a] [] q] X.env = (false, eval (.Call (.Name "set" p2) [a] [] q) X.env) :: starEach [] X.env := by rfl) : PE X (.Call (.Name "len" p) [.Call (.Name "set" p2) [a] [] q] [] pos) (tD X.K (wLenSetP w)) :=
  PEi (pe_callB cr_lenTO hg hm PySem.boot_len (pa_cons (pe_callTy (cr_setOfT hc (by omega)) hg2 hm2 PyProof.Rows.boot_set (pa_cons ha pa_nil na) (by decide) (by decide) na rfl) pa_nil na2) (by decide) (by decide) na2 rfl) fun σ H Q ⟨N, A, H0, ρ, u, Qd, R, hw, k⟩ =>
    ⟨N, A, H0, ρ, u, _, R, hw, fun v H1 d u1 s1 m1 hd ⟨ps, e, hl, qd⟩ => by
      subst e
      obtain ⟨l, xs, rfl, ha, hxs⟩ := hd.lists
      obtain ⟨ks, e1, e2, e3⟩ := prs_of hxs
      subst e1
      have hlen : ks.length = ps.length := by have := congrArg List.length e2; simpa using this
      refine ⟨l, ks, rfl, .inl (.inl ha), fun p hp => .inl (.inl (e3 p hp).1), by omega, fun a L hna hsub hall => ?_⟩
      have st2 : Step H1 (upd H1 a (SetTO X.prog X.w a L)) := Step.new hna
      have m2 : MInv A u1 X.K (upd H1 a (SetTO X.prog X.w a L)) := m1.new hna (fun m => m)
      refine ⟨a, L, rfl, upd_same, fun hnd h64 => ?_⟩
      have inj : ∀ x y : Int × Int, [x.1, x.2] = [y.1, y.2] → x = y := fun x y h => by
        simp only [List.cons.injEq, and_true] at h
        exact Prod.ext h.1 h.2
      have hmem : ∀ z, z ∈ L.map (·.2) ↔ z ∈ ps.map (fun p => [p.1, p.2]) := fun z => by
        rw [← e2]
        refine ⟨fun h => ?_, fun h => ?_⟩
        · obtain ⟨p, hp, rfl⟩ := List.mem_map.mp h
          exact List.mem_map.mpr ⟨p, hsub p hp, rfl⟩
        · obtain ⟨p, hp, rfl⟩ := List.mem_map.mp h
          exact hall p hp
      have key : L.length = ps.length ↔ ps.Nodup := by
        have ndL : (L.map (·.2)).Nodup := hnd
        have s1 : L.length ≤ ps.length := by
          have := nodup_le ndL (fun z hz => (hmem z).mp hz)
          simpa using this
        constructor
        · intro e
          have : (ps.map (fun p => [p.1, p.2])).Nodup := nodup_of_le (l := ps.map fun p => [p.1, p.2]) (m := L.map (·.2)) (fun z hz => (hmem z).mpr hz) ndL (fun z hz => (hmem z).mp hz) (by simp [e])
          exact nodup_of_map this
        · intro nd
          have nd2 : (ps.map (fun p => [p.1, p.2])).Nodup := by
            rw [List.nodup_iff_pairwise_ne] at *
            exact List.pairwise_map.mpr (nd.imp fun h e => h (inj _ _ e))
          have := nodup_le nd2 (fun z hz => (hmem z).mpr hz)
          simp at this
          omega
      exact k _ _ _ u1 (s1.trans st2) m2 (.int _) (qd _ key)⟩
/-! ### sorted(d), whole numbers as keys -/
@[simp] def wSortDic (w : WE) : WA := fun ρ u Q => w ρ u fun d u1 => ∃ (kvs : List (D × D)) (ks : List Int), d = xD kvs ∧ kvs.map Prod.fst = ks.map .int ∧ ks.length < 64 ∧ ∀ ys : List Int, ys.Perm ks → ys.Pairwise (· ≤ ·) → Q (ys.map .int) u1
def rSortDic (K : PySem.W.Frag) : List V → Hp → VK → Prop := fun vs H Q => ∃ (A : Addr → Prop) (a : Addr) (kvs : List (D × D)) (ks : List Int), vs = [V.ref a] ∧ DicR K A H a kvs ∧ kvs.map Prod.fst = ks.map .int ∧ ks.length < 64 ∧
  ∀ (ys : List Int) (p : Addr), ys.Perm ks → ys.Pairwise (· ≤ ·) → H p = none → Q (.ref p) (upd H p (.lst (ys.map V.int)))
theorem cr_sortDic (hc : X.calm = true) : CallR X (.builtin "sorted") (rSortDic X.K) := by
  intro pins s σ H vs us Q I r h
  obtain ⟨A, a, kvs, ks, rfl, h | h, e, hl, q⟩ := h
  · obtain ⟨xs, ds, h1, h2, rfl⟩ := h
    rw [iks_keys h2] at e
    have e2 : xs.map Prod.fst = ks := by
      have e2 := congrArg (List.map fun d : D => match d with | .int i => i | _ => 0) e
      simpa [Function.comp_def] using e2
    refine call_sortedDI hc pins s σ H [.ref a] us Q I r ⟨a, ikv xs, ks, rfl, h1, ?_, hl, q⟩
    rw [← e2]
    simp [ikv]
  · obtain ⟨xs, ds, h1, h2, h3, rfl⟩ := h
    exfalso
    rw [nks_keys h3] at e
    obtain ⟨⟨_, _, ⟨z, hk⟩, _⟩, _⟩ := (show ObjOk X.prog X.w H s.heap a (DxO a xs) from rd_of I.hok h1)
    cases xs with
    | nil => simp at z
    | cons x xs =>
      obtain ⟨ts, ht⟩ := (hk x List.mem_cons_self).tu
      cases ks with
      | nil => simp at e
      | cons k ks =>
        simp only [List.map_cons, List.cons.injEq, ht, NestedKey.data] at e
        exact nomatch e.1
theorem pSortDic {e : Expr} {p pos : Pos} {w : WE} (hc : X.calm = true) (hg : Gl X "sorted") (hm : X.mg "sorted" = none) (h : PE X e (tD X.K w)) (he : starEach [e] X.env = (false, eval e X.env) :: starEach [] X.env := by rfl) : PE X (.Call (.Name "sorted" p) [e] [] pos) (tF X.K (wSortDic w)) :=
  PEi (pe_callB (cr_sortDic hc) hg hm (by decide +kernel) (pa_cons h pa_nil he) (by decide) (by decide) he rfl) fun σ H Q ⟨N, A, H0, ρ, u, Qd, R, hw, k⟩ =>
    ⟨N, A, H0, ρ, u, _, R, hw, fun v H1 d u1 s1 m1 hd ⟨kvs, ks, e, hk, hl, q⟩ => by
      subst e
      obtain ⟨a, rfl, hr⟩ := hd.dicR
      refine ⟨A, a, kvs, ks, rfl, hr, hk, hl, fun ys p h1 h2 hp => ?_⟩
      exact k p (ys.map V.int) _ (ys.map .int) u1 (s1.trans (Step.new hp)) (m1.newA hp (fun m => m)) (s1.fresh hp) upd_same (DaAll.ints ys) (q ys h1 h2)⟩
end
end DW

set_option Elab.async false
set_option linter.all false
set_option maxRecDepth 100000
set_option maxHeartbeats 2000000
namespace DW
open PySem PySem.Spec PyProof.Rows L2
section
variable {X : Cx} {K : PySem.W.Frag}
def rMaxP (K : PySem.W.Frag) : List V → Hp → VK → Prop := fun xs H Q => ∃ (a : Addr) (i j : Int), xs = [V.ref a] ∧ SqT K H a [.int i, .int j] ∧ Q (.int (max i j)) H
theorem cr_maxP (hc : X.calm = true) (hu : X.A.units + 65 < cLine) : CallR X (.builtin "max") (rMaxP X.K) := by
  intro pins s σ H xs us Q I r h
  obtain ⟨a, i, j, rfl, hs, q⟩ := h
  obtain ⟨its, rv, hl, hz⟩ := I.tuple hs
  obtain ⟨u, rfl, ru⟩ := vals1 r
  obtain rfl : u = Value.ref a := ru
  obtain ⟨u1, u2, rfl, ⟨t1, rfl⟩, ⟨t2, rfl⟩⟩ := vals2 rv
  refine PySem.W.max_tuple_data (x := .int i) (xs := [.int j]) (as := []) (I.ok.hd hc) hl (.cons (.int _ _) (.cons (.int _ _) .nil)) ?_ ?_ fun k v h' tk bs hv rd hk => ?_
  · refine ⟨fun x hx y hy => ?_, fun x hx => ?_⟩
    · simp only [List.mem_cons, List.not_mem_nil, or_false] at hx hy
      rcases hx with rfl | rfl <;> rcases hy with rfl | rfl <;> rfl
    · simp only [List.mem_cons, List.not_mem_nil, or_false] at hx
      rcases hx with rfl | rfl <;> (intro h; cases h)
  · simp [PyData.depthAll, PyData.depth]
    omega
  · have e : PySem.W.maxD (.int i) [.int j] = .int (max i j) := PySem.W.maxD_ints i [j]
    rw [e] at rd
    refine ⟨_, H, I.kept hk, ?_, q⟩
    cases rd
    exact ⟨_, rfl⟩
def fMaxP : List D → (D → Prop) → Prop
  | [.tuple [.int i, .int j]], Q => Q (.int (max i j))
  | _, _ => False
theorem cd_maxP : CallD K (rMaxP K) fMaxP := fun N A H xs ds Q Qd u hf hm hx h k => by
  unfold fMaxP at h
  split at h
  · rename_i i j
    obtain ⟨v, rfl, hv⟩ := db1 hx rfl
    obtain ⟨a, vs, rfl, ha, _, hvs⟩ := hv.tuples
    have e : vs = [.int i, .int j] := by
      rw [show ([.int i, .int j] : List D) = ([i, j] : List Int).map .int from rfl] at hvs
      rw [DaAll.of_ints hvs]; rfl
    rw [e] at ha
    exact ⟨a, i, j, rfl, .inl (.inl ha), k _ H _ (Step.refl H) hm (.int _) h⟩
  · exact h.elim
end
end DW

set_option Elab.async false
set_option linter.all false
set_option maxRecDepth 100000
set_option maxHeartbeats 4000000
namespace DW
open PySem PySem.Spec PyProof.Rows L2
/-! ### dict comprehensions whose keys are ints or tuples: a dict that stays as it is -/
section
variable {X : Cx} {pins : List (Addr × Obj)} {σ : L2.St} {H : Hp} {s : Shared} {a : Addr} {A : Addr → Prop} {kvs : List (D × D)} {y v : V} {k d : D} {u r : Value} {E : Value → Shared → Prop}
/-- one store -/
theorem dx_store {Q : Unit → Shared → Prop} (hu : X.A.units + 12 < cLine) (I : Inv X pins σ H s) (g : DicW X.K A H a kvs) (ko : KOk kvs k) (hy : Da X.K A H y k) (ry : RelV y u) (hv : Da X.K A H v d) (rv : RelV v r) (hA : A a) (hl : kvs.length < 100000)
    (h : ∀ o' s', ¬ IsM o' → DicW X.K A (upd H a o') a (dPut kvs k d) → Inv X pins σ (upd H a o') s' → Q () s') : wpAny (model X.prog X.w) X.A (dictSet a u r) Q E s := by
  rcases dic_split I g.rd ko hy with ⟨xs, vs, i, _, h2, h3, rfl, rfl⟩ | ⟨xs, ys, vs, b, rfl, h1, hz, h3, hn, h4, h5, h6, h7, h8, h9, h10, h11⟩
  · have hxx : ∃ xs vs, H a = some (.dK (ikv xs)) ∧ DaAll X.K A H (xs.map Prod.snd) vs ∧ kvs = iks xs vs := by
      rcases g with ⟨xs', vs', g1, g2, g3⟩ | ⟨xs', vs', g1, g2, g3, g4⟩
      · exact ⟨xs', vs', g1, g2, g3⟩
      · rename_i hr
        rcases hr with z | ⟨o, z⟩ <;> (rw [g1] at z; cases z)
    obtain ⟨xs, vs, e1, h2, h3⟩ := hxx
    obtain ⟨xs', vs', q1, q2, q3⟩ := iput (i := i) h2 hv
    have short : (ikv xs).length < sizeLine := szLt (by
      have e2 : kvs.length = (ikv xs).length := by rw [h3]; simp [ikv, iks, h2.map_len]
      omega)
    refine d_dictSet I e1 short (k := .inl i) ry rv fun s' I' => ?_
    have go : Goes A A H (upd H a (.dK (putK (ikv xs) (.inl i) v))) := goes_putO e1 isM_ikv hA
    exact h _ s' (by rw [q1]; exact isM_ikv) (.inl ⟨xs', vs', by rw [q1]; exact upd_same, q2.goes go, by rw [h3]; exact q3⟩) I'
  · have there : (∃ o, H a = some o ∧ ¬ IsM o) ∧ Mut (H a) := by
      rcases g with ⟨xs', vs', g1, _⟩ | ⟨xs', vs', g1, _⟩
      · exact ⟨⟨_, g1, isM_ikv⟩, by rw [g1]; exact trivial⟩
      · exact ⟨⟨_, g1, isM_dx⟩, by rw [g1]; exact trivial⟩
    obtain ⟨⟨o, eo, mo⟩, mu⟩ := there
    obtain rfl : u = Value.ref b := ry
    obtain ⟨xs', vs', q1, q2, q3, q4, q5, q6, q7⟩ := nput (k := k) (b := b) h6 h3 hn h4 h8 h9 rv hv hy
    have short : xs'.length ≤ sizeLine := szOf (by
      have e2 : kvs.length = xs.length := by rw [h10]; simp [nks, h9.map_len]
      omega)
    refine wpAny_dictSet_heap (hsz := by rw [← Paired.length h6]; exact hz) (show X.A.units + 8 < cLine by omega) h5 h7 fun h' dd' hs => ?_
    obtain ⟨q, es, ep, hq, g2, g3, g4, _, g5⟩ := dd'
    have go : Goes A A H (upd H a (DxO a xs')) := goes_putO eo mo hA
    have ent : es.toList = (storedH ys (nk k) b r).map (fun x => (⟨kh x.1, .ref x.2.1, x.2.2⟩ : DictEntry)) := by rw [g4]; exact entries_kh q1 q2
    exact h _ _ isM_dx (.inr ⟨xs', vs', upd_same, q3.goes go, q4.goes go, by rw [h10]; exact q5⟩) (d_write (ob := DxO a xs') I mu hs ⟨q, hq⟩
      ⟨⟨short, h1, ⟨q6, q2⟩, _, q1, q, es, ep, hq, g2, g3, ent, g5⟩, ⟨q, hq⟩, fun _ _ ⟨f1, f2, f3, zs, f4, o3, es3, ep3, f5, f6⟩ keep => ⟨f1, f2, f3, zs, f4, o3, es3, ep3, keep _ f5, f6⟩⟩)
end
section
variable {X : Cx}
/-- P the new dict, St what a store asks and does -/
def tDx (wi : TI) (g : TG) (tt : TT) (tk tv : TE) (vs : List Nat) : TE := fun σ H Q => wi σ H fun J H1 => ∀ P, H1 P = none → ∃ W : Nat → Nat → Hp → Prop, (∃ m, W 0 m (upd H1 P (.dK []))) ∧ ∀ i m H, W i m H →
  (J.stop i H ∧ ∃ o, H P = some o ∧ Mut (some o) ∧ ∀ od, Q (.ref P) (upd H P (.frz od o))) ∨ (J.go i H ∧ ∃ Nx : Hp → Prop, (∀ H', Nx H' → ∃ m', m' < m ∧ W (i + 1) m' H') ∧ ∀ x H', J.yld i H x H' → g x (wipe σ vs) H' fun σ2 H2 => wipe σ2 vs = wipe σ vs ∧ tt σ2 H2 fun b H3 =>
    if b = true then tk σ2 H3 fun y H4 => tv σ2 H4 fun z H5 => ∃ A kvs k d, DicW X.K A H5 P kvs ∧ KOk kvs k ∧ Da X.K A H5 y k ∧ Da X.K A H5 z d ∧ A P ∧ kvs.length < 100000 ∧ ∀ o', ¬ IsM o' → DicW X.K A (upd H5 P o') P (dPut kvs k d) → Nx (upd H5 P o') else Nx H3)
theorem dx_core {pins : List (Addr × Obj)} {sA : Shared} {σ : L2.St} {H : Hp} {Q : VK} {kx vx tg iter : Expr} {ifs : List Expr} {scope : Scope} {own : List (Str × Nat)} {pos pos' : Pos} {wi : TI} {g : TG} {tt : TT} {tk tv : TE} {use : Option (Value → Sem Unit)} {Qf : Value → Shared → Prop}
    (hu : X.A.units + 12 < cLine) (hc : X.calm = true) (hN : X.N.Nodup) (I : Inv X pins σ H sA) (hi : PI X tg iter wi) (ok : BlkOk X.N X.env.scope scope own)
    (hg : ∀ (z : Shared) (H : Hp) (C : Addr) (cl : List (Str × Addr)) (fp : List Addr), PG (X.blk z H scope (compEnvC scope cl C X.env) fp) tg g)
    (ht : ∀ (z : Shared) (H : Hp) (C : Addr) (cl : List (Str × Addr)) (fp : List Addr), PTs (X.blk z H scope (compEnvC scope cl C X.env) fp) ifs tt)
    (hk : ∀ (z : Shared) (H : Hp) (C : Addr) (cl : List (Str × Addr)) (fp : List Addr), PE (X.blk z H scope (compEnvC scope cl C X.env) fp) kx tk)
    (he : ∀ (z : Shared) (H : Hp) (C : Addr) (cl : List (Str × Addr)) (fp : List Addr), PE (X.blk z H scope (compEnvC scope cl C X.env) fp) vx tv) (hs : ∀ x, foldedSetIterable iter X.env x = pure x)
    (h : tDx (X := X) wi g tt tk tv (own.map (·.2)) σ H Q)
    (out : ∀ P C z m H', Inv X pins σ H' z → Q (.ref P) H' → z.heap.Ns C m → FpOk X pins H' C → compPost (model X.prog X.w) X.A X.xe use Qf (.ref P) C (.ok .next) z) :
    wpAny (model X.prog X.w) X.A (comprehension (.DictComp kx vx [⟨tg, iter, ifs, 0⟩] scope pos) scope X.env pos' newDict false (eval iter X.env) use) Qf X.xe sA := by
  have frees : ∀ n ∈ scope.names, n.2 = .free → ∃ c, X.env.cells.lookup n.1 = some c := fun n hn e =>
    (ok.free n hn e).elim (fun z => I.ok.has _ (.inl z)) fun z => I.ok.has _ (.inr z)
  have it0 := hi.run pins sA σ H _ I h
  refine wpAny_comprehension_free (use := use) rfl hs (closure_ok frees) ok.kind (fun n hn e => by rw [ok.uniq n hn, e]) (thn it0 fun xv sB hB => thn hB fun itv sC hC => ?_)
  obtain ⟨it, fp, tn, J, HC, rfl, IC, T, stC, fC, turns⟩ := hC
  refine wpAny_newObj_type (newEnv_comp ?_)
  obtain ⟨P, hP⟩ : ∃ P, sC.heap.objs.size = P := ⟨_, rfl⟩
  rw [hP]
  have fresh : HC P = none := IC.hok.fresh (Nat.le_of_eq hP)
  obtain ⟨W, ⟨m0, w0⟩, turn⟩ := turns P fresh
  generalize eD' : ({ sC with heap := sC.heap.push { cls := .type "dict", data := .dict #[] } } : Shared) = sD
  have hDh : sD.heap = sC.heap.push { cls := .type "dict", data := .dict #[] } := by rw [← eD']
  have ID : Inv X pins σ (upd HC P (.dK [])) sD := by
    rw [← eD', ← hP]
    exact IC.laid (t' := sC.toks) (fun b o e => Heap.get?_push_of_some _ e) (Nat.le_refl _) (dk_empty sC.heap IC.big)
  have small : ∀ b ∈ fp, b < sC.heap.objs.size := fun b hb => let ⟨_, e, _⟩ := T.obj _ _ stC b hb; Heap.lt_size e
  have fD : ∀ b ∈ fp, FpOk X pins (upd HC P (.dK [])) b ∧ b < sD.heap.objs.size := fun b hb => by
    have lt := small b hb
    have ne : b ≠ P := by rw [← hP]; exact Nat.ne_of_lt lt
    refine ⟨⟨by rw [upd_ne ne]; exact (fC b hb).1, (fC b hb).2⟩, ?_⟩
    rw [hDh, Heap.size_push]
    exact Nat.lt_succ_of_lt lt
  have stD : tn 0 sD.heap := T.keep _ _ _ stC fun b _ o e => by rw [hDh]; exact Heap.get?_push_of_some _ e
  have IE := block_start ID ok hN fD
  have sg := hg sD (upd HC P (.dK [])) sD.heap.objs.size (cellsFrom (sD.heap.objs.size + 1) scope.names (cloFrom X.env.cells scope.names [])) fp
  have st := ht sD (upd HC P (.dK [])) sD.heap.objs.size (cellsFrom (sD.heap.objs.size + 1) scope.names (cloFrom X.env.cells scope.names [])) fp
  have sk := hk sD (upd HC P (.dK [])) sD.heap.objs.size (cellsFrom (sD.heap.objs.size + 1) scope.names (cloFrom X.env.cells scope.names [])) fp
  have sv := he sD (upd HC P (.dK [])) sD.heap.objs.size (cellsFrom (sD.heap.objs.size + 1) scope.names (cloFrom X.env.cells scope.names [])) fp
  show codeAny _ _ (.compStart (.DictComp kx vx [⟨tg, iter, ifs, 0⟩] scope pos) 0 (.ref it) (.ref P) (compEnvC scope (cellsFrom (sD.heap.objs.size + 1) scope.names (cloFrom X.env.cells scope.names [])) sD.heap.objs.size X.env))
    (compPost (model X.prog X.w) X.A X.xe use Qf (.ref P) sD.heap.objs.size) { sD with heap := pushCells (sD.heap.push { cls := .type "dict", data := .dict #[] }) scope.names }
  have none_fp : ∀ b ∈ fp, (upd HC P (.dK [])) b = none := fun b hb => (fD b hb).1.1
  generalize eC : compEnvC scope (cellsFrom (sD.heap.objs.size + 1) scope.names (cloFrom X.env.cells scope.names [])) sD.heap.objs.size X.env = blkE at IE sg st sk sv ⊢
  have eL : blkE.locals = sD.heap.objs.size := by rw [← eC]; rfl
  generalize upd HC P (.dK []) = HD at ID IE sg st sk sv w0 none_fp fD
  generalize eE : ({ sD with heap := pushCells (sD.heap.push { cls := .type "dict", data := .dict #[] }) scope.names } : Shared) = sE at IE ⊢
  have stE : tn 0 sE.heap := T.keep _ _ _ stD fun b _ o e => by rw [← eE]; exact pushCells_keeps _ _ _ _ (Heap.get?_push_of_some _ e)
  have calmF : ∀ {σ' : L2.St} {H' : Hp} {z : Shared}, Inv (X.blk sD HD scope blkE fp) [] σ' H' z → (∀ b ∈ fp, H' b = none) → ∀ b ∈ fp, FpOk (X.blk sD HD scope blkE fp) [] H' b := fun {σ' H' z} I' nf b hb =>
    ⟨nf b hb, (I'.ok.exf b hb).1, I'.ok.exfs b hb, .inl hb, fun x c e => (I'.ok.exf b hb).2 x c e, fun p hp => absurd (show p ∈ ([] : List (Addr × Obj)) ++ [] from hp) (by simp)⟩
  have all : codeAny (model X.prog X.w) X.A (.compLoop (.DictComp kx vx [⟨tg, iter, ifs, 0⟩] scope pos) 0 (.ref it) (.ref P) blkE) (compPost (model X.prog X.w) X.A X.xe use Qf (.ref P) sD.heap.objs.size) sE := by
    refine compLoop_anyD (fun n z => ∃ i H', Inv (X.blk sD HD scope blkE fp) [] (wipe σ (own.map (·.2))) H' z ∧ tn i z.heap ∧ (∀ b ∈ fp, H' b = none) ∧ W i n H') ?_ m0 ⟨0, HD, IE, stE, none_fp, w0⟩
    rintro n z1 ⟨i, H1, I1, st1, n1, w1⟩
    rcases turn i n H1 w1 with ⟨stop, o, ho, mo, qq⟩ | ⟨go, Nx, hNx, step⟩
    · refine thnF (T.done (X.blk sD HD scope blkE fp) rfl rfl rfl hc i [] z1 _ H1 (fun _ _ => False) I1 (calmF I1 n1) st1 stop) fun r z2 ⟨hr, I2⟩ => ?_
      subst hr
      have I3 : Inv X pins σ H1 z2 := ID.call' (ch := fp) I2.os I2.base I2.hok I2.bare fun b hb => ⟨(fD b hb).1.2.2.2.1, (fD b hb).1.2.1, (fD b hb).1.2.2.2.2.1, (fD b hb).1.2.2.2.2.2⟩
      have nL : H1 sD.heap.objs.size = none := by
        have z : H1 blkE.locals = none := I2.free
        rwa [eL] at z
      obtain ⟨m, hn, _⟩ := I2.loc
      have hn : z2.heap.Ns blkE.locals m := hn
      rw [eL] at hn
      obtain ⟨od, I4⟩ := I3.lock ho mo
      refine out P sD.heap.objs.size z2 m _ I4 (qq od) hn (ID.fpOk (Nat.le_refl _) ?_)
      rw [upd_ne (fun e => by rw [e, ho] at nL; cases nL)]
      exact nL
    · refine thnF (T.item (X.blk sD HD scope blkE fp) rfl rfl rfl hc i [] z1 _ H1 (fun _ _ => False) I1 (calmF I1 n1) st1 go) fun r z2 ⟨u, hr, h2⟩ => ?_
      subst hr
      refine thnF h2 fun _ z3 ⟨x, H3, I3, r3, y3, st3, n3⟩ => ?_
      have I3' := I3.pinned (calmF I3 n3) (T.obj _ _ st3)
      refine thnF (sg.run _ z3 _ H3 x u _ I3' r3 (step x H3 y3)) fun _ z4 ⟨σ4, H4, I4, wp4, q4⟩ => thnF (st.run _ z4 σ4 H4 _ I4 q4) fun t z5 ⟨H5, I5, q5⟩ => ?_
      have next : ∀ {z : Shared} {H' : Hp}, Inv (X.blk sD HD scope blkE fp) ([] ++ pinsAt fp z3.heap) σ4 H' z → Nx H' → ∃ m, m < n ∧ ∃ i H', Inv (X.blk sD HD scope blkE fp) [] (wipe σ (own.map (·.2))) H' z ∧ tn i z.heap ∧ (∀ b ∈ fp, H' b = none) ∧ W i m H' := fun {z H'} I' nx => by
        obtain ⟨m', lt, w'⟩ := hNx H' nx
        have kept : ∀ b ∈ fp, ∀ o, z3.heap.get? b = some o → z.heap.get? b = some o ∧ H' b = none := fun b hb o e =>
          let q := I'.pin (b, o) (List.mem_append_right _ (List.mem_append_right _ (mem_pinsAt hb e)))
          ⟨q.1, q.2.1⟩
        have len : (wipe σ (own.map (·.2))).length = σ4.length := by rw [← wp4, wipe_length]
        refine ⟨m', lt, i + 1, H', (I'.unpinned (pins := [])).weak len (fun j v e => by rw [← wp4] at e; exact (wipe_some e).1), T.keep _ _ _ st3 fun b hb o e => (kept b hb o e).1, fun b hb => ?_, w'⟩
        obtain ⟨o, e, _⟩ := T.obj _ _ st3 b hb
        exact (kept b hb o e).2
      cases t with
      | false =>
        rw [if_neg (by decide)] at q5 ⊢
        exact next I5 q5
      | true =>
        rw [if_pos rfl] at q5 ⊢
        refine thnF (sk.run _ z5 σ4 H5 _ I5 q5) fun u6 z6 ⟨y6, H6, I6, r6, q6⟩ => thnF (sv.run _ z6 σ4 H6 _ I6 q6) fun u7 z7 ⟨y7, H7, I7, r7, A7, kvs, k, d, g7, ko, dk, dv, aP, lk, nx⟩ => ?_
        exact dx_store (X := X.blk sD HD scope blkE fp) hu I7 g7 ko dk r6 dv r7 aP lk fun o' z8 no g8 I8 => next I8 (nx o' no g8)
  exact codeAny_compStart_dict all (T.self X.A 0 _ _ _ stE all)
theorem pe_dx {kx vx tg iter : Expr} {ifs : List Expr} {scope : Scope} {own : List (Str × Nat)} {pos : Pos} {wi : TI} {g : TG} {tt : TT} {tk tv : TE} (hu : X.A.units + 12 < cLine) (hc : X.calm = true) (hN : X.N.Nodup) (hi : PI X tg iter wi) (ok : BlkOk X.N X.env.scope scope own)
    (hg : ∀ (z : Shared) (H : Hp) (C : Addr) (cl : List (Str × Addr)) (fp : List Addr), PG (X.blk z H scope (compEnvC scope cl C X.env) fp) tg g)
    (ht : ∀ (z : Shared) (H : Hp) (C : Addr) (cl : List (Str × Addr)) (fp : List Addr), PTs (X.blk z H scope (compEnvC scope cl C X.env) fp) ifs tt)
    (hk : ∀ (z : Shared) (H : Hp) (C : Addr) (cl : List (Str × Addr)) (fp : List Addr), PE (X.blk z H scope (compEnvC scope cl C X.env) fp) kx tk)
    (he : ∀ (z : Shared) (H : Hp) (C : Addr) (cl : List (Str × Addr)) (fp : List Addr), PE (X.blk z H scope (compEnvC scope cl C X.env) fp) vx tv) (hs : ∀ x, foldedSetIterable iter X.env x = pure x := by intro _; rfl) :
    PE X (.DictComp kx vx [⟨tg, iter, ifs, 0⟩] scope pos) (tDx (X := X) wi g tt tk tv (own.map (·.2))) := by
  refine ⟨fun pins s σ H Q I h => ?_⟩
  rw [arm_eval_DictComp]
  exact dx_core hu hc hN I hi ok hg ht hk he hs h fun P C z m H' I' q hn ⟨f0, f1, f2, f3, f4, f5⟩ => ⟨m, hn, fun h'' sb => ⟨.ref P, H', I'.turned (t' := z.toks) (fun b o hb e => (sb.2 b hb).trans e) f0 f1 f3 f4 f5, rfl, q⟩⟩
theorem ps_setDx {i : Nat} {y : Str} {py spos : Pos} {kx vx tg iter : Expr} {ifs : List Expr} {scope : Scope} {own : List (Str × Nat)} {pos : Pos} {wi : TI} {g : TG} {tt : TT} {tk tv : TE} (hu : X.A.units + 12 < cLine) (hc : X.calm = true) (hN : X.N.Nodup) (hy : X.N[i]? = some y) (hyl : X.env.scope.names.lookup y = some .local)
    (hsw : swapsWith (.DictComp kx vx [⟨tg, iter, ifs, 0⟩] scope pos) (some (.Name y py)) spos.line X.env = pure true) (hi : PI X tg iter wi) (ok : BlkOk X.N X.env.scope scope own)
    (hg : ∀ (z : Shared) (H : Hp) (C : Addr) (cl : List (Str × Addr)) (fp : List Addr), PG (X.blk z H scope (compEnvC scope cl C X.env) fp) tg g)
    (ht : ∀ (z : Shared) (H : Hp) (C : Addr) (cl : List (Str × Addr)) (fp : List Addr), PTs (X.blk z H scope (compEnvC scope cl C X.env) fp) ifs tt)
    (hk : ∀ (z : Shared) (H : Hp) (C : Addr) (cl : List (Str × Addr)) (fp : List Addr), PE (X.blk z H scope (compEnvC scope cl C X.env) fp) kx tk)
    (he : ∀ (z : Shared) (H : Hp) (C : Addr) (cl : List (Str × Addr)) (fp : List Addr), PE (X.blk z H scope (compEnvC scope cl C X.env) fp) vx tv) (hs : ∀ x, foldedSetIterable iter X.env x = pure x := by intro _; rfl) :
    PS X (.Assign [.Name y py] (.DictComp kx vx [⟨tg, iter, ifs, 0⟩] scope pos) spos) (tAsg (tDx (X := X) wi g tt tk tv (own.map (·.2))) (gName i)) := by
  refine ⟨fun pins s σ H D I h => ?_⟩
  rw [exec_Assign_Name_used _ _ _ _ hsw]
  refine wpAny_bind (wpAny_standAt (wpAny_bind ?_))
  show wpAny _ X.A (do let _ ← comprehension (.DictComp kx vx [⟨tg, iter, ifs, 0⟩] scope pos) scope X.env (firstIterPos [⟨tg, iter, ifs, 0⟩] pos) newDict false (eval iter X.env) (some (assign (.Name y py) X.env))) _ _ s
  have h : tDx (X := X) wi g tt tk tv (own.map (·.2)) σ H (fun x H1 => gName i x σ H1 D.nx) := h
  refine wpAny_bind (thn (dx_core (Qf := fun _ z => SP X pins D .next z) hu hc hN I hi ok hg ht hk he hs h fun P C z m H' I' q hn ⟨f0, f1, f2, f3, f4, f5⟩ => ?_) fun _ z hq => wpAny_pure (wpAny_pure hq))
  show wpAny _ _ (assign (.Name y py) X.env (.ref P)) _ _ _
  refine wpAny_assign_Name (store_ok2 (v := V.ref P) I' hN hy (.inl hyl) rfl (fun z2 I2 ⟨a, sb, ha⟩ => ?_) (.inr hyl))
  have apart : C ≠ a := ha.elim (fun e => by rw [e]; exact f1) fun e c => f4 y a e c.symm
  exact ⟨m, hn.sameBut sb apart, fun h3 sb3 => ⟨_, H', I2.turned (t' := z2.toks) (fun b o hb e => (sb3.2 b hb).trans e) f0 f1 f3 f4 f5, q⟩⟩
end
end DW

set_option Elab.async false
set_option linter.all false
set_option maxRecDepth 100000
set_option maxHeartbeats 4000000
namespace DW
open PySem PySem.Spec PyProof.Rows L2
/-! ### dict comprehensions over data -/
@[simp] def wDComp (b : WB) (wt : WT) (wk wv : WE) (ρ : Rho) : List D → List (D × D) → Nat → (List (D × D) → Nat → Prop) → Prop
  | [], acc, u, Q => Q acc u
  | x :: xs, acc, u, Q => ∃ ρ', b x ρ = some ρ' ∧ wt ρ' u fun t u1 => if t = true then wk ρ' u1 fun k u2 => wv ρ' u2 fun v u3 => KOk acc k ∧ wDComp b wt wk wv ρ xs (dPut acc k v) u3 Q else wDComp b wt wk wv ρ xs acc u1 Q
@[simp] def wDc (wi : WA) (b : WB) (wt : WT) (wk wv : WE) (vs : List Nat) : WE := fun ρ u Q => wi ρ u fun ds u1 => ds.length < 100000 ∧ wDComp b wt wk wv (wipeR ρ vs) ds [] u1 fun kvs u2 => Q (xD kvs) u2
theorem dPut_len (kvs : List (D × D)) (k d : D) : (dPut kvs k d).length ≤ kvs.length + 1 := by
  unfold dPut
  split
  · rw [List.length_map]; omega
  · simp
section
variable {X : Cx}
theorem dc_imp {wi : WA} {is own2 : List Nat} {b : WB} {wt : WT} {wk wv : WE} (sub : ∀ i ∈ is, i ∈ own2) : ∀ σ H Q, tD X.K (wDc wi b wt wk wv own2) σ H Q → tDx (X := X) (tIt X.K wi) (tGt X.K is b) (tTe X.K wt) (tD X.K wk) (tD X.K wv) own2 σ H Q := fun σ H Q ⟨N, A, H0, ρ, u, Qd, R, hw, k⟩ =>
  ⟨N, A, H0, ρ, u, _, R, hw, fun J H1 ds u1 s1 m1 ⟨G, hG, g1⟩ ⟨hlen, q1⟩ P hP => by
    have hPH : H P = none := s1.fresh hP
    have nA : ¬ A P := R.fresh hPH
    have s2 : Step H1 (upd H1 P (.dK [])) := Step.new hP
    have m2 : MInv (Aand A P) u1 X.K (upd H1 P (.dK [])) := m1.newA hP (fun m => m)
    have up : ∀ {H2 : Hp} (o' : HO), Step H H2 → Step H (upd H2 P o') := fun {H2} o' hh => ⟨fun a o h m => by rw [upd_ne (ne_of_none h hPH)]; exact hh.keep a o h m, fun a o h m => by
      obtain ⟨z, h', m'⟩ := hh.ms a o h m
      exact ⟨z, by rw [upd_ne (ne_of_none h hPH)]; exact h', m'⟩⟩
    refine ⟨fun i m H' => m = ds.length - i ∧ i ≤ ds.length ∧ ∃ acc u', Step H H' ∧ MInv (Aand A P) u' X.K H' ∧ OwnAt X.K (Aand A P) H' P (.dic acc) ∧ acc.length ≤ i ∧ G (Aand A P) H' ∧ wDComp b wt wk wv (wipeR ρ own2) (ds.drop i) acc u' fun kvs u2 => Qd (xD kvs) u2,
      ⟨ds.length, by simp, Nat.zero_le _, [], u1, s1.trans s2, m2, .inl ⟨[], [], upd_same, .nil, rfl⟩, Nat.le_refl _, hG.over _ _ _ _ (goes_and s2 hP) g1, q1⟩, ?_⟩
    rintro i m H2 ⟨rfl, hi, acc, u2, st2, m2, p2, al2, g2, w2⟩
    obtain ⟨o2, e2, im2⟩ := p2.some
    have R2 : Rel X.K N (Aand A P) H0 (wipe σ own2) H2 (wipeR ρ own2) u2 := R.wiped st2 m2 hPH (by rw [e2]; simp) _
    by_cases hlt : i < ds.length
    · refine .inr ⟨hG.goes i _ H2 hlt g2, fun H' => ∃ acc u', Step H H' ∧ MInv (Aand A P) u' X.K H' ∧ OwnAt X.K (Aand A P) H' P (.dic acc) ∧ acc.length ≤ i + 1 ∧ G (Aand A P) H' ∧ wDComp b wt wk wv (wipeR ρ own2) (ds.drop (i + 1)) acc u' fun kvs u2 => Qd (xD kvs) u2,
        fun H' h => ⟨ds.length - (i + 1), by omega, rfl, hlt, h⟩, fun x H3 y => ?_⟩
      obtain ⟨s3, m3, d, hd, hda⟩ := hG.yields i _ H2 x H3 hlt g2 R2.goes0 y
      have e : ds.drop i = d :: ds.drop (i + 1) := by
        obtain ⟨h1, h2⟩ := List.getElem?_eq_some_iff.mp hd
        rw [← h2]
        exact List.drop_eq_getElem_cons h1
      rw [e] at w2
      obtain ⟨ρ3, hb3, w3⟩ := w2
      have R3 := R2.go s3 (m3 _ m2)
      refine ⟨N, Aand A P, H0, wipeR ρ own2, ρ3, u2, d, R3, hda, hb3, fun σ4 o4 R4 => ⟨o4.wiped sub, N, Aand A P, H0, ρ3, u2, _, R4, w3, fun t H5 u5 s5 m5 q5 => ?_⟩⟩
      have g5 := hG.over _ _ _ _ s5.goes (hG.over _ _ _ _ s3.goes g2)
      have p5 := (p2.step s3).step s5
      cases t with
      | false => exact ⟨acc, u5, (st2.trans s3).trans s5, m5, p5, by omega, g5, q5⟩
      | true =>
        refine ⟨N, Aand A P, H0, ρ3, u5, _, R4.go s5 m5, q5, fun yk H6 kd u6 s6 m6 hk q6 => ⟨N, Aand A P, H0, ρ3, u6, _, (R4.go s5 m5).go s6 m6, q6, fun yv H7 vd u7 s7 m7 hv ⟨ko, q7⟩ => ?_⟩⟩
        have p7 := (p5.step s6).step s7
        obtain ⟨o7, e7, im7⟩ := p7.some
        refine ⟨Aand A P, acc, kd, vd, p7, ko, hk.goes s7.goes, hv, .inr rfl, by omega, fun o' no g' => ?_⟩
        have gp : Goes (Aand A P) (Aand A P) H7 (upd H7 P o') := goes_putO e7 im7 (.inr rfl)
        exact ⟨dPut acc kd vd, u7, up _ ((((st2.trans s3).trans s5).trans s6).trans s7), m7.putA (.inr rfl) no, g', by have := dPut_len acc kd vd; omega, hG.over _ _ _ _ gp (hG.over _ _ _ _ s7.goes (hG.over _ _ _ _ s6.goes g5)), q7⟩
    · have e : i = ds.length := by omega
      subst e
      rw [List.drop_length] at w2
      have gg : ∀ (o : HO) (od : Obj), H2 P = some o → ¬ IsM o → Goes (Aand A P) A H2 (upd H2 P (.frz od o)) := fun o od ho mo => ⟨fun b z n hb _ => by rw [upd_ne (fun q => n (.inr q))]; exact hb, fun b z hb m => by
          by_cases q : b = P
          · rw [q, ho] at hb; cases hb; exact absurd m mo
          · exact ⟨z, by rw [upd_ne q]; exact hb, m⟩, fun b hb => .inl (.inl hb)⟩
      have mi : ∀ (o : HO) (od : Obj), MInv A u2 X.K (upd H2 P (.frz od o)) := fun o od => (m2.putA (o := .frz od o) (.inr rfl) (fun m => m)).un
      refine .inl ⟨hG.stops _ H2 g2, ?_⟩
      rcases p2 with ⟨xs, vs, h1, h2, h3⟩ | ⟨xs, vs, h1, h2, h3, h4⟩
      · exact ⟨_, h1, trivial, fun od => k _ _ _ u2 (up _ st2) (mi _ od) (by rw [h3]; exact .dctK upd_same nA (h2.goes (gg _ od h1 isM_ikv))) w2⟩
      · exact ⟨_, h1, trivial, fun od => k _ _ _ u2 (up _ st2) (mi _ od) (by rw [h4]; exact .dctN upd_same nA (h2.goes (gg _ od h1 isM_dx)) (h3.goes (gg _ od h1 isM_dx))) w2⟩⟩
theorem pDc {kx vx tg iter : Expr} {ifs : List Expr} {scope : Scope} {own : List (Str × Nat)} {pos : Pos} {wi : WA} {is : List Nat} {b : WB} {wt : WT} {wk wv : WE} (hu : X.A.units + 65 < cLine) (hc : X.calm = true) (hN : X.N.Nodup) (hi : PI X tg iter (tIt X.K wi)) (ok : BlkOk X.N X.env.scope scope own)
    (hg : ∀ (z : Shared) (H : Hp) (C : Addr) (cl : List (Str × Addr)) (fp : List Addr), PG (X.blk z H scope (compEnvC scope cl C X.env) fp) tg (tGt X.K is b)) (ht : ∀ (z : Shared) (H : Hp) (C : Addr) (cl : List (Str × Addr)) (fp : List Addr), PTs (X.blk z H scope (compEnvC scope cl C X.env) fp) ifs (tTe X.K wt))
    (hk : ∀ (z : Shared) (H : Hp) (C : Addr) (cl : List (Str × Addr)) (fp : List Addr), PE (X.blk z H scope (compEnvC scope cl C X.env) fp) kx (tD X.K wk)) (he : ∀ (z : Shared) (H : Hp) (C : Addr) (cl : List (Str × Addr)) (fp : List Addr), PE (X.blk z H scope (compEnvC scope cl C X.env) fp) vx (tD X.K wv))
    (sub : ∀ i ∈ is, i ∈ own.map (·.2)) (hs : ∀ x, foldedSetIterable iter X.env x = pure x := by intro _; rfl) : PE X (.DictComp kx vx [⟨tg, iter, ifs, 0⟩] scope pos) (tD X.K (wDc wi b wt wk wv (own.map (·.2)))) :=
  PEi (pe_dx (by omega) hc hN hi ok hg ht hk he hs) (dc_imp sub)
theorem psSetDc {i : Nat} {y : Str} {py spos : Pos} {kx vx tg iter : Expr} {ifs : List Expr} {scope : Scope} {own : List (Str × Nat)} {pos : Pos} {wi : WA} {is : List Nat} {b : WB} {wt : WT} {wk wv : WE} (hu : X.A.units + 65 < cLine) (hN : X.N.Nodup) (hy : X.N[i]? = some y) (hyl : X.env.scope.names.lookup y = some .local)
    (hsw : swapsWith (.DictComp kx vx [⟨tg, iter, ifs, 0⟩] scope pos) (some (.Name y py)) spos.line X.env = pure true) (hc : X.calm = true) (hi : PI X tg iter (tIt X.K wi)) (ok : BlkOk X.N X.env.scope scope own)
    (hg : ∀ (z : Shared) (H : Hp) (C : Addr) (cl : List (Str × Addr)) (fp : List Addr), PG (X.blk z H scope (compEnvC scope cl C X.env) fp) tg (tGt X.K is b)) (ht : ∀ (z : Shared) (H : Hp) (C : Addr) (cl : List (Str × Addr)) (fp : List Addr), PTs (X.blk z H scope (compEnvC scope cl C X.env) fp) ifs (tTe X.K wt))
    (hk : ∀ (z : Shared) (H : Hp) (C : Addr) (cl : List (Str × Addr)) (fp : List Addr), PE (X.blk z H scope (compEnvC scope cl C X.env) fp) kx (tD X.K wk)) (he : ∀ (z : Shared) (H : Hp) (C : Addr) (cl : List (Str × Addr)) (fp : List Addr), PE (X.blk z H scope (compEnvC scope cl C X.env) fp) vx (tD X.K wv))
    (sub : ∀ i ∈ is, i ∈ own.map (·.2)) (hs : ∀ x, foldedSetIterable iter X.env x = pure x := by intro _; rfl) : PS X (.Assign [.Name y py] (.DictComp kx vx [⟨tg, iter, ifs, 0⟩] scope pos) spos) (tAsg (tD X.K (wDc wi b wt wk wv (own.map (·.2)))) (gName i)) :=
  PSi (ps_setDx (by omega) hc hN hy hyl hsw hi ok hg ht hk he hs) fun E σ H h => dc_imp sub σ H _ h
theorem sw_trueD {kx vx : Expr} {gs : List Comprehension} {scope : Scope} {pos py : Pos} {y : Str} {l : Nat} {env : Env} (hk : env.scope.kind = .function) (hy : env.scope.names.lookup y = some .local) (hl : (py.line == pos.line) = true)
    (ha : (scope.names.any fun (n, k) => n == y && (k == .local || k == .cell)) = false) : swapsWith (.DictComp kx vx gs scope pos) (some (.Name y py)) l env = pure true := by
  have ky : env.kindOf y = some .local := hy
  unfold swapsWith
  simp only [Env.blockKind, Expr.pos, hk, ky, hl, ha]
  rfl
end
/-! ### the items of a dict that stays -/
section
variable {X : Cx} {pins : List (Addr × Obj)} {σ : L2.St} {H : Hp} {s : Shared} {d : Addr} {o : Obj}
theorem frzNV {xs : List (NestedKey × Addr × V)} (I : Inv X pins σ H s) (h : H d = some (.frz o (DxO d xs))) :
    (d == sysModules) = false ∧ s.heap.get? d = some o ∧ o.ExactDict ∧ ∃ (es : Array DictEntry) (ep : Nat), o.data = .dict es ep ∧ es.size = xs.length ∧
      ∀ (i : Nat) (p : NestedKey × Addr × V), xs[i]? = some p → ∃ en : DictEntry, es[i]? = some en ∧ en.key = .ref p.2.1 ∧ RelV p.2.2 en.val := by
  obtain ⟨hd, ⟨_, hs, _, ys, pr, o', es, ep, ho, hx, hdt, he, _⟩, _⟩ := (show ObjOk X.prog X.w H s.heap d (.frz o (DxO d xs)) from I.hok d _ h)
  rw [hd] at ho
  cases ho
  refine ⟨hs, hd, hx, es, ep, hdt, ?_, fun i p e => ?_⟩
  · have l1 : es.toList.length = ys.length := by rw [he, List.length_map]
    have l2 : xs.length = ys.length := Paired.length pr
    rw [Array.length_toList] at l1
    omega
  · obtain ⟨b, hb, e1, e2, e3⟩ := paired_get pr e
    refine ⟨⟨kh b.1, .ref b.2.1, b.2.2⟩, ?_, by rw [e2], e3⟩
    rw [← Array.getElem?_toList, he, List.getElem?_map, hb]
    rfl
end
/-- each item in a new pair -/
def ItnP (d : Addr) (o : Obj) (xs : List (NestedKey × Addr × V)) : It :=
  ⟨fun i H => H d = some (.frz o (DxO d xs)) ∧ i < xs.length, fun i H x H' => ∃ (T : Addr) (p : NestedKey × Addr × V), xs[i]? = some p ∧ x = .ref T ∧ H T = none ∧ H' = upd H T (.tup [.ref p.2.1, p.2.2]), fun i H => H d = some (.frz o (DxO d xs)) ∧ xs.length ≤ i⟩
section
variable {P : Program} {w : World} {K : PySem.W.Frag} {d : Addr} {o : Obj} {es : Array DictEntry} {ep : Nat}
theorem turn_itemsN {xs : List (NestedKey × Addr × V)} {elts : List Expr} {kk : Nat} {tpos : Pos} (it : Addr) (hod : o.data = .dict es ep) :
    Turn P w K (.Tuple elts kk tpos) (ItnP d o xs) [it] it (fun i h => ∃ ok ov, IsItemIter h it d i xs.length ep ok ov) where
  mem := by simp
  obj := fun i h st b hb => by
    obtain rfl : b = it := by simpa using hb
    obtain ⟨ok, ov, e⟩ := st
    exact ⟨_, e, fun v z => nomatch z⟩
  keep := fun i h h' st k => let ⟨ok, ov, e⟩ := st; ⟨ok, ov, k it (by simp) _ e⟩
  item := by
    intro X hP hw hK hc i pins s σ H E I hf st hg
    subst hP hw hK
    obtain ⟨hd, hi⟩ := hg
    obtain ⟨hs, hgd, hx, es', ep', hdt, hsz, ent⟩ := frzNV I hd
    obtain ⟨rfl, rfl⟩ := dict_ep hod hdt
    obtain ⟨p, hp⟩ : ∃ p, xs[i]? = some p := ⟨xs[i], List.getElem?_eq_getElem hi⟩
    obtain ⟨en, hen, hkey, hval⟩ := ent i p hp
    obtain ⟨ok, ov, he⟩ := st
    rw [← hsz] at he
    have lt : it < s.heap.objs.size := Heap.lt_size he
    have hie : i < es'.size := by omega
    have een : es'[i] = en := by
      have := Array.getElem?_eq_getElem hie
      rw [hen] at this
      exact (Option.some.inj this).symm
    refine wpAny_pyNext_items_item_raw he ⟨o, hgd, hx, hdt⟩ hie fun h' ho hT hz hk => ⟨_, rfl, wpAny_letOwnedTupleGo_items (s := { s with heap := h' }) ho fun h'' he' sb => ?_⟩
    have hT2 : h''.get? s.heap.objs.size = some { cls := .type "tuple", data := .seq #[.ref p.2.1, en.val] } := by
      rw [← hkey, ← een]
      exact (sb.2 _ (Nat.ne_of_gt lt)).trans hT
    have new : ObjOk X.prog X.w (upd H s.heap.objs.size (.tup [.ref p.2.1, p.2.2])) h'' s.heap.objs.size (.tup [.ref p.2.1, p.2.2]) :=
      ⟨by show 2 ≤ sizeLine; decide, [.ref p.2.1, en.val], .cons rfl (.cons hval .nil), ⟨_, hT2, rfl, _, rfl⟩⟩
    have I1 : Inv X pins σ (upd H s.heap.objs.size (.tup [.ref p.2.1, p.2.2])) { s with heap := h'' } :=
      I.turnedNew (t' := s.toks) (ch := [it]) (fun b ob hb e => (sb.2 b (by simpa using hb)).trans (hk b ob (by simpa using hb) e)) hf (Nat.le_refl _) new
    refine ⟨.ref s.heap.objs.size, _, I1, rfl, ⟨_, p, hp, rfl, I.hok.fresh (Nat.le_refl _), rfl⟩, ⟨_, _, by rw [← hsz]; exact he'⟩, fun b hb => ?_⟩
    obtain rfl : b = it := by simpa using hb
    rw [upd_ne (Nat.ne_of_lt lt)]
    exact (hf _ (by simp)).1
  done := by
    intro X hP hw hK hc i pins s σ H E I hf st hg
    subst hP hw hK
    obtain ⟨hd, hi⟩ := hg
    obtain ⟨f0, f1, f2, f3, f4, f5⟩ := hf it (by simp)
    obtain ⟨hs, hgd, hx, es', ep', hdt, hsz, ent⟩ := frzNV I hd
    obtain ⟨rfl, rfl⟩ := dict_ep hod hdt
    obtain ⟨ok, ov, he⟩ := st
    rw [← hsz] at he
    exact wpAny_pyNext_items_end_raw (I.ok.hd hc) he ⟨o, hgd, hx, hdt⟩ (by omega) fun h' eb => ⟨rfl, I.turned (t' := s.toks) (fun b ob hb e => eb b ob hb e) f0 f1 f3 f4 f5⟩
  self := fun A i s Q E st h => let ⟨_, _, e⟩ := st; PySem.W.kcp_self e h
end
def iXItems (td : TE) : TI := fun σ H R => td σ H fun x H1 => ∃ d o, x = .ref d ∧ ((∃ kvs, H1 d = some (.frz o (.dK kvs)) ∧ R (Iti d o kvs) H1) ∨ ∃ xs, H1 d = some (.frz o (DxO d xs)) ∧ R (ItnP d o xs) H1)
section
variable {X : Cx} {e : Expr} {td : TE} {apos cpos : Pos}
theorem pi_xitems {elts : List Expr} {kk : Nat} {tpos : Pos} (he : PE X e td) (hbase : attributeBase e "items" X.env (eval e X.env) = eval e X.env := by rfl) (hline : (apos.endLine == cpos.line) = true := by rfl) :
    PI X (.Tuple elts kk tpos) (.Call (.Attribute e "items" apos) [] [] cpos) (iXItems td) := by
  refine ⟨fun pins s σ H R I h => ?_⟩
  refine wpAny_Call_method (T := "dict") (id := "dict.items") hbase rfl hline F.plainAttrs_dict F.slot_dict_items F.type_dict_items (thn (he.run pins s σ H _ I h) fun u s1 ⟨x, H1, I1, rx, d, o, ex, q⟩ => ?_)
  subst ex
  obtain rfl : u = Value.ref d := rx
  have view : ∀ {es : Array DictEntry} {ep : Nat}, (d == sysModules) = false → s1.heap.DictRaw d es ep → (∀ I2 : Inv X pins σ H1 { s1 with heap := s1.heap.push { cls := .type "dict_items", data := .fields #[.ref d] } }, wpAny (model X.prog X.w) X.A (pyIter (.ref s1.heap.objs.size)) (PIE X pins σ (.Tuple elts kk tpos) R) X.xe { s1 with heap := s1.heap.push { cls := .type "dict_items", data := .fields #[.ref d] } }) →
      wpAny (model X.prog X.w) X.A (callWith cpos (.builtin "dict.items") [.ref d] [] []) (fun v s => wpAny (model X.prog X.w) X.A (pyIter v) (PIE X pins σ (.Tuple elts kk tpos) R) X.xe s) X.xe s1 := fun {es ep} hs raw k =>
    method_meetsIn F.slot_dict_items F.entry_dict_items rfl (PySem.evalArgs_none ⟨rfl, raw.typeIs, F.args_dict_items_1 _, _, meets_dict_items_raw d hs, ⟨es, ep, raw⟩, k (I1.kept (t' := s1.toks) fun b ob q => Heap.get?_push_of_some _ q)⟩)
  have nd : ∀ {es : Array DictEntry} {ep : Nat}, s1.heap.DictRaw d es ep → ∀ b, Value.ref d = .ref b → ∃ ob, s1.heap.get? b = some ob ∧ ob.dict = none := fun {es ep} ⟨ob, h1, h2, h3⟩ b e => by cases e; exact ⟨ob, h1, h2.2.1⟩
  rcases q with ⟨kvs, hd, q⟩ | ⟨xs, hd, q⟩
  · obtain ⟨hs, hgd, hx, es, ep, vs, hdt, hsz, kv, hm⟩ := I1.frzK hd
    have raw : s1.heap.DictRaw d es ep := ⟨o, hgd, hx, hdt⟩
    have hl : kvs.length = vs.length := Paired.length kv
    refine ⟨raw.typeIs, nd raw, view hs raw fun I2 => ?_⟩
    refine wpAny_pyIter_items_raw (d := d) ⟨_, Heap.get?_push_size _ rfl, rfl, rfl⟩ (raw.at fun _ => Heap.get?_push_of_some _) (pi_one (tk := s1.toks) I2 _ (turn_items _ hdt) ⟨.none, .none, ?_⟩ q)
    rw [show kvs.length = es.size by omega]
    exact Heap.get?_push_size _ rfl
  · obtain ⟨hs, hgd, hx, es, ep, hdt, hsz, ent⟩ := frzN I1 hd
    have raw : s1.heap.DictRaw d es ep := ⟨o, hgd, hx, hdt⟩
    refine ⟨raw.typeIs, nd raw, view hs raw fun I2 => ?_⟩
    refine wpAny_pyIter_items_raw (d := d) ⟨_, Heap.get?_push_size _ rfl, rfl, rfl⟩ (raw.at fun _ => Heap.get?_push_of_some _) (pi_one (tk := s1.toks) I2 _ (turn_itemsN _ hdt) ⟨.none, .none, ?_⟩ q)
    rw [← hsz]
    exact Heap.get?_push_size _ rfl
end
end DW
namespace DW
open PySem PySem.Spec PyProof.Rows L2
section
variable {K : PySem.W.Frag} {A : Addr → Prop} {H : Hp}
abbrev itemD (p : D × D) : D := .tuple [p.1, p.2]
theorem it_itemsI {a : Addr} {o : Obj} {xs : List (Int × V)} {vs : List D} (h : H a = some (.frz o (.dK (ikv xs)))) (n : ¬ A a) (hv : DaAll K A H (xs.map Prod.snd) vs) : ItOk K A (Iti a o (ikv xs)) ((iks xs vs).map itemD) H := by
  have hl : (ikv xs).length = xs.length := by simp [ikv]
  have hz : ((iks xs vs).map itemD).length = xs.length := by simp [iks, hv.map_len]
  refine ⟨fun A H => H a = some (.frz o (.dK (ikv xs))) ∧ ¬ A a ∧ DaAll K A H (xs.map Prod.snd) vs, ⟨fun A A' H H' g ⟨h1, h2, h3⟩ => ⟨g.keep _ _ h2 h1 (fun m => m), g.notin h2 (by rw [h1]; simp), h3.goes g⟩, fun i A H hi ⟨h1, _⟩ => ⟨h1, by omega⟩, fun A H ⟨h1, _⟩ => ⟨h1, by omega⟩, fun i A H x H' hi ⟨h1, h2, h3⟩ gz y => ?_⟩, h, n, hv⟩
  obtain ⟨T, k, v, e, rfl, hT, rfl⟩ := y
  have hi' : i < xs.length := by omega
  have ex := List.getElem?_eq_getElem hi'
  have ek : k = .inl xs[i].1 ∧ v = xs[i].2 := by
    simp only [ikv, List.getElem?_map, ex, Option.map_some, Option.some.injEq, Prod.mk.injEq] at e
    exact ⟨e.1.symm, e.2.symm⟩
  obtain ⟨rfl, rfl⟩ := ek
  obtain ⟨d, h4, h5⟩ := h3.get' (i := i) (v := xs[i].2) (by rw [List.getElem?_map, ex]; rfl)
  refine ⟨Step.new hT, fun u m => m.new hT (fun m => m), itemD (.int xs[i].1, d), ?_, .tup upd_same (gz T hT) (.cons (.int _) (.cons (h5.goes (Step.new hT).goes) .nil))⟩
  have e2 : (iks xs vs)[i]? = some (.int xs[i].1, d) := by
    unfold iks
    rw [List.getElem?_zip_eq_some]
    exact ⟨by rw [List.getElem?_map, ex]; rfl, h4⟩
  rw [List.getElem?_map, e2]
  rfl
theorem it_itemsN {a : Addr} {o : Obj} {xs : List (NestedKey × Addr × V)} {vs : List D} (h : H a = some (.frz o (DxO a xs))) (n : ¬ A a) (hk : DaAll K A H (xs.map fun p => .ref p.2.1) (xs.map fun p => p.1.data)) (hv : DaAll K A H (xs.map fun p => p.2.2) vs) : ItOk K A (ItnP a o xs) ((nks xs vs).map itemD) H := by
  have hz : ((nks xs vs).map itemD).length = xs.length := by simp [nks, hv.map_len]
  refine ⟨fun A H => H a = some (.frz o (DxO a xs)) ∧ ¬ A a ∧ DaAll K A H (xs.map fun (p : NestedKey × Addr × V) => (.ref p.2.1 : V)) (xs.map fun (p : NestedKey × Addr × V) => p.1.data) ∧ DaAll K A H (xs.map fun (p : NestedKey × Addr × V) => p.2.2) vs, ⟨fun A A' H H' g ⟨h1, h2, h3, h4⟩ => ⟨g.keep _ _ h2 h1 (fun m => m), g.notin h2 (by rw [h1]; simp), h3.goes g, h4.goes g⟩, fun i A H hi ⟨h1, _⟩ => ⟨h1, by omega⟩, fun A H ⟨h1, _⟩ => ⟨h1, by omega⟩, fun i A H x H' hi ⟨h1, h2, h3, h4⟩ gz y => ?_⟩, h, n, hk, hv⟩
  obtain ⟨T, p, e, rfl, hT, rfl⟩ := y
  obtain ⟨kd, k4, k5⟩ := h3.get' (i := i) (v := .ref p.2.1) (by rw [List.getElem?_map, e]; rfl)
  obtain ⟨d, v4, v5⟩ := h4.get' (i := i) (v := p.2.2) (by rw [List.getElem?_map, e]; rfl)
  refine ⟨Step.new hT, fun u m => m.new hT (fun m => m), itemD (kd, d), ?_, .tup upd_same (gz T hT) (.cons (k5.goes (Step.new hT).goes) (.cons (v5.goes (Step.new hT).goes) .nil))⟩
  have e2 : (nks xs vs)[i]? = some (kd, d) := by
    unfold nks
    rw [List.getElem?_zip_eq_some]
    exact ⟨k4, v4⟩
  rw [List.getElem?_map, e2]
  rfl
@[simp] def wiItems (w : WE) : WA := fun ρ u Q => w ρ u fun d u1 => ∃ kvs, d = xD kvs ∧ Q (kvs.map itemD) u1
theorem Da.dicV {v : V} {kvs : List (D × D)} (h : Da K A H v (xD kvs)) : ∃ a o, v = .ref a ∧ ¬ A a ∧ ((∃ (xs : List (Int × V)) (vs : List D), H a = some (.frz o (.dK (ikv xs))) ∧ DaAll K A H (xs.map Prod.snd) vs ∧ kvs = iks xs vs) ∨
    ∃ (xs : List (NestedKey × Addr × V)) (vs : List D), H a = some (.frz o (DxO a xs)) ∧ DaAll K A H (xs.map fun p => .ref p.2.1) (xs.map fun p => p.1.data) ∧ DaAll K A H (xs.map fun p => p.2.2) vs ∧ kvs = nks xs vs) := by
  generalize e : xD kvs = d at h
  cases h with
  | dctK h1 h2 h3 => cases e; exact ⟨_, _, rfl, h2, .inl ⟨_, _, h1, h3, rfl⟩⟩
  | dctN h1 h2 h3 h4 => cases e; exact ⟨_, _, rfl, h2, .inr ⟨_, _, h1, h3, h4, rfl⟩⟩
  | rng => simp [xD, rngD] at e
  | _ => simp [xD, sD, eD, mD] at e
end
theorem piItems {X : Cx} {e : Expr} {w : WE} {elts : List Expr} {kk : Nat} {tpos apos cpos : Pos} (h : PE X e (tD X.K w)) (hbase : attributeBase e "items" X.env (eval e X.env) = eval e X.env := by rfl) (hline : (apos.endLine == cpos.line) = true := by rfl) :
    PI X (.Tuple elts kk tpos) (.Call (.Attribute e "items" apos) [] [] cpos) (tIt X.K (wiItems w)) := PIi (pi_xitems h hbase hline) fun σ H Q ⟨N, A, H0, ρ, u, Qd, R, hw, k⟩ =>
  ⟨N, A, H0, ρ, u, _, R, hw, fun v H1 d u1 s1 m1 hd ⟨kvs, e, q⟩ => by
    subst e
    obtain ⟨a, o, rfl, na, q1⟩ := hd.dicV
    rcases q1 with ⟨xs, vs, h1, h2, rfl⟩ | ⟨xs, vs, h1, h2, h3, rfl⟩
    · exact ⟨a, o, rfl, .inl ⟨_, h1, k _ _ _ u1 s1 m1 (it_itemsI h1 na h2) q⟩⟩
    · exact ⟨a, o, rfl, .inr ⟨_, h1, k _ _ _ u1 s1 m1 (it_itemsN h1 na h2 h3) q⟩⟩⟩
/-! ### min of a list of alike data -/
theorem minD_least : ∀ (xs : List D) (x : D), PySem.W.minD x xs ∈ x :: xs ∧ ∀ y ∈ x :: xs, dLe (PySem.W.minD x xs) y = true
  | [], x => ⟨by simp [PySem.W.minD], fun y hy => by
    rw [List.mem_singleton.mp hy]
    exact (dLe_total.total x x).elim id id⟩
  | z :: xs, x => by
    have e : PySem.W.minD x (z :: xs) = PySem.W.minD (if PySem.W.dataLt z x then z else x) xs := rfl
    obtain ⟨m, l⟩ := minD_least xs (if PySem.W.dataLt z x then z else x)
    rw [e]
    have l0 := l _ List.mem_cons_self
    by_cases h : PySem.W.dataLt z x = true
    · rw [if_pos h] at m l l0 ⊢
      have zx : dLe z x = true := by
        rcases dLe_total.total z x with q | q
        · exact q
        · unfold dLe at q; rw [h] at q; cases q
      refine ⟨List.mem_cons_of_mem _ m, fun y hy => ?_⟩
      rcases List.mem_cons.mp hy with rfl | hy
      · exact dLe_total.trans _ _ _ l0 zx
      · exact l y hy
    · rw [if_neg h] at m l l0 ⊢
      have xz : dLe x z = true := by unfold dLe; simpa using h
      refine ⟨?_, fun y hy => ?_⟩
      · rcases List.mem_cons.mp m with q | q
        · rw [q]; exact List.mem_cons_self
        · exact List.mem_cons_of_mem _ (List.mem_cons_of_mem _ q)
      · rcases List.mem_cons.mp hy with rfl | hy
        · exact l0
        · rcases List.mem_cons.mp hy with rfl | hy
          · exact dLe_total.trans _ _ _ l0 xz
          · exact l y (List.mem_cons_of_mem _ hy)
section
variable {X : Cx} {K : PySem.W.Frag}
def rMinD (K : PySem.W.Frag) : List V → Hp → VK → Prop := fun vs H Q => ∃ (a : Addr) (xs : List V) (A : Addr → Prop) (ds : List D), vs = [V.ref a] ∧ SqL K H a xs ∧ DaAll K A H xs ds ∧ SrtOk ds ∧ ds ≠ [] ∧ (∀ d ∈ ds, d ≠ .none) ∧
  ∀ (i : Nat) v d, xs[i]? = some v → ds[i]? = some d → (∀ e ∈ ds, dLe d e = true) → Q v H
theorem depthAll_le {n : Nat} : ∀ {ds : List D}, (∀ d ∈ ds, d.depth ≤ n) → PyData.depthAll ds ≤ n
  | [], _ => by simp [PyData.depthAll]
  | d :: ds, h => by
    have h1 := h d List.mem_cons_self
    have h2 := depthAll_le fun x hx => h x (List.mem_cons_of_mem _ hx)
    simp only [PyData.depthAll]
    omega
theorem cr_minD (hc : X.calm = true) (hu : X.A.units + 65 < cLine) : CallR X (.builtin "min") (rMinD X.K) := by
  intro pins s σ H vs us Q I r h
  obtain ⟨a, xs, A, ds, rfl, hs, hx, ok, hne, nn, q⟩ := h
  obtain ⟨its, rv, hl, hz⟩ := I.list hs
  obtain ⟨u, rfl, ru⟩ := vals1 r
  obtain rfl : u = Value.ref a := ru
  have all : ∀ {xs : List V} {ds : List D} {us : List Value}, DaAll X.K A H xs ds → Vals xs us → (∀ d ∈ ds, d.canLay0 = true) → ∃ as, ReadsAll s.heap us ds as := by
    intro xs ds us hd
    induction hd using DaAll.rec (motive_1 := fun _ _ _ => True) generalizing us with
    | nil => intro r _; cases r; exact ⟨_, .nil⟩
    | @cons v vs d ds h1 h2 _ ih =>
      intro r c
      cases r with
      | cons r1 r2 =>
        obtain ⟨as, q1⟩ := Dp.reads I d v _ (h1.dp (c d List.mem_cons_self)) r1
        obtain ⟨bs, q2⟩ := ih r2 fun d hd => c d (List.mem_cons_of_mem _ hd)
        exact ⟨_, .cons q1 q2⟩
    | _ => trivial
  obtain ⟨as, rd⟩ := all hx rv ok.lay
  cases ds with
  | nil => exact absurd rfl hne
  | cons d0 ds =>
    have dep := depthAll_le ok.dep
    refine PySem.W.min_list_data (as := as) (I.ok.hd hc) hl.isList rd ⟨ok.alike, nn⟩ (by omega) fun i v h' tk bs hv rm hk => ?_
    obtain ⟨bs2, r2, hi, _, _⟩ := PySem.W.readsAll_atA rd i v hv
    have eD : (d0 :: ds).getD i .none = PySem.W.minD d0 ds := PySem.SeqAt.Reads.unique _ _ _ _ _ (ok.lay _ (by
      rw [List.getD_eq_getElem?_getD, List.getElem?_eq_getElem hi]; exact List.getElem_mem _)) (PyProof.Rows.Reads.keeps hk r2) rm
    have hil : i < xs.length := by rw [hx.length]; exact hi
    have hv' : its[i]? = some v := by simpa using hv
    obtain ⟨u2, hu2, ru2⟩ := rv.get (List.getElem?_eq_getElem hil)
    rw [hv'] at hu2
    cases hu2
    refine ⟨xs[i], H, I.kept (t' := tk) (fun b o e => hk b o e), ru2, q i _ _ (List.getElem?_eq_getElem hil) (List.getElem?_eq_getElem hi) ?_⟩
    have e2 : (d0 :: ds)[i] = PySem.W.minD d0 ds := by
      rw [← eD, List.getD_eq_getElem?_getD, List.getElem?_eq_getElem hi]; rfl
    rw [e2]
    exact (minD_least ds d0).2
/-- the least: told as one that is nowhere above another -/
def fMinL : List D → (D → Prop) → Prop
  | [.list ds], Q => SrtOk ds ∧ ds ≠ [] ∧ (∀ d ∈ ds, d ≠ .none) ∧ ∀ d ∈ ds, (∀ e ∈ ds, dLe d e = true) → Q d
  | _, _ => False
theorem cd_minL : CallD K (rMinD K) fMinL := fun N A H xs ds Q Qd u hf hm hx h k => by
  unfold fMinL at h
  split at h
  · rename_i ds
    obtain ⟨h1, h2, h3, h4⟩ := h
    obtain ⟨v, rfl, hv⟩ := db1 hx rfl
    obtain ⟨a, vs, rfl, ha, hvs⟩ := hv.lists
    exact ⟨a, vs, A, ds, rfl, .inl (.inl ha), hvs, h1, h2, h3, fun i v d e1 e2 l => by
      obtain ⟨d', e3, hd⟩ := hvs.get' e1
      rw [e2] at e3
      cases e3
      exact k _ H _ (Step.refl H) hm hd (h4 d (List.mem_of_getElem? e2) l)⟩
  · exact h.elim
end
section
variable {X : Cx} {W : XK}
/-- a statement that is never reached -/
@[simp] def wNever : WS := fun _ _ _ => False
theorem psNever {st : Stmt} : PS X st (tSx X.K W wNever) := ⟨fun _ _ _ _ _ _ ⟨_, _, _, _, _, _, _, h, _⟩ => h.elim⟩
end
end DW

set_option Elab.async false
set_option linter.all false
set_option maxRecDepth 100000
set_option maxHeartbeats 4000000
namespace DW
open PySem PySem.Spec PyProof.Rows L2
/-! ### a dict display with one pair, and a call whose answer is not kept -/
section
variable {X : Cx}
def tDOne (tk tv : TE) : TE := fun σ H Q => ∀ P, H P = none → tk σ (upd H P (.dK [])) fun y H1 => tv σ H1 fun z H2 => ∃ A k d, DicW X.K A H2 P [] ∧ KOk [] k ∧ Da X.K A H2 y k ∧ Da X.K A H2 z d ∧ A P ∧ ∀ o', ¬ IsM o' → DicW X.K A (upd H2 P o') P (dPut [] k d) → Q (.ref P) (upd H2 P o')
theorem pe_dOne {ke ve : Expr} {pos : Pos} {tk tv : TE} (hu : X.A.units + 65 < cLine) (hk : PE X ke tk) (hv : PE X ve tv) : PE X (.Dict [some ke] [ve] pos) (tDOne (X := X) tk tv) := ⟨fun pins s σ H Q I h => by
  rw [arm_eval_Dict, show (evalEachOpt [some ke] X.env).zip ((evalEach [ve] X.env).map fun v => do let x ← v; standAt pos; pure x) = [((eval ke X.env), (do let x ← eval ve X.env; standAt pos; pure x : Sem Value))].map (fun p => (some p.1, p.2)) from rfl, dictDisplay_pairs _ (by simp) (by simp)]
  refine wpAny_bind (wpAny_standAt (wpAny_bind ?_))
  unfold subDict
  refine wpAny_bind (wpAny_alloc ?_)
  refine wpAny_bind (wpAny_holding ?_)
  rw [if_pos (by simp)]
  have I0 := I.laid (a := s.heap.objs.size) (o := .dK []) (t' := s.toks) (fun _ _ q => Heap.get?_push_of_some _ q) (Nat.le_refl _) (dk_empty s.heap I.big)
  have h0 := h _ (I.hok.fresh (Nat.le_refl _))
  refine wpAny_bind (evalPairs_cons ?_)
  refine thn (hk.run pins _ σ _ _ I0 h0) fun r1 s1 ⟨y, H1, I1, ry, q1⟩ => ?_
  refine wpAny_bind (thn (hv.run pins s1 σ H1 _ I1 q1) fun r2 s2 ⟨z, H2, I2, rz, A, k, d, g, ko, dy, dz, hA, q⟩ => wpAny_bind (wpAny_standAt (wpAny_pure ?_)))
  refine evalPairs_nil ?_
  refine wpAny_holding ?_
  rw [List.forIn_cons]
  refine wpAny_bind (wpAny_bind (wpAny_bind (dx_store (by omega) I2 g ko dy ry dz rz hA (by simp) fun o' s' no g' I' => wpAny_pure ?_)))
  show wpAny _ _ (forIn [] _ _) _ _ _
  rw [List.forIn_nil]
  exact wpAny_pure (wpAny_pure (wpAny_pure (wpAny_pure ⟨.ref s.heap.objs.size, _, I', rfl, q o' no g'⟩)))⟩
variable {W : XK}
/-- x = {k: v} -/
@[simp] def wSetD1 (i : Nat) (wk wv : WE) : WS := fun F ρ u => wk ρ u fun k u1 => wv ρ u1 fun v u2 => KOk [] k ∧ F.nx (ρ.set i (some (.dic (dPut [] k v)))) u2
theorem psSetD1 {st : Stmt} {i : Nat} {wk wv : WE} (h : PS X st (tAsg (tDOne (X := X) (tD X.K wk) (tD X.K wv)) (gName i))) : PS X st (tSx X.K W (wSetD1 i wk wv)) := PSi h fun E σ H ⟨N, A, H0, ρ, u, F, R, hw, k1, k2, k3, k4, k5⟩ P hP => by
  have st0 : Step H (upd H P (.dK [])) := Step.new hP
  have m0 : MInv (Aand A P) u X.K (upd H P (.dK [])) := R.minv.newA hP (fun m => m)
  have R0 : Rel X.K N (Aand A P) H0 (wipe σ []) (upd H P (.dK [])) (wipeR ρ []) u := R.wiped st0 m0 hP (by rw [upd_same]; simp) []
  refine ⟨N, Aand A P, H0, ρ, u, _, R0, hw, fun y H1 k u1 s1 m1 hk q1 => ⟨N, Aand A P, H0, ρ, u1, _, R0.go s1 m1, q1, fun z H2 d u2 s2 m2 hd ⟨ko, q2⟩ => ?_⟩⟩
  have g0 : OwnAt X.K (Aand A P) (upd H P (.dK [])) P (.dic []) := .inl ⟨[], [], upd_same, .nil, rfl⟩
  have g2 : OwnAt X.K (Aand A P) H2 P (.dic []) := (g0.step s1).step s2
  obtain ⟨o, eo, mo⟩ := g2.some
  refine ⟨Aand A P, k, d, g2, ko, hk.goes s2.goes, hd, .inr rfl, fun o' no g' => ?_⟩
  have sH : Step H H2 := (st0.trans s1).trans s2
  have sE : Step H (upd H2 P o') := ⟨fun b x hb m => by rw [upd_ne (ne_of_none hb hP)]; exact sH.keep b x hb m, fun b x hb m => by
    obtain ⟨o2, h2, m2⟩ := sH.ms b x hb m
    exact ⟨o2, by rw [upd_ne (ne_of_none hb hP)]; exact h2, m2⟩⟩
  exact k1 _ _ _ _ u2 (goes_and sE hP) (R.setOb sE (m2.putA (.inr rfl) no) hP (c := .dic (dPut [] k d)) g') q2
/-- f(..) for nothing -/
@[simp] def wDrop (w : WE) : WS := fun F ρ u => w ρ u fun _ u1 => F.nx ρ u1
theorem psDrop {st : Stmt} {w : WE} (h : PS X st (tDrop (tD X.K w))) : PS X st (tSx X.K W (wDrop w)) := PSi h fun E σ H ⟨N, A, H0, ρ, u, F, R, hw, k1, k2, k3, k4, k5⟩ =>
  ⟨N, A, H0, ρ, u, _, R, hw, fun v H1 d u1 s1 m1 hd q => k1 A σ H1 ρ u1 s1.goes (R.go s1 m1) q⟩
/-- tuple(reversed(xs)) -/
@[simp] def wTupRev (w : WE) : WE := fun ρ u Q => w ρ u fun d u1 => ∃ xs, d = .list xs ∧ Q (.tuple xs.reverse) u1
theorem pTupRev {e : Expr} {w : WE} {p p2 pos pos2 : Pos} (hc : X.calm = true) (hg : Gl X "tuple") (hm : X.mg "tuple" = none) (hg2 : Gl X "reversed") (hm2 : X.mg "reversed" = none) (he : PE X e (tBo X.K w))
    (hs : starEach [e] X.env = (false, eval e X.env) :: starEach [] X.env := by rfl)
    (hs2 : starEach [.Call (.Name "reversed" p2) [e] [] pos2] X.env = (false, eval (.Call (.Name "reversed" p2) [e] [] pos2) X.env) :: starEach [] X.env := by rfl) :
    PE X (.Call (.Name "tuple" p) [.Call (.Name "reversed" p2) [e] [] pos2] [] pos) (tD X.K (wTupRev w)) :=
  PEi (RT.pe_tupRev hc hg hm hg2 hm2 he hs hs2) fun σ H Q ⟨N, A, H0, ρ, u, Qd, R, hw, k⟩ => ⟨N, A, H0, ρ, u, _, R, hw, fun x H1 c u1 s1 m1 hx ⟨xs, e, q⟩ => by
    subst e
    obtain ⟨a, vs, rfl, ha, hxs⟩ := hx.lists
    exact ⟨a, vs, rfl, .inl (.inl ha), fun p hp => k _ _ _ u1 (s1.trans (Step.new hp)) (m1.new hp (fun m => m)) (.tup upd_same (R.fresh (s1.fresh hp)) (hxs.rev.goes (Step.new hp).goes)) q⟩⟩
end
end DW

set_option Elab.async false
set_option linter.all false
set_option maxRecDepth 100000
set_option maxHeartbeats 2000000
namespace WLD
open PySem PySem.Spec PyProof.Rows L2 DW
/-! ### dicts over data: what they hold -/
theorem dGet_none {kvs : List (D × D)} {k : D} (h : ∀ p ∈ kvs, isK p.1 = true) (hk : isK k = true) (n : ∀ p ∈ kvs, p.1 ≠ k) : dGet kvs k = none := by
  unfold dGet
  have : kvs.find? (fun p => keq p.1 k) = none := List.find?_eq_none.mpr fun p hp e => n p hp ((keq_iff (h p hp) hk).mp e)
  rw [this]; rfl
theorem dGet_mem {kvs : List (D × D)} {k v : D} (h : ∀ p ∈ kvs, isK p.1 = true) (nd : (kvs.map Prod.fst).Nodup) (m : (k, v) ∈ kvs) : dGet kvs k = some v := by
  have hk : isK k = true := h _ m
  induction kvs with
  | nil => cases m
  | cons p r ih =>
    have nd' := List.nodup_cons.mp nd
    unfold dGet
    rw [List.find?_cons]
    rcases List.mem_cons.mp m with e | m
    · subst e
      have : keq k k = true := (keq_iff hk hk).mpr rfl
      simp only [this]
      rfl
    · have : keq p.1 k = false := by
        cases q : keq p.1 k with
        | false => rfl
        | true =>
          have e := (keq_iff (h p List.mem_cons_self) hk).mp q
          exact absurd (List.mem_map.mpr ⟨(k, v), m, rfl⟩) (by rw [← e]; exact nd'.1)
      simp only [this]
      exact ih (fun p hp => h p (List.mem_cons_of_mem _ hp)) nd'.2 m
theorem dPut_new {kvs : List (D × D)} {k v : D} (h : ∀ p ∈ kvs, isK p.1 = true) (hk : isK k = true) (n : ∀ p ∈ kvs, p.1 ≠ k) : dPut kvs k v = kvs ++ [(k, v)] := by
  unfold dPut
  rw [if_neg]
  intro e
  obtain ⟨p, hp, q⟩ := List.any_eq_true.mp e
  exact n p hp ((keq_iff (h p hp) hk).mp q)
/-- things that may be keys of one dict -/
def HK (S : List D) : Prop := (∀ d ∈ S, ∃ i, d = .int i) ∨ ∀ d ∈ S, ∃ xs, d = .tuple xs ∧ isKs xs = true ∧ PyData.depthAll xs ≤ 7
theorem HK.isK {S : List D} (h : HK S) {d : D} (m : d ∈ S) : DW.isK d = true := by
  rcases h with h | h
  · obtain ⟨i, rfl⟩ := h d m; rfl
  · obtain ⟨xs, rfl, h1, _⟩ := h d m; simpa [DW.isK] using h1
theorem HK.ok {S : List D} (h : HK S) {kvs : List (D × D)} (hk : ∀ p ∈ kvs, p.1 ∈ S) {k : D} (m : k ∈ S) : KOk kvs k := by
  rcases h with h | h
  · obtain ⟨i, rfl⟩ := h k m
    exact .int fun p hp => h _ (hk p hp)
  · obtain ⟨xs, rfl, h1, h2⟩ := h k m
    exact .tup h1 h2 fun p hp => let ⟨ys, e, _⟩ := h _ (hk p hp); ⟨ys, e⟩
theorem HK.sub {S S' : List D} (h : HK S) (s : ∀ d ∈ S', d ∈ S) : HK S' := h.imp (fun h d m => h d (s d m)) fun h d m => h d (s d m)
/-! ### worlds -/
structure Wd where
  n : Nat
  es : List (Nat × Nat)
  tb : List (List Int)
def prN (p : Nat × Nat) : D := .tuple [.int (p.1 : Nat), .int (p.2 : Nat)]
def rowI (r : List Int) : D := .tuple (r.map .int)
def wdD (W : Wd) : D := .tuple [.int (W.n : Nat), .tuple (W.es.map prN), .tuple (W.tb.map rowI)]
namespace Wd
def src (W : Wd) (f : Nat) : Nat := (W.es.getD f (0, 0)).1
def tgt (W : Wd) (f : Nat) : Nat := (W.es.getD f (0, 0)).2
def t (W : Wd) (f g : Nat) : Int := (W.tb.getD f []).getD g (-1)
def m (W : Wd) : Nat := W.es.length
def c (W : Wd) (f g : Nat) : Nat := (W.t f g).toNat
end Wd
structure IsW (W : Wd) : Prop where
  nm : W.n ≤ W.m
  still : ∀ k, k < W.n → W.src k = k ∧ W.tgt k = k
  ends : ∀ f, f < W.m → W.src f < W.n ∧ W.tgt f < W.n
  rows : W.tb.length = W.m ∧ ∀ r ∈ W.tb, r.length = W.m
  no : ∀ f g, f < W.m → g < W.m → W.tgt f ≠ W.src g → W.t f g = -1
  yes : ∀ f g, f < W.m → g < W.m → W.tgt f = W.src g → W.t f g = (W.c f g : Nat) ∧ W.c f g < W.m ∧ W.src (W.c f g) = W.src f ∧ W.tgt (W.c f g) = W.tgt g
  unit : ∀ f, f < W.m → W.c (W.src f) f = f ∧ W.c f (W.tgt f) = f
  assoc : ∀ f g h, f < W.m → g < W.m → h < W.m → W.tgt f = W.src g → W.tgt g = W.src h → W.c (W.c f g) h = W.c f (W.c g h)
/-! ### a world from names -/
section
open Classical
variable {α : Type}
noncomputable def ix (l : List α) (a : α) : Nat := l.idxOf a
theorem ix_get {l : List α} {a : α} (h : a ∈ l) : l[ix l a]? = some a := by
  unfold ix
  rw [List.getElem?_eq_getElem (List.idxOf_lt_length_of_mem h)]
  simp
theorem ix_lt {l : List α} {a : α} (h : a ∈ l) : ix l a < l.length := List.idxOf_lt_length_of_mem h
theorem ix_of {l : List α} (nd : l.Nodup) {i : Nat} {a : α} (h : l[i]? = some a) : ix l a = i := by
  have hm : a ∈ l := List.mem_of_getElem? h
  exact (List.getElem?_inj (ix_lt hm) nd).mp ((ix_get hm).trans h.symm)
theorem ix_inj {l : List α} {a b : α} (ha : a ∈ l) (hb : b ∈ l) (e : ix l a = ix l b) : a = b := by
  have h1 := ix_get ha
  rw [e, ix_get hb] at h1
  exact (Option.some.inj h1).symm
/-- the world of the things th, the arrows L -/
noncomputable def wOf (th L : List α) (src tgt : α → α) (fo : α → α → α) : Wd where
  n := th.length
  es := L.map fun k => (ix th (src k), ix th (tgt k))
  tb := L.map fun a => L.map fun b => if tgt a = src b then ((ix L (fo a b) : Nat) : Int) else -1
/-- the names go together to a world -/
structure Cat (th ks : List α) (src tgt : α → α) (st : α → α) (fo : α → α → α) : Prop where
  tnd : th.Nodup
  knd : ks.Nodup
  st_in : ∀ x ∈ th, st x ∈ ks ∧ src (st x) = x ∧ tgt (st x) = x
  ends : ∀ k ∈ ks, src k ∈ th ∧ tgt k ∈ th
  fo_in : ∀ a ∈ ks, ∀ b ∈ ks, tgt a = src b → fo a b ∈ ks ∧ src (fo a b) = src a ∧ tgt (fo a b) = tgt b
  unit : ∀ k ∈ ks, fo (st (src k)) k = k ∧ fo k (st (tgt k)) = k
  assoc : ∀ a ∈ ks, ∀ b ∈ ks, ∀ c ∈ ks, tgt a = src b → tgt b = src c → fo (fo a b) c = fo a (fo b c)
theorem isW_of {th ks L : List α} {src tgt st : α → α} {fo : α → α → α} (C : Cat th ks src tgt st fo) {th' : List α} (pt : th'.Perm th) (pL : L.Perm ks) (hs : ∀ (i : Nat) (x : α), th'[i]? = some x → L[i]? = some (st x)) : IsW (wOf th' L src tgt fo) := by
  have tnd : th'.Nodup := pt.nodup_iff.mpr C.tnd
  have Lnd : L.Nodup := pL.nodup_iff.mpr C.knd
  have inL : ∀ {k}, k ∈ L ↔ k ∈ ks := pL.mem_iff
  have inT : ∀ {k}, k ∈ th' ↔ k ∈ th := pt.mem_iff
  have hm : (wOf th' L src tgt fo).m = L.length := by simp [Wd.m, wOf]
  have hsrc : ∀ {f : Nat} {k : α}, L[f]? = some k → (wOf th' L src tgt fo).src f = ix th' (src k) := fun {f k} e => by
    simp [Wd.src, wOf, List.getD, e]
  have htgt : ∀ {f : Nat} {k : α}, L[f]? = some k → (wOf th' L src tgt fo).tgt f = ix th' (tgt k) := fun {f k} e => by
    simp [Wd.tgt, wOf, List.getD, e]
  have ht : ∀ {f g : Nat} {a b : α}, L[f]? = some a → L[g]? = some b → (wOf th' L src tgt fo).t f g = if tgt a = src b then ((ix L (fo a b) : Nat) : Int) else -1 := fun {f g a b} e e2 => by
    simp [Wd.t, wOf, List.getD, e, e2]
  have get : ∀ {f : Nat}, f < L.length → ∃ k, L[f]? = some k ∧ k ∈ ks := fun {f} h => ⟨L[f], List.getElem?_eq_getElem h, inL.mp (List.getElem_mem h)⟩
  have eqv : ∀ {f g : Nat} {a b : α}, L[f]? = some a → L[g]? = some b → a ∈ ks → b ∈ ks → ((wOf th' L src tgt fo).tgt f = (wOf th' L src tgt fo).src g ↔ tgt a = src b) := fun {f g a b} e e2 ha hb => by
    rw [htgt e, hsrc e2]
    exact ⟨fun h => ix_inj (inT.mpr (C.ends a ha).2) (inT.mpr (C.ends b hb).1) h, fun h => by rw [h]⟩
  have hc : ∀ {f g : Nat} {a b : α}, L[f]? = some a → L[g]? = some b → a ∈ ks → b ∈ ks → tgt a = src b → (wOf th' L src tgt fo).c f g = ix L (fo a b) := fun {f g a b} e e2 ha hb h => by
    simp [Wd.c, ht e e2, h]
  refine ⟨?_, ?_, ?_, ?_, ?_, ?_, ?_, ?_⟩
  · rw [hm]
    show th'.length ≤ L.length
    rcases Nat.lt_or_ge L.length th'.length with h | h
    · have hx := List.getElem?_eq_getElem h
      have := hs L.length _ hx
      rw [List.getElem?_eq_none (Nat.le_refl _)] at this
      cases this
    · exact h
  · intro k hk
    have hk' : k < th'.length := hk
    have hx := List.getElem?_eq_getElem hk'
    have hL := hs k _ hx
    have hin : th'[k] ∈ th := inT.mp (List.getElem_mem hk')
    obtain ⟨_, s1, s2⟩ := C.st_in _ hin
    rw [hsrc hL, htgt hL, s1, s2]
    exact ⟨ix_of tnd hx, ix_of tnd hx⟩
  · intro f hf
    rw [hm] at hf
    obtain ⟨k, e, hk⟩ := get hf
    rw [hsrc e, htgt e]
    exact ⟨ix_lt (inT.mpr (C.ends k hk).1), ix_lt (inT.mpr (C.ends k hk).2)⟩
  · rw [hm]
    refine ⟨by simp [wOf], fun r hr => ?_⟩
    simp only [wOf, List.mem_map] at hr
    obtain ⟨a, _, rfl⟩ := hr
    simp
  · intro f g hf hg h
    rw [hm] at hf hg
    obtain ⟨a, e, ha⟩ := get hf
    obtain ⟨b, e2, hb⟩ := get hg
    rw [ht e e2, if_neg fun z => h ((eqv e e2 ha hb).mpr z)]
  · intro f g hf hg h
    rw [hm] at hf hg ⊢
    obtain ⟨a, e, ha⟩ := get hf
    obtain ⟨b, e2, hb⟩ := get hg
    have h' := (eqv e e2 ha hb).mp h
    obtain ⟨f1, f2, f3⟩ := C.fo_in a ha b hb h'
    have fL := inL.mpr f1
    rw [hc e e2 ha hb h', ht e e2, if_pos h']
    have g1 := ix_get fL
    refine ⟨rfl, ix_lt fL, ?_, ?_⟩
    · rw [hsrc g1, hsrc e, f2]
    · rw [htgt g1, htgt e2, f3]
  · intro f hf
    rw [hm] at hf
    obtain ⟨k, e, hk⟩ := get hf
    obtain ⟨e1, e2⟩ := C.ends k hk
    obtain ⟨u1, u2⟩ := C.unit k hk
    have stn : ∀ x ∈ th, L[ix th' x]? = some (st x) := fun x hx => hs _ x (ix_get (inT.mpr hx))
    have a1 := C.st_in _ e1
    have a2 := C.st_in _ e2
    rw [hsrc e, htgt e, hc (stn _ e1) e a1.1 hk a1.2.2, hc e (stn _ e2) hk a2.1 a2.2.1.symm, u1, u2]
    exact ⟨ix_of Lnd e, ix_of Lnd e⟩
  · intro f g h hf hg hh q1 q2
    rw [hm] at hf hg hh
    obtain ⟨a, e, ha⟩ := get hf
    obtain ⟨b, e2, hb⟩ := get hg
    obtain ⟨d, e3, hd⟩ := get hh
    have q1' := (eqv e e2 ha hb).mp q1
    have q2' := (eqv e2 e3 hb hd).mp q2
    obtain ⟨f1, f2, f3⟩ := C.fo_in a ha b hb q1'
    obtain ⟨g1, g2, g3⟩ := C.fo_in b hb d hd q2'
    rw [hc e e2 ha hb q1', hc e2 e3 hb hd q2', hc (ix_get (inL.mpr f1)) e3 f1 hd (f3.trans q2'), hc e (ix_get (inL.mpr g1)) ha g1 (q1'.trans g2.symm), C.assoc a ha b hb d hd q1' q2']
end
end WLD

set_option Elab.async false
set_option linter.all false
set_option maxRecDepth 100000
set_option maxHeartbeats 2000000
namespace K02
open PySem PySem.Spec PyProof.Rows L2 DW WLD
/-! ### what the defs are worth -/
structure NC where
  th : List D
  ks : List D
  src : D → D
  tgt : D → D
  nam : D → D
  st : D → D
  fo : D → D → D
  fk : List (D × D)
structure NCOk (C : NC) : Prop extends Cat C.th C.ks C.src C.tgt C.st C.fo where
  thk : HK C.th
  ksk : HK C.ks
  ksd : ∀ k ∈ C.ks, k.depth ≤ 6
  tlen : C.th.length ≤ 100
  klen : C.ks.length ≤ 100
  fkin : ∀ p ∈ C.fk, p.1 ∈ C.ks ∧ p.2 ∈ C.ks ∧ C.tgt p.1 = C.src p.2
  fkall : ∀ a ∈ C.ks, ∀ b ∈ C.ks, C.tgt a = C.src b → (a, b) ∈ C.fk
  fknd : C.fk.Nodup
  fkl : C.fk.length < 100000
  ths : SrtOk C.th
  rs : ∀ l : List (Int × Int × D), (∀ p ∈ l, p.2.2 ∈ C.ks) → SrtOk (l.map fun p => .tuple [.int p.1, .int p.2.1, C.nam p.2.2, p.2.2])
def arD (C : NC) : D := xD (C.ks.map fun k => (k, .tuple [C.src k, C.tgt k, C.nam k]))
def stD (C : NC) : D := xD (C.th.map fun x => (x, C.st x))
def foD (C : NC) : D := xD (C.fk.map fun p => (.tuple [p.1, p.2], C.fo p.1 p.2))
def W__law_begun : WF := fun u ds Q => ∃ ns k, ds = [sD ns, .int k] ∧ 0 ≤ k ∧ k ≤ 100 ∧ ns.length ≤ 63 ∧ Q mD u
def W__law_draw : WF := fun u ds Q => ∃ b, ds = [mD, .int b] ∧ 0 < b ∧ b < 1073741824 ∧ (u : Int) < 1000000000 ∧ ∀ r, 0 ≤ r → r < b → Q (.int r) (u + 1)
def W__law_like : WF := fun u ds Q => ∃ a b, ds = [a, b] ∧ reprOk a = true ∧ reprOk b = true ∧ Q (.bool (decide (a.shown = b.shown))) u
def W__law_named : WF := fun u ds Q => ∃ C, NCOk C ∧ ds = [.list C.th, arD C, stD C, foD C] ∧ ∀ W sd nd, IsW W → W.n = C.th.length → W.m = C.ks.length → Q (.tuple [wdD W, sd, nd]) u
/-- pairs that make an order, without the still ones -/
structure OrdOk (n : Nat) (ps : List (Nat × Nat)) : Prop where
  nd : ps.Nodup
  lt : ∀ p ∈ ps, p.1 < n ∧ p.2 < n ∧ p.1 ≠ p.2
  tr : ∀ x y z, (x, y) ∈ ps → (y, z) ∈ ps → x ≠ z → (x, z) ∈ ps
def W__law_order : WF := fun u ds Q => ∃ (n : Nat) (ps : List (Nat × Nat)), ds = [.int n, .list (ps.map prN)] ∧ OrdOk n ps ∧ n ≤ 8 ∧ ∀ W, IsW W → W.n = n → W.m = n + ps.length → W.es.Nodup → Q (wdD W) u
def W__law_chain : WF := fun u ds Q => ∃ n : Nat, ds = [.int n] ∧ n ≤ 8 ∧ ∀ W, IsW W → W.n = n → W.m = n + n * (n - 1) / 2 → W.es.Nodup → Q (wdD W) u
def ringW (k : Nat) : Wd := ⟨1, List.replicate k (0, 0), (List.range k).map fun a => (List.range k).map fun b => ((a + b) % k : Nat)⟩
/-- one thing, the arrows by a table -/
def loopsW (T : List (List Nat)) : Wd := ⟨1, T.map fun _ => (0, 0), T.map fun r => r.map fun e : Nat => (e : Int)⟩
def W__law_loops : WF := fun u ds Q => ∃ T : List (List Nat), T.length ≤ 40 ∧ (∀ r ∈ T, r.length ≤ 100) ∧ ds = [.list (T.map fun r => .list (r.map fun e : Nat => .int (e : Nat)))] ∧ Q (wdD (loopsW T)) u
def W__law_ring : WF := fun u ds Q => ∃ (k : Nat), 0 < k ∧ k ≤ 40 ∧ ds = [.int k] ∧ Q (wdD (ringW k)) u
def W__law_turned : WF := fun u ds Q => ∃ W, IsW W ∧ W.m ≤ 100 ∧ ds = [wdD W] ∧ ∀ W', IsW W' → W'.n = W.n → W'.m = W.m → Q (wdD W') u
def W__law_sum : WF := fun u ds Q => ∃ W1 W2, IsW W1 ∧ IsW W2 ∧ W1.m + W2.m ≤ 40 ∧ ds = [wdD W1, wdD W2] ∧ ∀ W, IsW W → W.n = W1.n + W2.n → W.m = W1.m + W2.m → Q (wdD W) u
/-- a move: from a thing to a thing, with what becomes of each place -/
structure Mv where
  x : Nat
  y : Nat
  im : List Nat
deriving DecidableEq
def mvD (v : Mv) : D := .tuple [.int v.x, .int v.y, .tuple (v.im.map fun e => .int (e : Nat))]
def IsMv (sz : List Nat) (v : Mv) : Prop := v.x < sz.length ∧ v.y < sz.length ∧ v.im.length = sz.getD v.x 0 ∧ ∀ e ∈ v.im, e < sz.getD v.y 0
def idM (sz : List Nat) (x : Nat) : Mv := ⟨x, x, List.range (sz.getD x 0)⟩
def comM (a b : Mv) : Mv := ⟨a.x, b.y, a.im.map fun e => b.im.getD e 0⟩
def SzOk (sz : List Nat) : Prop := 0 < sz.length ∧ sz.length ≤ 8 ∧ ∀ s ∈ sz, 1 ≤ s ∧ s ≤ 3
/-- moves that go together -/
structure MvsOk (sz : List Nat) (l : List Mv) : Prop where
  nd : l.Nodup
  mv : ∀ v ∈ l, IsMv sz v
  id : ∀ x, x < sz.length → idM sz x ∈ l
  cl : ∀ a ∈ l, ∀ b ∈ l, a.y = b.x → comM a b ∈ l
def szD (sz : List Nat) : D := .list (sz.map fun s => .int (s : Nat))
def W__law_closed_moves : WF := fun u ds Q => ∃ (sz : List Nat) (l : List Mv) (most : Nat), SzOk sz ∧ (∀ v ∈ l, IsMv sz v) ∧ most ≤ 40 ∧ l.length ≤ 100 ∧ ds = [szD sz, .list (l.map mvD), .int most] ∧ (l ≠ [] ∨ sz.length ≤ most) ∧ (l ≠ [] → Q .none u) ∧ ∀ l', MvsOk sz l' → l'.length ≤ most → Q (.list (l'.map mvD)) u
def W__law_world_of_moves : WF := fun u ds Q => ∃ (sz : List Nat) (l : List Mv), SzOk sz ∧ MvsOk sz l ∧ l.length ≤ 40 ∧ ds = [szD sz, .list (l.map mvD)] ∧ ∀ W sd nd, IsW W → W.n = sz.length → W.m = l.length → Q (.tuple [wdD W, sd, nd]) u
def W__law_drawn_moves : WF := fun u ds Q => ∃ (things most : Nat), ds = [mD, .int things, .int most] ∧ 1 ≤ things ∧ things ≤ 8 ∧ most ≤ 40 ∧ (u : Int) < 900000000 ∧ ∀ sz l u', SzOk sz → MvsOk sz l → sz.length ≤ things → l.length ≤ 40 → u' ≤ u + 1000 → Q (.tuple [szD sz, .list (l.map mvD)]) u'
def W__law_drawn_order : WF := fun u ds Q => ∃ (things : Nat), ds = [mD, .int things] ∧ things ≤ 7 ∧ (u : Int) < 900000000 ∧ ∀ W u', IsW W → W.n ≤ things → W.m ≤ min 60 (things * things) → u' ≤ u + 1000 → Q (wdD W) u'
def W__law_drawn_world : WF := fun u ds Q => ∃ (things most : Nat), ds = [mD, .int things, .int most] ∧ 1 ≤ things ∧ things ≤ 7 ∧ 3 ≤ most ∧ most ≤ 40 ∧ (u : Int) < 800000000 ∧ ∀ W u', IsW W → W.n ≤ things → W.m ≤ most → u' ≤ u + 3000 → Q (wdD W) u'
/-! the law's own, and the program -/
def back? (W : Wd) (f : Nat) : Option Nat := (List.range W.m).find? fun g => decide (W.src g = W.tgt f ∧ W.tgt g = W.src f ∧ W.c f g = W.src f ∧ W.c g f = W.tgt f)
def sureL (W : Wd) (f : Nat) : List Int := ((List.range W.m).filter fun g => decide (W.tgt g = W.src f)).map fun g => W.t g f
def wideL (W : Wd) (f : Nat) : List Int := ((List.range W.m).filter fun g => decide (W.tgt f = W.src g)).map fun g => W.t f g
def sure (W : Wd) (f : Nat) : Bool := decide (distinct (sureL W f) = (sureL W f).length)
def wide (W : Wd) (f : Nat) : Bool := decide (distinct (wideL W f) = (wideL W f).length)
def idle (W : Wd) (f : Nat) : Bool := decide (W.t f f = f)
def onD : Option Nat → D
  | none => .none
  | some g => .int (g : Nat)
def tu (W : Wd) : Wd := ⟨W.n, W.es.map fun p => (p.2, p.1), (List.range W.m).map fun f => (List.range W.m).map fun g => W.t g f⟩
def OneW (u : Nat) (ds : List D) (P : Wd → Nat → Prop) : Prop := ∃ W f, IsW W ∧ W.m ≤ 40 ∧ f < W.m ∧ ds = [wdD W, .int (f : Nat)] ∧ P W f
def W_back_of : WF := fun u ds Q => OneW u ds fun W f => Q (onD (back? W f)) u
def W_are_all_unlike : WF := fun u ds Q => ∃ ns : List Int, ns.length < 64 ∧ ds = [.list (ns.map .int)] ∧ Q (.bool (decide (distinct ns = ns.length))) u
def W_is_sure : WF := fun u ds Q => OneW u ds fun W f => Q (.bool (sure W f)) u
def W_is_wide : WF := fun u ds Q => OneW u ds fun W f => Q (.bool (wide W f)) u
def W_is_idle : WF := fun u ds Q => OneW u ds fun W f => Q (.bool (idle W f)) u
def W_turned : WF := fun u ds Q => ∃ W, IsW W ∧ W.m ≤ 40 ∧ ds = [wdD W] ∧ Q (wdD (tu W)) u
def W__law_between : WF := fun u ds Q => ∃ W x y, IsW W ∧ W.m ≤ 40 ∧ ds = [wdD W, .int (x : Nat), .int (y : Nat)] ∧ Q (.list (((List.range W.m).filter fun f => decide (W.src f = x ∧ W.tgt f = y)).map fun f => .int (f : Nat))) u
def W__law_back : WF := fun u ds Q => OneW u ds fun W f => Q (onD (back? W f)) u
def W__law_is_sure : WF := fun u ds Q => OneW u ds fun W f => Q (.bool (sure W f)) u
def W__law_is_wide : WF := fun u ds Q => OneW u ds fun W f => Q (.bool (wide W f)) u
def lstN (L : List Nat) : D := .list (L.map fun e => .int (e : Nat))
def tupN (L : List Nat) : D := .tuple (L.map fun e => .int (e : Nat))
def W__law_of : WF := fun u ds Q => ∃ xs : List D, xs ≠ [] ∧ xs.length ≤ 1000000 ∧ (ds = [mD, .list xs] ∨ ds = [mD, .tuple xs]) ∧ (u : Int) < 1000000000 ∧ ∀ x ∈ xs, Q x (u + 1)
end K02

set_option Elab.async false
set_option linter.all false
set_option maxRecDepth 100000
set_option maxHeartbeats 2000000
namespace K02
open PySem PySem.Spec PyProof.Rows L2 DW WLD
/-! webs, ways, and words put in the place of words -/
structure Wb where
  n : Nat
  rs : List (Nat × Nat)
def wbD (W : Wb) : D := .tuple [.int (W.n : Nat), .tuple (W.rs.map prN)]
structure WbOk (W : Wb) : Prop where
  n6 : W.n ≤ 6
  r8 : W.rs.length ≤ 8
  up : ∀ r ∈ W.rs, r.1 < r.2 ∧ r.2 < W.n
/-- where a word leads from a thing -/
def Wb.go (W : Wb) : Nat → List Nat → Option Nat
  | x, [] => some x
  | x, r :: l => match W.rs[r]? with
    | some e => if e.1 = x then W.go e.2 l else none
    | none => none
structure Wy where
  x : Nat
  l : List Nat
deriving DecidableEq
def IsWy (W : Wb) (w : Wy) : Prop := w.x < W.n ∧ ∃ y, W.go w.x w.l = some y
def Wb.e (W : Wb) (w : Wy) : Nat := (W.go w.x w.l).getD 0
def waD (w : Wy) : D := .tuple [.int (w.x : Nat), tupN w.l]
def wyD (W : Wb) (w : Wy) : D := .tuple [.int (w.x : Nat), .int (W.e w : Nat), .int (w.l.length : Nat), tupN w.l]
/-- there are at most c ways -/
def Cnt (W : Wb) (c : Nat) : Prop := ∀ L : List Wy, L.Nodup → (∀ w ∈ L, IsWy W w) → L.length ≤ c
/-- all ways, ascending -/
def Every (W : Wb) (E : List Wy) : Prop := E.Nodup ∧ (∀ w, w ∈ E ↔ IsWy W w) ∧ (E.map (wyD W)).Pairwise fun a b => dLe a b = true
abbrev Eqs := List (List Nat × List Nat)
def sdE (p : List Nat × List Nat) (s : Nat) : List Nat := if s = 0 then p.1 else p.2
def pqD (p : List Nat × List Nat) : D := .tuple [tupN p.1, tupN p.2]
def eqD (E : Eqs) : D := .tuple (E.map pqD)
structure EqOk (W : Wb) (E : Eqs) : Prop where
  len : E.length ≤ 64
  ok : ∀ p ∈ E, p.1 ≠ [] ∧ p.2 ≠ [] ∧ ∃ a b, a < W.n ∧ W.go a p.1 = some b ∧ W.go a p.2 = some b
def rp (l : List Nat) (p : Nat) (u v : List Nat) : Option (List Nat) := if (l.drop p).take u.length = u then some (l.take p ++ v ++ l.drop (p + u.length)) else none
abbrev St4 := Nat × Nat × Nat × List Nat
def oneS (E : Eqs) (l : List Nat) (k s p : Nat) : List St4 := match rp l p (sdE (E.getD k ([], [])) s) (sdE (E.getD k ([], [])) (1 - s)) with
  | some z => [(p, k, s, z)]
  | none => []
def blkS (E : Eqs) (l : List Nat) (k s : Nat) : List St4 := (List.range l.length).flatMap fun p => oneS E l k s p
def SL (E : Eqs) (l : List Nat) : List St4 := (List.range E.length).flatMap fun k => (List.range 2).flatMap fun s => blkS E l k s
def Stp (E : Eqs) (l z : List Nat) : Prop := ∃ t ∈ SL E l, t.2.2.2 = z
inductive Rc (E : Eqs) (l : List Nat) : List Nat → Prop
  | refl : Rc E l l
  | step {a b : List Nat} : Rc E l a → Stp E a b → Rc E l b
def lwD (l : List Nat) : D := .tuple [.int (l.length : Nat), tupN l]
/-- the least word that words make of a word -/
def Lst (E : Eqs) (l z : List Nat) : Prop := Rc E l z ∧ ∀ y, Rc E l y → dLe (lwD z) (lwD y) = true
def stpD (t : St4) : D := .tuple [.int (t.1 : Nat), .int (t.2.1 : Nat), .int (t.2.2.1 : Nat)]
def snD (t : St4) : D := .tuple [stpD t, tupN t.2.2.2]
def nrD (t : St4) : D := .tuple [tupN t.2.2.2, stpD t]
def ShortE (E : Eqs) (l : List Nat) : Prop := E.length ≤ 64 ∧ l.length ≤ 100 ∧ ∀ p ∈ E, p.1.length ≤ 100 ∧ p.2.length ≤ 100
def kids (W : Wb) (w : Wy) : List Wy := ((List.range W.rs.length).filter fun r => decide ((W.rs.getD r (0, 0)).1 = W.e w)).map fun r => ⟨w.x, w.l ++ [r]⟩
def W_replaced : WF := fun u ds Q => ∃ l p s v, l.length ≤ 100 ∧ s.length ≤ 100 ∧ v.length ≤ 100 ∧ p ≤ 100 ∧ ds = [tupN l, .int (p : Nat), tupN s, tupN v] ∧ Q (match rp l p s v with | some z => tupN z | none => .none) u
def W_steps_from : WF := fun u ds Q => ∃ E l, ShortE E l ∧ ds = [eqD E, tupN l] ∧ Q (.list ((SL E l).map snD)) u
def W__law_near : WF := fun u ds Q => ∃ E l, ShortE E l ∧ ds = [eqD E, tupN l] ∧ Q (.list ((SL E l).map nrD)) u
def W_end_of : WF := fun u ds Q => ∃ W w, WbOk W ∧ IsWy W w ∧ ds = [wbD W, waD w] ∧ Q (.int (W.e w : Nat)) u
def W_gone_on : WF := fun u ds Q => ∃ W w, WbOk W ∧ IsWy W w ∧ ds = [wbD W, waD w] ∧ Q (.list ((kids W w).map waD)) u
def W_ways : WF := fun u ds Q => ∃ W, WbOk W ∧ Cnt W 200 ∧ ds = [wbD W] ∧ ∀ A, Every W A → Q (.tuple (A.map waD)) u
def W_put_together : WF := fun u ds Q => ∃ (L : List Nat) (a b : Nat), L.length ≤ 1000 ∧ ds = [lstN L, .int (a : Nat), .int (b : Nat)] ∧ Q (lstN (L.map fun x => if x = max a b then min a b else x)) u
def W_least_ways : WF := fun u ds Q => ∃ W E, WbOk W ∧ Cnt W 200 ∧ EqOk W E ∧ ds = [wbD W, eqD E] ∧ ∀ (A : List Wy) (f : Wy → List Nat), Every W A → (∀ w ∈ A, Lst E w.l (f w)) → Q (xD (A.map fun w => (waD w, waD ⟨w.x, f w⟩))) u
def W_least_way : WF := fun u ds Q => ∃ W E w, WbOk W ∧ Cnt W 200 ∧ EqOk W E ∧ IsWy W w ∧ ds = [wbD W, eqD E, waD w] ∧ ∀ z, Lst E w.l z → Q (waD ⟨w.x, z⟩) u
/-! the law's own -/
def W__law_shuffled : WF := fun u ds Q => ∃ c : Nat, c ≤ 8 ∧ ds = [mD, .int (c : Nat)] ∧ (u : Int) < 900000000 ∧ ∀ p u', p.Perm (List.range c) → u' ≤ u + 10 → Q (tupN p) u'
def W__law_web : WF := fun u ds Q => ds = [mD, .int 6, .int 8] ∧ (u : Int) < 900000000 ∧ ∀ W u', WbOk W → u' ≤ u + 20 → Q (wbD W) u'
def W__law_ways : WF := fun u ds Q => ∃ W, WbOk W ∧ ds = [wbD W] ∧ ∀ A : List Wy, A.Nodup → (∀ w ∈ A, IsWy W w) → ((∀ w, IsWy W w → w ∈ A) ∨ 400 < A.length) → A.length ≤ 5000 → ((A.map (wyD W)).Pairwise fun a b => dLe a b = true) → Q (.list (A.map (wyD W))) u
def W__law_small_web : WF := fun u ds Q => ds = [mD, .int 6, .int 8, .int 60] ∧ (u : Int) < 800000000 ∧ ∀ W u', WbOk W → Cnt W 60 → u' ≤ u + 200 → Q (wbD W) u'
def W__law_equals : WF := fun u ds Q => ∃ W, WbOk W ∧ Cnt W 60 ∧ ds = [mD, wbD W, .int 4] ∧ (u : Int) < 800000000 ∧ ∀ E u', EqOk W E → E.length ≤ 4 → u' ≤ u + 20 → Q (eqD E) u'
def W__law_class : WF := fun u ds Q => ∃ W E w, WbOk W ∧ Cnt W 200 ∧ EqOk W E ∧ IsWy W w ∧ ds = [eqD E, tupN w.l] ∧ ∀ F : List (List Nat), F.Nodup → (∀ z, z ∈ F ↔ Rc E w.l z) → F.length ≤ 200 → Q (.list (F.map tupN)) u
def W__law_least : WF := fun u ds Q => ∃ W E w, WbOk W ∧ Cnt W 200 ∧ EqOk W E ∧ IsWy W w ∧ ds = [eqD E, tupN w.l] ∧ ∀ z, Lst E w.l z → Q (tupN z) u
end K02

set_option Elab.async false
set_option linter.all false
set_option maxRecDepth 100000
set_option maxHeartbeats 4000000
namespace K02
open PySem PySem.Spec PyProof.Rows L2 DW WLD
/-! ### where words lead -/
theorem go_app {W : Wb} : ∀ {a b : List Nat} {x : Nat}, W.go x (a ++ b) = (W.go x a).bind fun y => W.go y b
  | [], b, x => rfl
  | r :: a, b, x => by
    simp only [List.cons_append, Wb.go]
    cases h : W.rs[r]? with
    | none => rfl
    | some e =>
      simp only
      by_cases q : e.1 = x
      · rw [if_pos q, if_pos q]
        exact go_app
      · rw [if_neg q, if_neg q]
        rfl
theorem go_start {W : Wb} {u : List Nat} (hu : u ≠ []) {a b z w : Nat} (h1 : W.go a u = some b) (h2 : W.go z u = some w) : z = a ∧ w = b := by
  cases u with
  | nil => exact absurd rfl hu
  | cons r u =>
    simp only [Wb.go] at h1 h2
    cases h : W.rs[r]? with
    | none => rw [h] at h1; cases h1
    | some e =>
      rw [h] at h1 h2
      simp only at h1 h2
      by_cases q : e.1 = a
      · by_cases q2 : e.1 = z
        · rw [if_pos q] at h1
          rw [if_pos q2, h1] at h2
          exact ⟨q2.symm.trans q, (Option.some.inj h2).symm⟩
        · rw [if_neg q2] at h2; cases h2
      · rw [if_neg q] at h1; cases h1
theorem go_up {W : Wb} (hW : WbOk W) : ∀ {l : List Nat} {x y : Nat}, W.go x l = some y → x + l.length ≤ y ∧ (x < W.n → y < W.n) ∧ ∀ r ∈ l, r < W.rs.length
  | [], x, y, h => by
    simp only [Wb.go, Option.some.injEq] at h
    subst h
    exact ⟨Nat.le_refl _, id, fun r hr => nomatch hr⟩
  | r :: l, x, y, h => by
    simp only [Wb.go] at h
    cases q : W.rs[r]? with
    | none => rw [q] at h; cases h
    | some e =>
      rw [q] at h
      simp only at h
      by_cases q2 : e.1 = x
      · rw [if_pos q2] at h
        obtain ⟨h1, h2, h3⟩ := go_up hW h
        obtain ⟨u1, u2⟩ := hW.up e (List.mem_of_getElem? q)
        have hr : r < W.rs.length := (List.getElem?_eq_some_iff.mp q).1
        refine ⟨by rw [List.length_cons]; omega, fun _ => h2 u2, fun t ht => ?_⟩
        rcases List.mem_cons.mp ht with rfl | ht
        · exact hr
        · exact h3 t ht
      · rw [if_neg q2] at h; cases h
theorem IsWy.short {W : Wb} (hW : WbOk W) {w : Wy} (h : IsWy W w) : w.l.length ≤ 5 ∧ w.x < 6 ∧ W.e w < W.n ∧ W.go w.x w.l = some (W.e w) ∧ ∀ r ∈ w.l, r < 8 := by
  obtain ⟨hx, y, hy⟩ := h
  obtain ⟨h1, h2, h3⟩ := go_up hW hy
  have n6 := hW.n6
  have r8 := hW.r8
  have := h2 hx
  have e : W.e w = y := by unfold Wb.e; rw [hy]; rfl
  refine ⟨by omega, by omega, by omega, by rw [e]; exact hy, fun r hr => by have := h3 r hr; omega⟩
/-! ### one step -/
theorem rp_some {l z u v : List Nat} {p : Nat} (h : rp l p u v = some z) : (l.drop p).take u.length = u ∧ z = l.take p ++ v ++ l.drop (p + u.length) := by
  unfold rp at h
  split at h
  · rename_i e
    exact ⟨e, (Option.some.inj h).symm⟩
  · cases h
theorem rp_cut {l z u v : List Nat} {p : Nat} (h : rp l p u v = some z) : l = l.take p ++ (u ++ l.drop (p + u.length)) ∧ z = l.take p ++ (v ++ l.drop (p + u.length)) := by
  obtain ⟨h1, h2⟩ := rp_some h
  refine ⟨?_, by rw [h2, List.append_assoc]⟩
  have e : l.drop p = u ++ l.drop (p + u.length) := by
    have := (List.take_append_drop u.length (l.drop p)).symm
    rw [h1, List.drop_drop] at this
    exact this
  rw [← e, List.take_append_drop]
theorem rp_of {a u v b : List Nat} : rp (a ++ (u ++ b)) a.length u v = some (a ++ (v ++ b)) := by
  unfold rp
  rw [List.drop_left, List.take_left, if_pos rfl, List.take_left, ← List.drop_drop, List.drop_left, List.drop_left, List.append_assoc]
theorem rp_len {l z u v : List Nat} {p : Nat} (hu : u ≠ []) (h : rp l p u v = some z) : p < l.length ∧ (l.take p).length = p := by
  obtain ⟨h1, _⟩ := rp_some h
  have : p < l.length := by
    rcases Nat.lt_or_ge p l.length with q | q
    · exact q
    · rw [List.drop_eq_nil_of_le q] at h1
      simp at h1
      exact absurd h1.symm (by simpa using hu)
  exact ⟨this, by rw [List.length_take]; omega⟩
theorem mem_SL {E : Eqs} {l : List Nat} {t : St4} : t ∈ SL E l ↔ t.2.1 < E.length ∧ t.2.2.1 < 2 ∧ t.1 < l.length ∧ rp l t.1 (sdE (E.getD t.2.1 ([], [])) t.2.2.1) (sdE (E.getD t.2.1 ([], [])) (1 - t.2.2.1)) = some t.2.2.2 := by
  unfold SL blkS
  simp only [List.mem_flatMap, List.mem_range]
  constructor
  · rintro ⟨k, hk, s, hs, p, hp, h⟩
    unfold oneS at h
    split at h
    · rename_i z e
      rw [List.mem_singleton] at h
      subst h
      exact ⟨hk, hs, hp, e⟩
    · cases h
  · rintro ⟨hk, hs, hp, h⟩
    refine ⟨t.2.1, hk, t.2.2.1, hs, t.1, hp, ?_⟩
    unfold oneS
    rw [h]
    exact List.mem_singleton.mpr rfl
/-- the two words of a step, either way -/
def Par (E : Eqs) (u v : List Nat) : Prop := (u, v) ∈ E ∨ (v, u) ∈ E
theorem par_of {E : Eqs} {k s : Nat} (hk : k < E.length) (hs : s < 2) : Par E (sdE (E.getD k ([], [])) s) (sdE (E.getD k ([], [])) (1 - s)) := by
  have e : E.getD k ([], []) = E[k] := by rw [List.getD_eq_getElem?_getD, List.getElem?_eq_getElem hk]; rfl
  rw [e]
  have hm : E[k] ∈ E := List.getElem_mem hk
  have : s = 0 ∨ s = 1 := by omega
  rcases this with rfl | rfl
  · exact .inl hm
  · exact .inr hm
theorem stp_iff {W : Wb} {E : Eqs} (hE : EqOk W E) {l z : List Nat} : Stp E l z ↔ ∃ u v a b, Par E u v ∧ l = a ++ (u ++ b) ∧ z = a ++ (v ++ b) := by
  constructor
  · rintro ⟨t, ht, rfl⟩
    obtain ⟨h1, h2, h3, h4⟩ := mem_SL.mp ht
    obtain ⟨c1, c2⟩ := rp_cut h4
    exact ⟨_, _, _, _, par_of h1 h2, c1, c2⟩
  · rintro ⟨u, v, a, b, hp, rfl, rfl⟩
    have find : ∀ (p : List Nat × List Nat), p ∈ E → ∃ k, k < E.length ∧ E.getD k ([], []) = p := fun p hp => by
      obtain ⟨k, hk, e⟩ := List.getElem_of_mem hp
      exact ⟨k, hk, by rw [List.getD_eq_getElem?_getD, List.getElem?_eq_getElem hk]; exact e⟩
    have go : ∀ k s, k < E.length → s < 2 → sdE (E.getD k ([], [])) s = u → sdE (E.getD k ([], [])) (1 - s) = v → u ≠ [] → Stp E (a ++ (u ++ b)) (a ++ (v ++ b)) := fun k s hk hs e1 e2 hu => by
      refine ⟨(a.length, k, s, a ++ (v ++ b)), mem_SL.mpr ⟨hk, hs, ?_, ?_⟩, rfl⟩
      · have := List.length_pos_iff.mpr hu
        simp only [List.length_append]
        omega
      · rw [e1, e2]
        exact rp_of
    rcases hp with h | h
    · obtain ⟨k, hk, e⟩ := find _ h
      exact go k 0 hk (by omega) (by rw [e]; rfl) (by rw [e]; rfl) (hE.ok _ h).1
    · obtain ⟨k, hk, e⟩ := find _ h
      exact go k 1 hk (by omega) (by rw [e]; rfl) (by rw [e]; rfl) (hE.ok _ h).2.1
theorem Par.symm {E : Eqs} {u v : List Nat} (h : Par E u v) : Par E v u := h.elim .inr .inl
section
variable {W : Wb} {E : Eqs} (hE : EqOk W E)
theorem stp_symm {l z : List Nat} (hE : EqOk W E) (h : Stp E l z) : Stp E z l := by
  obtain ⟨u, v, a, b, hp, e1, e2⟩ := (stp_iff hE).mp h
  exact (stp_iff hE).mpr ⟨v, u, a, b, hp.symm, e2, e1⟩
theorem rc_trans {a b c : List Nat} (h1 : Rc E a b) (h2 : Rc E b c) : Rc E a c := by
  induction h2 with
  | refl => exact h1
  | step _ s ih => exact .step ih s
theorem rc_symm {a b : List Nat} (hE : EqOk W E) (h : Rc E a b) : Rc E b a := by
  induction h with
  | refl => exact .refl
  | step _ s ih => exact rc_trans (.step .refl (stp_symm hE s)) ih
theorem par_go {u v : List Nat} (hE : EqOk W E) (h : Par E u v) : u ≠ [] ∧ v ≠ [] ∧ ∃ a b, a < W.n ∧ W.go a u = some b ∧ W.go a v = some b := by
  rcases h with h | h
  · exact hE.ok _ h
  · obtain ⟨h1, h2, a, b, h3, h4, h5⟩ := hE.ok _ h
    exact ⟨h2, h1, a, b, h3, h5, h4⟩
theorem stp_go {l z : List Nat} (hE : EqOk W E) (h : Stp E l z) {x y : Nat} (hy : W.go x l = some y) : W.go x z = some y := by
  obtain ⟨u, v, a, b, hp, rfl, rfl⟩ := (stp_iff hE).mp h
  obtain ⟨hu, hv, s, t, _, h1, h2⟩ := par_go hE hp
  rw [go_app] at hy ⊢
  cases q : W.go x a with
  | none => rw [q] at hy; cases hy
  | some m =>
    rw [q] at hy
    simp only [Option.bind_some] at hy ⊢
    rw [go_app] at hy ⊢
    cases q2 : W.go m u with
    | none => rw [q2] at hy; cases hy
    | some m2 =>
      obtain ⟨rfl, rfl⟩ := go_start hu h1 q2
      rw [q2] at hy
      rw [h2]
      exact hy
theorem rc_go {l z : List Nat} (hE : EqOk W E) (h : Rc E l z) {x y : Nat} (hy : W.go x l = some y) : W.go x z = some y := by
  induction h with
  | refl => exact hy
  | step _ s ih => exact stp_go hE s ih
theorem rc_way {x : Nat} {l z : List Nat} (hE : EqOk W E) (h : Rc E l z) (hw : IsWy W ⟨x, l⟩) : IsWy W ⟨x, z⟩ ∧ W.e ⟨x, z⟩ = W.e ⟨x, l⟩ := by
  obtain ⟨h1, y, hy⟩ := hw
  have hz := rc_go hE h hy
  refine ⟨⟨h1, y, hz⟩, ?_⟩
  unfold Wb.e
  simp only at hy hz ⊢
  rw [hy, hz]
theorem rc_appR {a b : List Nat} (hE : EqOk W E) (m : List Nat) (h : Rc E a b) : Rc E (a ++ m) (b ++ m) := by
  induction h with
  | refl => exact .refl
  | step _ s ih =>
    obtain ⟨u, v, c, d, hp, e1, e2⟩ := (stp_iff hE).mp s
    refine .step ih ((stp_iff hE).mpr ⟨u, v, c, d ++ m, hp, by rw [e1]; simp, by rw [e2]; simp⟩)
theorem rc_appL {a b : List Nat} (hE : EqOk W E) (m : List Nat) (h : Rc E a b) : Rc E (m ++ a) (m ++ b) := by
  induction h with
  | refl => exact .refl
  | step _ s ih =>
    obtain ⟨u, v, c, d, hp, e1, e2⟩ := (stp_iff hE).mp s
    refine .step ih ((stp_iff hE).mpr ⟨u, v, m ++ c, d, hp, by rw [e1]; simp, by rw [e2]; simp⟩)
theorem rc_eqv {E' : Eqs} (hE : EqOk W E) (hE' : EqOk W E') (h : ∀ u v, Par E u v → Par E' u v) {a b : List Nat} (r : Rc E a b) : Rc E' a b := by
  induction r with
  | refl => exact .refl
  | step _ s ih =>
    obtain ⟨u, v, c, d, hp, e1, e2⟩ := (stp_iff hE).mp s
    exact .step ih ((stp_iff hE').mpr ⟨u, v, c, d, h u v hp, e1, e2⟩)
end
/-! ### the order -/
theorem dlt_cons {x y : D} {xs ys : List D} (h : PySem.W.alike x y = true) : PySem.W.dataLt (.tuple (x :: xs)) (.tuple (y :: ys)) = if PyData.eqv x y = true then PySem.W.dataLt (.tuple xs) (.tuple ys) else PySem.W.dataLt x y := by
  rw [PySem.W.dataLt_tuple]
  cases e : PyData.eqv x y with
  | true => rw [PySem.W.dataLt_all_yes h e, if_pos rfl, PySem.W.dataLt_tuple]
  | false => rw [PySem.W.dataLt_all_no h e, if_neg (by decide)]
theorem dlt_ints {a b : Nat} {xs ys : List D} : PySem.W.dataLt (.tuple (.int (a : Nat) :: xs)) (.tuple (.int (b : Nat) :: ys)) = if a = b then PySem.W.dataLt (.tuple xs) (.tuple ys) else decide (a < b) := by
  rw [dlt_cons (by simp [PySem.W.alike])]
  have e : PyData.eqv (.int (a : Nat)) (.int (b : Nat)) = decide (a = b) := by
    rw [Bool.eq_iff_iff, decide_eq_true_eq, eqv_nb _ _ rfl rfl]
    exact ⟨fun h => Int.ofNat_inj.mp (PyData.int.inj h), fun h => by rw [h]⟩
  rw [e, PySem.W.dataLt_int]
  by_cases h : a = b
  · simp [h]
  · simp [h]
theorem dlt_nc {b : Nat} {ys : List D} : PySem.W.dataLt (.tuple []) (.tuple (.int (b : Nat) :: ys)) = true := rfl
theorem dlt_tup {a b : List Nat} : PySem.W.dataLt (tupN a) (tupN b) = false → PySem.W.dataLt (tupN b) (tupN a) = false → a = b := by
  induction a generalizing b with
  | nil =>
    cases b with
    | nil => intros; rfl
    | cons y b => intro h; exact absurd h (by rw [show (tupN (y :: b) : D) = .tuple (.int (y : Nat) :: b.map fun e => .int (e : Nat)) from rfl, show (tupN [] : D) = .tuple [] from rfl, dlt_nc]; decide)
  | cons x a ih =>
    cases b with
    | nil => intro _ h; exact absurd h (by rw [show (tupN (x :: a) : D) = .tuple (.int (x : Nat) :: a.map fun e => .int (e : Nat)) from rfl, show (tupN [] : D) = .tuple [] from rfl, dlt_nc]; decide)
    | cons y b =>
      intro h1 h2
      rw [show (tupN (x :: a) : D) = .tuple (.int (x : Nat) :: a.map fun e => .int (e : Nat)) from rfl, show (tupN (y :: b) : D) = .tuple (.int (y : Nat) :: b.map fun e => .int (e : Nat)) from rfl, dlt_ints] at h1 h2
      by_cases e : x = y
      · rw [if_pos e] at h1
        rw [if_pos e.symm] at h2
        rw [e, ih h1 h2]
      · rw [if_neg e] at h1
        rw [if_neg (fun z => e z.symm)] at h2
        have := of_decide_eq_false h1
        have := of_decide_eq_false h2
        omega
theorem alk_ints : ∀ (a b : List Nat), PySem.W.alikeAll (a.map fun e => (.int (e : Nat) : D)) (b.map fun e => (.int (e : Nat) : D)) = true
  | [], _ => by simp [PySem.W.alikeAll]
  | _ :: _, [] => by simp [PySem.W.alikeAll]
  | x :: a, y :: b => by simp [PySem.W.alikeAll, PySem.W.alike, alk_ints a b]
theorem sh_nats {L : List Nat} : ∀ d ∈ (L.map fun e => (.int (e : Nat) : D)), Sh 0 d := fun d hd => by obtain ⟨e, _, rfl⟩ := List.mem_map.mp hd; exact .int
theorem alike_tupN {a b : List Nat} : PySem.W.alike (tupN a) (tupN b) = true := by
  simp only [tupN, PySem.W.alike]
  exact alk_ints _ _
theorem dlt_one {a b : List Nat} : PySem.W.dataLt (.tuple [tupN a]) (.tuple [tupN b]) = PySem.W.dataLt (tupN a) (tupN b) := by
  rw [dlt_cons alike_tupN]
  by_cases h : PyData.eqv (tupN a) (tupN b) = true
  · rw [if_pos h]
    have nb1 : ∀ L : List Nat, nb (tupN L) = true := fun L => (Sh.tup (n := 0) sh_nats).1
    have e := (eqv_nb _ _ (nb1 a) (nb1 b)).mp h
    rw [e]
    have irr : ∀ d : D, PySem.W.dataLt d d = false := fun d => by
      have := dLe_total.total d d
      unfold dLe at this
      rcases this with q | q <;> simpa using q
    rw [irr, irr]
  · rw [if_neg h]
theorem lw_lt {a b : List Nat} : PySem.W.dataLt (lwD a) (lwD b) = if a.length = b.length then PySem.W.dataLt (tupN a) (tupN b) else decide (a.length < b.length) := by
  unfold lwD
  rw [dlt_ints, dlt_one]
theorem lw_anti {a b : List Nat} (h1 : dLe (lwD a) (lwD b) = true) (h2 : dLe (lwD b) (lwD a) = true) : a = b := by
  unfold dLe at h1 h2
  rw [Bool.not_eq_true', lw_lt] at h1 h2
  by_cases e : a.length = b.length
  · rw [if_pos e.symm] at h1
    rw [if_pos e] at h2
    exact dlt_tup h2 h1
  · rw [if_neg (fun z => e z.symm)] at h1
    rw [if_neg e] at h2
    have := of_decide_eq_false h1
    have := of_decide_eq_false h2
    omega
theorem wy_lt {W : Wb} {v w : Wy} : PySem.W.dataLt (wyD W v) (wyD W w) = if v.x = w.x then (if W.e v = W.e w then PySem.W.dataLt (lwD v.l) (lwD w.l) else decide (W.e v < W.e w)) else decide (v.x < w.x) := by
  unfold wyD
  rw [dlt_ints, dlt_ints]
  rfl
theorem wy_le {W : Wb} {v w : Wy} (e1 : v.x = w.x) (e2 : W.e v = W.e w) : dLe (wyD W v) (wyD W w) = dLe (lwD v.l) (lwD w.l) := by
  unfold dLe
  rw [wy_lt, if_pos e1.symm, if_pos e2.symm]
theorem wy_anti {W : Wb} {v w : Wy} (h1 : dLe (wyD W v) (wyD W w) = true) (h2 : dLe (wyD W w) (wyD W v) = true) : v = w := by
  have a1 := h1
  have a2 := h2
  unfold dLe at a1 a2
  rw [Bool.not_eq_true', wy_lt] at a1 a2
  by_cases e : v.x = w.x
  · rw [if_pos e.symm] at a1
    rw [if_pos e] at a2
    by_cases e2 : W.e v = W.e w
    · rw [wy_le e e2] at h1
      rw [wy_le e.symm e2.symm] at h2
      have := lw_anti h1 h2
      cases v; cases w
      simp_all
    · rw [if_neg (fun z => e2 z.symm)] at a1
      rw [if_neg e2] at a2
      have := of_decide_eq_false a1
      have := of_decide_eq_false a2
      omega
  · rw [if_neg (fun z => e z.symm)] at a1
    rw [if_neg e] at a2
    have := of_decide_eq_false a1
    have := of_decide_eq_false a2
    omega
theorem every_uniq {W : Wb} {A B : List Wy} (hA : Every W A) (hB : Every W B) : A = B := by
  refine List.Perm.eq_of_pairwise (le := fun v w => dLe (wyD W v) (wyD W w) = true) (fun a b _ _ h1 h2 => wy_anti h1 h2) (List.pairwise_map.mp hA.2.2) (List.pairwise_map.mp hB.2.2) ?_
  exact (List.perm_ext_iff_of_nodup hA.1 hB.1).mpr fun a => (hA.2.1 a).trans (hB.2.1 a).symm
theorem lst_uniq {W : Wb} {E : Eqs} (hE : EqOk W E) {a b z z' : List Nat} (h1 : Lst E a z) (h2 : Lst E b z') (h : Rc E a b) : z = z' :=
  lw_anti (h1.2 _ (rc_trans h h2.1)) (h2.2 _ (rc_trans (rc_symm hE h) h1.1))
theorem lst_self {E : Eqs} {W : Wb} (hE : EqOk W E) {a z : List Nat} (h : Lst E a z) : Lst E z z := ⟨.refl, fun y hy => h.2 y (rc_trans h.1 hy)⟩
theorem lst_swap {W : Wb} {E E' : Eqs} (hE : EqOk W E) (hE' : EqOk W E') (h : ∀ u v, Par E u v ↔ Par E' u v) {a z : List Nat} (q : Lst E a z) : Lst E' a z :=
  ⟨rc_eqv hE hE' (fun u v => (h u v).mp) q.1, fun y hy => q.2 y (rc_eqv hE' hE (fun u v => (h u v).mpr) hy)⟩
/-- at most so many words -/
theorem class_len {W : Wb} {E : Eqs} {c : Nat} (hC : Cnt W c) (hE : EqOk W E) {w : Wy} (hw : IsWy W w) {F : List (List Nat)} (nd : F.Nodup) (h : ∀ z ∈ F, Rc E w.l z) : F.length ≤ c := by
  have := hC (F.map fun z => ⟨w.x, z⟩) (List.pairwise_map.mpr (List.Pairwise.imp (fun {a b} h e => h (Wy.mk.inj e).2) nd)) fun v hv => by
    obtain ⟨z, hz, rfl⟩ := List.mem_map.mp hv
    exact (rc_way hE (h z hz) hw).1
  rwa [List.length_map] at this
end K02

set_option Elab.async false
set_option linter.all false
set_option maxRecDepth 100000
set_option maxHeartbeats 4000000
namespace K02
open PySem PySem.Spec PyProof.Rows L2 DW WLD
/-! ### parts of the ways that words make of one another -/
def atW (A : List Wy) (k : Nat) : Wy := A.getD k ⟨0, []⟩
theorem atW_get {A : List Wy} {k : Nat} (h : k < A.length) : A[k]? = some (atW A k) := by
  rw [List.getElem?_eq_getElem h]
  unfold atW
  rw [List.getD_eq_getElem?_getD, List.getElem?_eq_getElem h]
  rfl
theorem atW_mem {A : List Wy} {k : Nat} (h : k < A.length) : atW A k ∈ A := List.mem_of_getElem? (atW_get h)
theorem atW_ix {A : List Wy} {w : Wy} (h : w ∈ A) : atW A (ix A w) = w := by
  have := ix_get h
  rw [atW_get (ix_lt h)] at this
  exact Option.some.inj this
theorem ix_at {A : List Wy} (nd : A.Nodup) {k : Nat} (h : k < A.length) : ix A (atW A k) = k := ix_of nd (atW_get h)
def lsI (L : List Nat) (k : Nat) : Nat := L.getD k 0
/-- L tells the least number of each part; Dn the steps that were looked at -/
structure PI (E : Eqs) (A : List Wy) (L : List Nat) (Dn : Nat → List Nat → Prop) : Prop where
  len : L.length = A.length
  le : ∀ k, k < A.length → lsI L k ≤ k
  rep : ∀ k, k < A.length → lsI L (lsI L k) = lsI L k
  con : ∀ k, k < A.length → (atW A (lsI L k)).x = (atW A k).x ∧ Rc E (atW A k).l (atW A (lsI L k)).l
  dn : ∀ k z, k < A.length → Dn k z → lsI L k = lsI L (ix A ⟨(atW A k).x, z⟩)
theorem PI.start (E : Eqs) (A : List Wy) : PI E A (List.range A.length) fun _ _ => False := by
  have g : ∀ k, k < A.length → lsI (List.range A.length) k = k := fun k h => by
    unfold lsI
    rw [List.getD_eq_getElem?_getD, List.getElem?_range h]
    rfl
  refine ⟨by simp, fun k h => Nat.le_of_eq (g k h), fun k h => by rw [g k h, g k h], fun k h => by rw [g k h]; exact ⟨rfl, .refl⟩, fun _ _ _ h => h.elim⟩
theorem PI.imp {E : Eqs} {A : List Wy} {L : List Nat} {Dn Dn' : Nat → List Nat → Prop} (h : PI E A L Dn) (k : ∀ a z, Dn' a z → Dn a z) : PI E A L Dn' :=
  ⟨h.len, h.le, h.rep, h.con, fun a z hl d => h.dn a z hl (k a z d)⟩
def put (L : List Nat) (a b : Nat) : List Nat := L.map fun x => if x = max a b then min a b else x
theorem put_at {L : List Nat} {a b k : Nat} (h : k < L.length) : lsI (put L a b) k = if lsI L k = max a b then min a b else lsI L k := by
  unfold lsI put
  rw [List.getD_eq_getElem?_getD, List.getD_eq_getElem?_getD, List.getElem?_map, List.getElem?_eq_getElem h]
  rfl
section
variable {W : Wb} {E : Eqs} {A : List Wy} {L : List Nat} {Dn : Nat → List Nat → Prop}
/-- one step is looked at -/
theorem PI.edge (hE : EqOk W E) (hA : Every W A) (h : PI E A L Dn) {k : Nat} (hk : k < A.length) {z : List Nat} (hz : Stp E (atW A k).l z) :
    (⟨(atW A k).x, z⟩ : Wy) ∈ A ∧ (lsI L k = lsI L (ix A ⟨(atW A k).x, z⟩) → PI E A L fun a y => Dn a y ∨ (a = k ∧ y = z)) ∧
    (lsI L k ≠ lsI L (ix A ⟨(atW A k).x, z⟩) → PI E A (put L (lsI L k) (lsI L (ix A ⟨(atW A k).x, z⟩))) fun a y => Dn a y ∨ (a = k ∧ y = z)) := by
  have hw : IsWy W (atW A k) := (hA.2.1 _).mp (atW_mem hk)
  have hm : (⟨(atW A k).x, z⟩ : Wy) ∈ A := (hA.2.1 _).mpr (rc_way (x := (atW A k).x) (l := (atW A k).l) hE (.step .refl hz) hw).1
  have hj := ix_lt hm
  have ej := atW_ix hm
  refine ⟨hm, fun e => ⟨h.len, h.le, h.rep, h.con, fun a y ha d => ?_⟩, fun ne => ?_⟩
  · rcases d with d | ⟨rfl, rfl⟩
    · exact h.dn a y ha d
    · exact e
  generalize hjj : ix A ⟨(atW A k).x, z⟩ = j at hj ej ne
  have lk := h.le k hk
  have lj := h.le j hj
  have rk := h.rep k hk
  have rj := h.rep j hj
  have hl : ∀ {i}, i < A.length → i < L.length := fun hi => by rw [h.len]; exact hi
  have at_ : ∀ i, i < A.length → lsI (put L (lsI L k) (lsI L j)) i = if lsI L i = max (lsI L k) (lsI L j) then min (lsI L k) (lsI L j) else lsI L i := fun i hi => put_at (hl hi)
  -- the two leaders are connected
  have ck := h.con k hk
  have cj := h.con j hj
  rw [ej] at cj
  have kj : (atW A (lsI L k)).x = (atW A (lsI L j)).x ∧ Rc E (atW A (lsI L k)).l (atW A (lsI L j)).l := by
    refine ⟨by rw [ck.1, cj.1], rc_trans (rc_symm hE ck.2) (rc_trans (.step .refl hz) cj.2)⟩
  have mm : (atW A (max (lsI L k) (lsI L j))).x = (atW A (min (lsI L k) (lsI L j))).x ∧ Rc E (atW A (max (lsI L k) (lsI L j))).l (atW A (min (lsI L k) (lsI L j))).l := by
    rcases Nat.le_total (lsI L k) (lsI L j) with q | q
    · rw [Nat.max_eq_right q, Nat.min_eq_left q]
      exact ⟨kj.1.symm, rc_symm hE kj.2⟩
    · rw [Nat.max_eq_left q, Nat.min_eq_right q]
      exact kj
  have mlt : min (lsI L k) (lsI L j) < max (lsI L k) (lsI L j) := by omega
  have mrep : lsI L (min (lsI L k) (lsI L j)) = min (lsI L k) (lsI L j) := by
    rcases Nat.le_total (lsI L k) (lsI L j) with q | q
    · rw [Nat.min_eq_left q]; exact rk
    · rw [Nat.min_eq_right q]; exact rj
  have mlen : min (lsI L k) (lsI L j) < A.length := by omega
  refine ⟨by rw [← h.len]; simp [put], fun i hi => ?_, fun i hi => ?_, fun i hi => ?_, fun a y ha d => ?_⟩
  · have := h.le i hi
    rw [at_ i hi]
    split <;> omega
  · have li := h.le i hi
    rw [at_ i hi]
    by_cases q : lsI L i = max (lsI L k) (lsI L j)
    · rw [if_pos q, at_ _ mlen, mrep, if_neg (by omega)]
    · rw [if_neg q, at_ _ (by omega), h.rep i hi, if_neg q]
  · have ci := h.con i hi
    rw [at_ i hi]
    by_cases q : lsI L i = max (lsI L k) (lsI L j)
    · rw [if_pos q]
      rw [q] at ci
      exact ⟨mm.1.symm.trans ci.1, rc_trans ci.2 mm.2⟩
    · rw [if_neg q]
      exact ci
  · rcases d with d | ⟨rfl, rfl⟩
    · have e := h.dn a y ha d
      by_cases hb : ix A ⟨(atW A a).x, y⟩ < A.length
      · rw [at_ a ha, at_ _ hb, e]
      · have z0 : ∀ L' : List Nat, L'.length = A.length → lsI L' (ix A ⟨(atW A a).x, y⟩) = 0 := fun L' e' => by
          unfold lsI
          rw [List.getD_eq_getElem?_getD, List.getElem?_eq_none (by omega)]
          rfl
        have e0 := z0 L h.len
        rw [e0] at e
        rw [at_ a ha, z0 _ (by rw [← h.len]; simp [put]), e, if_neg (by omega)]
    · rw [hjj, at_ _ ha, at_ _ hj]
      rcases Nat.le_total (lsI L a) (lsI L j) with q | q
      · rw [Nat.max_eq_right q, Nat.min_eq_left q, if_pos rfl, if_neg (by omega)]
      · rw [Nat.max_eq_left q, Nat.min_eq_right q, if_pos rfl, if_neg (by omega)]
/-- all steps looked at: the leader is the least word of the part -/
theorem PI.least (hE : EqOk W E) (hA : Every W A) (h : PI E A L fun k z => Stp E (atW A k).l z) {k : Nat} (hk : k < A.length) : (atW A (lsI L k)).x = (atW A k).x ∧ Lst E (atW A k).l (atW A (lsI L k)).l := by
  obtain ⟨c1, c2⟩ := h.con k hk
  refine ⟨c1, c2, fun y hy => ?_⟩
  have hw : IsWy W (atW A k) := (hA.2.1 _).mp (atW_mem hk)
  -- what is alike is told alike
  have same : ∀ y, Rc E (atW A k).l y → (⟨(atW A k).x, y⟩ : Wy) ∈ A ∧ lsI L (ix A ⟨(atW A k).x, y⟩) = lsI L k := by
    intro y hy
    induction hy with
    | refl =>
      have : (⟨(atW A k).x, (atW A k).l⟩ : Wy) = atW A k := rfl
      rw [this]
      exact ⟨atW_mem hk, by rw [ix_at hA.1 hk]⟩
    | @step a b ha s ih =>
      obtain ⟨i1, i2⟩ := ih
      have hb : (⟨(atW A k).x, b⟩ : Wy) ∈ A := (hA.2.1 _).mpr (rc_way (x := (atW A k).x) (l := (atW A k).l) hE (.step ha s) hw).1
      have := h.dn _ b (ix_lt i1) (by show Stp E _ _; rw [atW_ix i1]; exact s)
      rw [atW_ix i1] at this
      exact ⟨hb, by rw [← this]; exact i2⟩
  obtain ⟨m, e⟩ := same y hy
  have hj := ix_lt m
  have le := h.le _ hj
  rw [e] at le
  have ey := rc_way (x := (atW A k).x) (l := (atW A k).l) hE hy hw
  have er := rc_way (x := (atW A k).x) (l := (atW A k).l) hE c2 hw
  have w1 : atW A (lsI L k) = ⟨(atW A k).x, (atW A (lsI L k)).l⟩ := by rw [← c1]
  have goal : dLe (wyD W (atW A (lsI L k))) (wyD W (atW A (ix A ⟨(atW A k).x, y⟩))) = true := by
    rcases Nat.lt_or_ge (lsI L k) (ix A ⟨(atW A k).x, y⟩) with q | q
    · have pw := List.pairwise_map.mp hA.2.2
      have := List.pairwise_iff_getElem.mp pw (lsI L k) (ix A ⟨(atW A k).x, y⟩) (by omega) hj q
      have g : ∀ {i} (hi : i < A.length), A[i] = atW A i := fun hi => by
        have := atW_get hi
        rw [List.getElem?_eq_getElem hi] at this
        exact Option.some.inj this
      rwa [g, g] at this
    · have : lsI L k = ix A ⟨(atW A k).x, y⟩ := by omega
      rw [this]
      exact (dLe_total.total _ _).elim id id
  rw [atW_ix m, wy_le (by exact c1) (by rw [w1]; exact er.2.trans ey.2.symm)] at goal
  exact goal
end
end K02

set_option Elab.async false
set_option linter.all false
set_option maxRecDepth 100000
set_option maxHeartbeats 4000000
namespace K02
open PySem PySem.Spec PyProof.Rows L2 DW WLD
/-! ### the least word of a word -/
noncomputable def theL (E : Eqs) (l : List Nat) : List Nat := open Classical in if h : ∃ z, Lst E l z then h.choose else []
theorem theL_eq {W : Wb} {E : Eqs} (hE : EqOk W E) {l z : List Nat} (h : Lst E l z) : theL E l = z := by
  have hx : ∃ z, Lst E l z := ⟨z, h⟩
  unfold theL
  rw [dif_pos hx]
  exact lst_uniq hE hx.choose_spec h .refl
theorem SL_nil {E : Eqs} : SL E [] = [] := by
  unfold SL blkS
  simp
theorem rc_nil {E : Eqs} {z : List Nat} (h : Rc E [] z) : z = [] := by
  induction h with
  | refl => rfl
  | step _ s ih =>
    subst ih
    obtain ⟨t, ht, _⟩ := s
    rw [SL_nil] at ht
    cases ht
theorem le_refl_lw (l : List Nat) : dLe (lwD l) (lwD l) = true := (dLe_total.total _ _).elim id id
/-- all words of a class -/
theorem class_all {W : Wb} {E : Eqs} {c : Nat} (hC : Cnt W c) (hE : EqOk W E) {w : Wy} (hw : IsWy W w) : ∃ F : List (List Nat), F.Nodup ∧ (∀ z, z ∈ F ↔ Rc E w.l z) ∧ F.length ≤ c := by
  have key : ∀ (n : Nat) (F : List (List Nat)), F.Nodup → (∀ z ∈ F, Rc E w.l z) → c - F.length ≤ n → ∃ G : List (List Nat), G.Nodup ∧ (∀ z, z ∈ G ↔ Rc E w.l z) ∧ G.length ≤ c := by
    intro n
    induction n with
    | zero =>
      intro F nd hF hn
      have hl := class_len hC hE hw nd hF
      refine ⟨F, nd, fun z => ⟨hF z, fun hz => Classical.byContradiction fun nz => ?_⟩, hl⟩
      have := class_len hC hE hw (F := z :: F) (List.nodup_cons.mpr ⟨nz, nd⟩) fun y hy => by
        rcases List.mem_cons.mp hy with h | h
        · rw [h]; exact hz
        · exact hF y h
      rw [List.length_cons] at this
      omega
    | succ n ih =>
      intro F nd hF hn
      by_cases h : ∃ z, Rc E w.l z ∧ z ∉ F
      · obtain ⟨z, hz, nz⟩ := h
        exact ih (z :: F) (List.nodup_cons.mpr ⟨nz, nd⟩) (fun y hy => by
          rcases List.mem_cons.mp hy with h | h
          · rw [h]; exact hz
          · exact hF y h) (by rw [List.length_cons]; omega)
      · exact ⟨F, nd, fun z => ⟨hF z, fun hz => Classical.byContradiction fun nz => h ⟨z, hz, nz⟩⟩, class_len hC hE hw nd hF⟩
  exact key c [] (by simp) (fun z hz => nomatch hz) (by omega)
theorem lst_ex {W : Wb} {E : Eqs} {c : Nat} (hC : Cnt W c) (hE : EqOk W E) {w : Wy} (hw : IsWy W w) : Lst E w.l (theL E w.l) := by
  have : ∃ z, Lst E w.l z := by
    obtain ⟨F, _, hF, _⟩ := class_all hC hE hw
    have h0 : w.l ∈ F := (hF _).mpr .refl
    cases F with
    | nil => cases h0
    | cons a F =>
      obtain ⟨m, l⟩ := minD_least (F.map lwD) (lwD a)
      rw [← List.map_cons] at m l
      obtain ⟨z, hz, e⟩ := List.mem_map.mp m
      exact ⟨z, (hF z).mp hz, fun y hy => by rw [e]; exact l _ (List.mem_map.mpr ⟨y, (hF y).mpr hy, rfl⟩)⟩
  obtain ⟨z, hz⟩ := this
  rw [theL_eq hE hz]
  exact hz
/-! ### smaller words -/
def Lt (a b : List Nat) : Prop := dLe (lwD a) (lwD b) = true ∧ a ≠ b
theorem lt_iff {a b : List Nat} : Lt a b ↔ a.length < b.length ∨ (a.length = b.length ∧ PySem.W.dataLt (tupN a) (tupN b) = true) := by
  constructor
  · rintro ⟨h, ne⟩
    have h1 := h
    unfold dLe at h1
    rw [Bool.not_eq_true', lw_lt] at h1
    by_cases e : b.length = a.length
    · rw [if_pos e] at h1
      refine .inr ⟨e.symm, ?_⟩
      cases h2 : PySem.W.dataLt (tupN a) (tupN b) with
      | true => rfl
      | false => exact absurd (dlt_tup h2 h1) ne
    · rw [if_neg e] at h1
      have := of_decide_eq_false h1
      exact .inl (by omega)
  · intro h
    have nlt : ∀ {x y : D}, PySem.W.dataLt x y = true → PySem.W.dataLt y x = false := fun {x y} h => by
      rcases dLe_total.total x y with q | q
      · unfold dLe at q
        simpa using q
      · unfold dLe at q
        rw [h] at q
        cases q
    have irr : ∀ {x : D}, PySem.W.dataLt x x = true → False := fun {x} h => by
      have := nlt h
      rw [h] at this
      cases this
    refine ⟨?_, fun e => ?_⟩
    · unfold dLe
      rw [Bool.not_eq_true', lw_lt]
      rcases h with h | ⟨e, h⟩
      · rw [if_neg (by omega)]
        exact decide_eq_false (by omega)
      · rw [if_pos e.symm]
        exact nlt h
    · subst e
      rcases h with h | ⟨_, h⟩
      · omega
      · exact irr h
theorem dlt_pre (m : List Nat) {a b : List Nat} : PySem.W.dataLt (tupN (m ++ a)) (tupN (m ++ b)) = PySem.W.dataLt (tupN a) (tupN b) := by
  induction m with
  | nil => rfl
  | cons x m ih =>
    show PySem.W.dataLt (.tuple (.int (x : Nat) :: (m ++ a).map fun e => .int (e : Nat))) (.tuple (.int (x : Nat) :: (m ++ b).map fun e => .int (e : Nat))) = _
    rw [dlt_ints, if_pos rfl]
    exact ih
theorem dlt_suf (m : List Nat) : ∀ {a b : List Nat}, a.length = b.length → PySem.W.dataLt (tupN a) (tupN b) = true → PySem.W.dataLt (tupN (a ++ m)) (tupN (b ++ m)) = true
  | [], [], _, h => by
    have : PySem.W.dataLt (tupN []) (tupN []) = false := by
      have := dLe_total.total (tupN []) (tupN [])
      unfold dLe at this
      rcases this with q | q <;> simpa using q
    rw [this] at h
    cases h
  | [], _ :: _, e, _ => by simp at e
  | _ :: _, [], e, _ => by simp at e
  | x :: a, y :: b, e, h => by
    have h : PySem.W.dataLt (.tuple (.int (x : Nat) :: a.map fun e => .int (e : Nat))) (.tuple (.int (y : Nat) :: b.map fun e => .int (e : Nat))) = true := h
    rw [dlt_ints] at h
    show PySem.W.dataLt (.tuple (.int (x : Nat) :: (a ++ m).map fun e => .int (e : Nat))) (.tuple (.int (y : Nat) :: (b ++ m).map fun e => .int (e : Nat))) = true
    rw [dlt_ints]
    by_cases q : x = y
    · rw [if_pos q] at h ⊢
      exact dlt_suf m (by simpa using e) h
    · rw [if_neg q] at h ⊢
      exact h
theorem Lt.ctx {u v : List Nat} (a b : List Nat) (h : Lt v u) : Lt (a ++ (v ++ b)) (a ++ (u ++ b)) := by
  rw [lt_iff] at h ⊢
  simp only [List.length_append]
  rcases h with h | ⟨e, h⟩
  · exact .inl (by omega)
  · exact .inr ⟨by omega, by rw [dlt_pre]; exact dlt_suf b e h⟩
theorem Lt.trans_le {a b c : List Nat} (h1 : dLe (lwD a) (lwD b) = true) (h2 : Lt b c) : Lt a c :=
  ⟨dLe_total.trans _ _ _ h1 h2.1, fun e => h2.2 (lw_anti h2.1 (by rw [← e]; exact h1))⟩
/-! ### rules: the words that are not least while all within them are -/
section
variable {W : Wb} {E : Eqs} {c : Nat}
theorem theL_rc (hC : Cnt W c) (hE : EqOk W E) {x : Nat} {l : List Nat} (hw : IsWy W ⟨x, l⟩) : Rc E l (theL E l) := (lst_ex hC hE hw).1
theorem theL_lt (hC : Cnt W c) (hE : EqOk W E) {x : Nat} {l : List Nat} (hw : IsWy W ⟨x, l⟩) (h : theL E l ≠ l) : Lt (theL E l) l := ⟨(lst_ex hC hE hw).2 l .refl, h⟩
theorem not_least (hC : Cnt W c) (hE : EqOk W E) {x : Nat} {l y : List Nat} (hw : IsWy W ⟨x, l⟩) (r : Rc E l y) (h : Lt y l) : theL E l ≠ l := fun e => by
  have := (lst_ex hC hE hw).2 y r
  simp only at this
  rw [e] at this
  exact h.2 (lw_anti h.1 this)
theorem theL_same (hC : Cnt W c) (hE : EqOk W E) {x : Nat} {a b : List Nat} (hw : IsWy W ⟨x, a⟩) (r : Rc E a b) : theL E a = theL E b :=
  lst_uniq hE (lst_ex hC hE hw) (lst_ex hC hE (rc_way hE r hw).1) r
theorem theL_idem (hC : Cnt W c) (hE : EqOk W E) {x : Nat} {a : List Nat} (hw : IsWy W ⟨x, a⟩) : theL E (theL E a) = theL E a := (theL_same hC hE hw (theL_rc hC hE hw)).symm
theorem theL_nil (hE : EqOk W E) : theL E [] = [] := theL_eq hE ⟨.refl, fun y hy => by rw [rc_nil hy]; exact le_refl_lw _⟩
theorem way_mid {x : Nat} {a u b : List Nat} (h : IsWy W ⟨x, a ++ (u ++ b)⟩) (hW : WbOk W) : ∃ y, IsWy W ⟨y, u⟩ := by
  obtain ⟨hx, z, hz⟩ := h
  simp only at hx hz
  rw [go_app] at hz
  cases q : W.go x a with
  | none => rw [q] at hz; cases hz
  | some y =>
    rw [q, Option.bind_some, go_app] at hz
    cases q2 : W.go y u with
    | none => rw [q2] at hz; cases hz
    | some y2 => exact ⟨y, (go_up hW q).2.1 hx, y2, q2⟩
/-- what lies within a least word is least -/
theorem least_mid (hW : WbOk W) (hC : Cnt W c) (hE : EqOk W E) {x : Nat} {a u b : List Nat} (hw : IsWy W ⟨x, a ++ (u ++ b)⟩) (h : theL E u ≠ u) : theL E (a ++ (u ++ b)) ≠ a ++ (u ++ b) := by
  obtain ⟨y, hy⟩ := way_mid hw hW
  exact not_least hC hE hw (rc_appL hE a (rc_appR hE b (theL_rc hC hE hy))) ((theL_lt hC hE hy h).ctx a b)
open Classical in
noncomputable def RSb (E : Eqs) (l : List Nat) : Bool := !decide (theL E l = l) && (decide (theL E (l.drop 1) = l.drop 1) && decide (theL E l.dropLast = l.dropLast))
theorem RSb_iff {l : List Nat} : RSb E l = true ↔ theL E l ≠ l ∧ theL E (l.drop 1) = l.drop 1 ∧ theL E l.dropLast = l.dropLast := by
  unfold RSb
  rw [Bool.and_eq_true, Bool.and_eq_true, Bool.not_eq_true', decide_eq_false_iff_not, decide_eq_true_eq, decide_eq_true_eq]
/-- R holds each rule, and nothing else -/
def Rules (W : Wb) (E : Eqs) (R : Eqs) : Prop := ∀ p, p ∈ R ↔ (∃ x, IsWy W ⟨x, p.1⟩) ∧ RSb E p.1 = true ∧ p.2 = theL E p.1
def spots (R : Eqs) (l : List Nat) : List (Nat × List Nat × List Nat) := R.flatMap fun p => ((List.range l.length).filter fun k => decide ((l.drop k).take p.1.length = p.1)).map fun k => (k, p)
theorem mem_spots {R : Eqs} {l : List Nat} {t : Nat × List Nat × List Nat} : t ∈ spots R l ↔ t.2 ∈ R ∧ t.1 < l.length ∧ (l.drop t.1).take t.2.1.length = t.2.1 := by
  unfold spots
  rw [List.mem_flatMap]
  constructor
  · rintro ⟨p, hp, h⟩
    obtain ⟨k, hk, rfl⟩ := List.mem_map.mp h
    obtain ⟨h1, h2⟩ := List.mem_filter.mp hk
    exact ⟨hp, List.mem_range.mp h1, of_decide_eq_true h2⟩
  · rintro ⟨h1, h2, h3⟩
    exact ⟨t.2, h1, List.mem_map.mpr ⟨t.1, List.mem_filter.mpr ⟨List.mem_range.mpr h2, decide_eq_true h3⟩, rfl⟩⟩
theorem spot_cut {l u : List Nat} {k : Nat} (h : (l.drop k).take u.length = u) : l = l.take k ++ (u ++ l.drop (k + u.length)) := by
  have e : l.drop k = u ++ l.drop (k + u.length) := by
    have := (List.take_append_drop u.length (l.drop k)).symm
    rw [h, List.drop_drop] at this
    exact this
  rw [← e, List.take_append_drop]
theorem rule_ne (hE : EqOk W E) {u : List Nat} (h : RSb E u = true) : u ≠ [] := fun e => by
  rw [e] at h
  exact (RSb_iff.mp h).1 (theL_nil hE)
/-- a step by a rule -/
theorem spot_step (hW : WbOk W) (hC : Cnt W c) (hE : EqOk W E) {R : Eqs} (hR : Rules W E R) {x : Nat} {l : List Nat} (hw : IsWy W ⟨x, l⟩) {t : Nat × List Nat × List Nat} (ht : t ∈ spots R l) :
    Rc E l (l.take t.1 ++ t.2.2 ++ l.drop (t.1 + t.2.1.length)) ∧ Lt (l.take t.1 ++ t.2.2 ++ l.drop (t.1 + t.2.1.length)) l ∧ theL E l ≠ l ∧ Stp R l (l.take t.1 ++ t.2.2 ++ l.drop (t.1 + t.2.1.length)) := by
  obtain ⟨k, u, v⟩ := t
  obtain ⟨h1, h2, h3⟩ := mem_spots.mp ht
  simp only at h1 h2 h3 ⊢
  obtain ⟨⟨y, hy⟩, hs, hv⟩ := (hR (u, v)).mp h1
  simp only at hy hs hv
  have e := spot_cut h3
  have r1 := theL_rc hC hE hy
  have l1 := theL_lt hC hE hy (RSb_iff.mp hs).1
  rw [← hv] at r1 l1
  have hne := rule_ne hE hs
  have a1 : Rc E l (l.take k ++ v ++ l.drop (k + u.length)) := by
    have := rc_appL hE (l.take k) (rc_appR hE (l.drop (k + u.length)) r1)
    rw [← e, ← List.append_assoc] at this
    exact this
  have a2 : Lt (l.take k ++ v ++ l.drop (k + u.length)) l := by
    have := l1.ctx (l.take k) (l.drop (k + u.length))
    rw [← e, ← List.append_assoc] at this
    exact this
  refine ⟨a1, a2, not_least hC hE hw a1 a2, ?_⟩
  obtain ⟨i, hi, ei⟩ := List.getElem_of_mem h1
  have eg : R.getD i ([], []) = (u, v) := by rw [List.getD_eq_getElem?_getD, List.getElem?_eq_getElem hi]; exact ei
  refine ⟨(k, i, 0, l.take k ++ v ++ l.drop (k + u.length)), mem_SL.mpr ⟨hi, (by decide : (0 : Nat) < 2), h2, ?_⟩, rfl⟩
  simp only
  rw [eg]
  show rp l k u v = _
  unfold rp
  rw [if_pos h3]
/-- a word that is not least has a spot -/
theorem spot_ex (hW : WbOk W) (hC : Cnt W c) (hE : EqOk W E) {R : Eqs} (hR : Rules W E R) : ∀ (n : Nat) (x : Nat) (l : List Nat), l.length = n → IsWy W ⟨x, l⟩ → theL E l ≠ l → spots R l ≠ [] := by
  intro n
  induction n with
  | zero =>
    intro x l e hw h
    rw [List.length_eq_zero_iff.mp e] at h
    exact absurd (theL_nil hE) h
  | succ n ih =>
    intro x l e hw h
    by_cases q1 : theL E (l.drop 1) = l.drop 1
    · by_cases q2 : theL E l.dropLast = l.dropLast
      · have : ((0, (l, theL E l)) : Nat × List Nat × List Nat) ∈ spots R l := mem_spots.mpr ⟨(hR _).mpr ⟨⟨x, hw⟩, RSb_iff.mpr ⟨h, q1, q2⟩, rfl⟩, by omega, by simp⟩
        exact fun z => by rw [z] at this; cases this
      · have hne : l ≠ [] := fun z => by rw [z] at e; cases e
        have el : l = [] ++ (l.dropLast ++ [l.getLast hne]) := by rw [List.nil_append, List.dropLast_concat_getLast]
        obtain ⟨y, hy⟩ := way_mid (W := W) (x := x) (a := []) (u := l.dropLast) (b := [l.getLast hne]) (by rw [← el]; exact hw) hW
        have := ih y l.dropLast (by rw [List.length_dropLast]; omega) hy q2
        obtain ⟨t, ht⟩ := List.exists_mem_of_ne_nil _ this
        obtain ⟨h1, h2, h3⟩ := mem_spots.mp ht
        have : t ∈ spots R l := mem_spots.mpr ⟨h1, by rw [List.length_dropLast] at h2; omega, by
          have := congrArg List.length h3
          rw [List.length_take, List.length_drop, List.length_dropLast] at this
          have ed : l.drop t.1 = l.dropLast.drop t.1 ++ [l.getLast hne] := by
            rw [List.length_dropLast] at h2
            have e2 : l = l.dropLast ++ [l.getLast hne] := (List.dropLast_concat_getLast hne).symm
            have : (l.dropLast ++ [l.getLast hne]).drop t.1 = l.dropLast.drop t.1 ++ [l.getLast hne] := List.drop_append_of_le_length (by rw [List.length_dropLast]; omega)
            rw [← e2] at this
            exact this
          rw [ed, List.take_append_of_le_length (by rw [List.length_drop, List.length_dropLast]; omega)]
          exact h3⟩
        exact fun z => by rw [z] at this; cases this
    · cases l with
      | nil => cases e
      | cons r l =>
        have el : r :: l = [r] ++ (l ++ []) := by simp
        obtain ⟨y, hy⟩ := way_mid (W := W) (x := x) (a := [r]) (u := l) (b := []) (by rw [← el]; exact hw) hW
        have := ih y l (by simpa using e) hy q1
        obtain ⟨t, ht⟩ := List.exists_mem_of_ne_nil _ this
        obtain ⟨h1, h2, h3⟩ := mem_spots.mp ht
        have : ((t.1 + 1, t.2) : Nat × List Nat × List Nat) ∈ spots R (r :: l) := mem_spots.mpr ⟨h1, by simp; omega, by simpa using h3⟩
        exact fun z => by rw [z] at this; cases this
theorem spot_iff (hW : WbOk W) (hC : Cnt W c) (hE : EqOk W E) {R : Eqs} (hR : Rules W E R) {x : Nat} {l : List Nat} (hw : IsWy W ⟨x, l⟩) : spots R l = [] ↔ theL E l = l := by
  constructor
  · intro h
    exact Classical.byContradiction fun n => spot_ex hW hC hE hR _ x l rfl hw n h
  · intro h
    cases q : spots R l with
    | nil => rfl
    | cons t r => exact absurd h (spot_step hW hC hE hR hw (t := t) (by rw [q]; exact List.mem_cons_self)).2.2.1
/-- how many words lie below -/
noncomputable def rk (F : List (List Nat)) (l : List Nat) : Nat := open Classical in (F.filter fun y => decide (Lt y l)).length
theorem rk_lt {F : List (List Nat)} {a b : List Nat} (h : Lt a b) (ha : a ∈ F) : rk F a < rk F b := by
  unfold rk
  classical
  have sub : ∀ y ∈ F, decide (Lt y a) = true → decide (Lt y b) = true := fun y _ hy => decide_eq_true (Lt.trans_le (of_decide_eq_true hy).1 h)
  have e : (F.filter fun y => decide (Lt y a)) = ((F.filter fun y => decide (Lt y b)).filter fun y => decide (Lt y a)) := by
    rw [List.filter_filter]
    refine List.filter_congr fun y hy => ?_
    cases q : decide (Lt y a) with
    | false => simp
    | true => simp [sub y hy q]
  rw [e]
  have hm : a ∈ F.filter fun y => decide (Lt y b) := List.mem_filter.mpr ⟨ha, decide_eq_true h⟩
  refine List.length_filter_lt_length_iff_exists.mpr ⟨a, hm, ?_⟩
  rw [decide_eq_true_eq]
  exact fun z => z.2 rfl
theorem rk_le {F : List (List Nat)} {a : List Nat} : rk F a ≤ F.length := by
  unfold rk
  exact List.length_filter_le _ _
/-- the rules lead to the least word -/
theorem rules_lead (hW : WbOk W) (hC : Cnt W c) (hE : EqOk W E) {R : Eqs} (hR : Rules W E R) {x : Nat} {l : List Nat} (hw : IsWy W ⟨x, l⟩) : Rc R l (theL E l) := by
  obtain ⟨F, _, hF, _⟩ := class_all hC hE hw
  simp only at hF
  have key : ∀ (n : Nat) (a : List Nat), rk F a ≤ n → Rc E l a → Rc R a (theL E l) := by
    intro n
    induction n with
    | zero =>
      intro a hn ha
      have wa := (rc_way hE ha hw).1
      by_cases q : spots R a = []
      · have := (spot_iff hW hC hE hR wa).mp q
        rw [theL_same hC hE hw ha, this]
        exact .refl
      · obtain ⟨t, ht⟩ := List.exists_mem_of_ne_nil _ q
        obtain ⟨s1, s2, s3, s4⟩ := spot_step hW hC hE hR wa ht
        have := rk_lt s2 ((hF _).mpr (rc_trans ha s1))
        omega
    | succ n ih =>
      intro a hn ha
      have wa := (rc_way hE ha hw).1
      by_cases q : spots R a = []
      · have := (spot_iff hW hC hE hR wa).mp q
        rw [theL_same hC hE hw ha, this]
        exact .refl
      · obtain ⟨t, ht⟩ := List.exists_mem_of_ne_nil _ q
        obtain ⟨s1, s2, s3, s4⟩ := spot_step hW hC hE hR wa ht
        have := rk_lt s2 ((hF _).mpr (rc_trans ha s1))
        exact rc_trans (.step .refl s4) (ih _ (by omega) (rc_trans ha s1))
  exact key _ l (Nat.le_refl _) .refl
theorem rules_ok (hW : WbOk W) (hC : Cnt W c) (hE : EqOk W E) {R : Eqs} (hR : Rules W E R) (hl : R.length ≤ 64) : EqOk W R := by
  refine ⟨hl, fun p hp => ?_⟩
  obtain ⟨⟨x, hx⟩, hs, hv⟩ := (hR p).mp hp
  have hne := rule_ne hE hs
  have hz := (rc_way hE (theL_rc hC hE hx) hx)
  refine ⟨hne, fun e => ?_, x, W.e ⟨x, p.1⟩, hx.1, (hx.short hW).2.2.2.1, ?_⟩
  · have r := theL_rc hC hE hx
    rw [← hv, e] at r
    exact hne (rc_nil (rc_symm hE r))
  · rw [hv, ← hz.2]
    exact (hz.1.short hW).2.2.2.1
theorem rules_rc (hW : WbOk W) (hC : Cnt W c) (hE : EqOk W E) {R : Eqs} (hR : Rules W E R) (hk : EqOk W R) {a b : List Nat} (h : Rc R a b) : Rc E a b := by
  induction h with
  | refl => exact .refl
  | step _ s ih =>
    obtain ⟨u, v, m, n, hp, rfl, rfl⟩ := (stp_iff hk).mp s
    have one : ∀ {u v : List Nat}, (u, v) ∈ R → Rc E u v := fun {u v} h => by
      obtain ⟨⟨x, hx⟩, _, hv⟩ := (hR (u, v)).mp h
      simp only at hx hv
      rw [hv]
      exact theL_rc hC hE hx
    have huv : Rc E u v := hp.elim one fun h => rc_symm hE (one h)
    exact rc_trans ih (rc_appL hE m (rc_appR hE n huv))
/-- the rules have the same least words -/
theorem rules_lst (hW : WbOk W) (hC : Cnt W c) (hE : EqOk W E) {R : Eqs} (hR : Rules W E R) (hk : EqOk W R) {x : Nat} {l z : List Nat} (hw : IsWy W ⟨x, l⟩) (h : Lst R l z) : z = theL E l := by
  have h0 := lst_ex hC hE hw
  refine lst_uniq hk h ⟨rules_lead hW hC hE hR hw, fun y hy => h0.2 y (rules_rc hW hC hE hR hk hy)⟩ .refl
end
end K02

set_option Elab.async false
set_option linter.all false
set_option maxRecDepth 100000
set_option maxHeartbeats 2000000
namespace K02
open PySem PySem.Spec PyProof.Rows L2 DW WLD
/-- steps, one behind the other -/
def Walk (E : Eqs) : List Nat → List St4 → List Nat → Prop
  | a, [], b => a = b
  | a, t :: T, b => t ∈ SL E a ∧ Walk E t.2.2.2 T b
/-- from where each word was reached -/
abbrev Og := List (List Nat × Option (List Nat × St4))
def ogV : Option (List Nat × St4) → D
  | none => .none
  | some (a, t) => .tuple [tupN a, stpD t]
def ogK (O : Og) : List (D × D) := O.map fun p => (tupN p.1, ogV p.2)
/-- the first one is the start, each other one is reached by a step from an earlier one -/
def OgOk (E : Eqs) (a : List Nat) (O : Og) : Prop := (O.map Prod.fst).Nodup ∧ O[0]? = some (a, none) ∧ ∀ (i : Nat) (z : List Nat) (v : Option (List Nat × St4)), O[i + 1]? = some (z, v) → ∃ (j : Nat) (b : List Nat) (w : Option (List Nat × St4)) (t : St4), j ≤ i ∧ O[j]? = some (b, w) ∧ v = some (b, t) ∧ t ∈ SL E b ∧ t.2.2.2 = z
def tsD (T : List St4) : D := .tuple (T.map stpD)
def W_is_number : WF := fun u ds Q => ∃ x lo hi : Int, ds = [.int x, .int lo, .int hi] ∧ Q (.bool (decide (lo ≤ x) && decide (x ≤ hi))) u
def W_is_row : WF := fun u ds Q => ∃ (xs : List D) (n : Int), ds = [.tuple xs, .int n] ∧ Q (.bool (decide ((xs.length : Int) = n))) u
def W_origins : WF := fun u ds Q => ∃ W E w, WbOk W ∧ Cnt W 200 ∧ EqOk W E ∧ IsWy W w ∧ ds = [eqD E, tupN w.l] ∧ ∀ O : Og, OgOk E w.l O → (∀ z, z ∈ O.map Prod.fst ↔ Rc E w.l z) → O.length ≤ 200 → Q (xD (ogK O)) u
def W_way_steps : WF := fun u ds Q => ∃ W E v w, WbOk W ∧ Cnt W 200 ∧ EqOk W E ∧ IsWy W v ∧ IsWy W w ∧ ds = [wbD W, eqD E, waD v, waD w] ∧
  (∀ T : List St4, v.x = w.x → Walk E v.l T w.l → T.length ≤ 200 → Q (tsD T) u) ∧ (¬ (v.x = w.x ∧ Rc E v.l w.l) → Q .none u)
def W_word_behind : WF := fun u ds Q => ∃ E l t, ShortE E l ∧ t ∈ SL E l ∧ ds = [eqD E, tupN l, stpD t] ∧ Q (tupN t.2.2.2) u
def W_stepped : WF := fun u ds Q => ∃ W E w T z, WbOk W ∧ Cnt W 200 ∧ EqOk W E ∧ IsWy W w ∧ Walk E w.l T z ∧ T.length ≤ 200 ∧ ds = [wbD W, eqD E, waD w, tsD T] ∧ Q (waD ⟨w.x, z⟩) u
def W__law_done : WF := fun u ds Q => ∃ W E w T z, WbOk W ∧ EqOk W E ∧ E.length ≤ 4 ∧ IsWy W w ∧ Walk E w.l T z ∧ T.length ≤ 200 ∧ ds = [eqD E, tupN w.l, tsD T] ∧ Q (tupN z) u
def W__law_pair_right : WF := fun u ds Q => ∃ W E v w, WbOk W ∧ Cnt W 200 ∧ EqOk W E ∧ E.length ≤ 4 ∧ IsWy W v ∧ IsWy W w ∧ ds = [wbD W, eqD E, waD v, waD w] ∧ Q (.bool true) u
def W_law : WF := fun u ds Q => ∃ ns, ds = [sD ns] ∧ ns.length ≤ 63 ∧ (u : Int) < 1000 ∧ ∀ u', Q (.bool true) u'
end K02

set_option Elab.async false
set_option linter.all false
set_option maxRecDepth 100000
set_option maxHeartbeats 4000000
namespace K02
open PySem PySem.Spec PyProof.Rows L2 DW
def topS (i : Nat) : Stmt := PySem.Challenge.pw_arrowworlds_k21_whole_steps_from_way_to.main.body.getD i (.Pass ⟨0, 0, 0, 0⟩)
abbrev s_is_number : Stmt := topS 5
abbrev s_is_row : Stmt := topS 6
abbrev s_replaced : Stmt := topS 8
abbrev s_steps_from : Stmt := topS 9
abbrev s_put_together : Stmt := topS 11
abbrev s_end_of : Stmt := topS 14
abbrev s_gone_on : Stmt := topS 15
abbrev s_ways : Stmt := topS 16
abbrev s_least_ways : Stmt := topS 17
abbrev s_least_way : Stmt := topS 18
abbrev s_origins : Stmt := topS 20
abbrev s_way_steps : Stmt := topS 21
abbrev s_word_behind : Stmt := topS 22
abbrev s_stepped : Stmt := topS 23
abbrev s__law_begun : Stmt := topS 25
abbrev s__law_draw : Stmt := topS 26
abbrev s__law_of : Stmt := topS 27
abbrev s__law_like : Stmt := topS 28
abbrev s__law_web : Stmt := topS 29
abbrev s__law_ways : Stmt := topS 30
abbrev s__law_small_web : Stmt := topS 31
abbrev s__law_equals : Stmt := topS 32
abbrev s__law_near : Stmt := topS 33
abbrev s__law_class : Stmt := topS 34
abbrev s__law_done : Stmt := topS 35
abbrev s__law_pair_right : Stmt := topS 36
abbrev s_law : Stmt := topS 37
structure Txt (K : PySem.W.Frag) (mg : Str → Option Value) where
  f_is_number : Addr
  fd_is_number : FuncData
  F_is_number : Fun K "is_number" "is_number" s_is_number f_is_number fd_is_number
  g_is_number : mg "is_number" = some (.ref f_is_number)
  b_is_number : Binds K fd_is_number ["value", "low", "high"] []
  f_is_row : Addr
  fd_is_row : FuncData
  F_is_row : Fun K "is_row" "is_row" s_is_row f_is_row fd_is_row
  g_is_row : mg "is_row" = some (.ref f_is_row)
  b_is_row : Binds K fd_is_row ["value", "many"] []
  f_replaced : Addr
  fd_replaced : FuncData
  F_replaced : Fun K "replaced" "replaced" s_replaced f_replaced fd_replaced
  g_replaced : mg "replaced" = some (.ref f_replaced)
  b_replaced : Binds K fd_replaced ["word", "place", "old", "new"] []
  f_steps_from : Addr
  fd_steps_from : FuncData
  F_steps_from : Fun K "steps_from" "steps_from" s_steps_from f_steps_from fd_steps_from
  g_steps_from : mg "steps_from" = some (.ref f_steps_from)
  b_steps_from : Binds K fd_steps_from ["equals", "word"] []
  f_put_together : Addr
  fd_put_together : FuncData
  F_put_together : Fun K "put_together" "put_together" s_put_together f_put_together fd_put_together
  g_put_together : mg "put_together" = some (.ref f_put_together)
  b_put_together : Binds K fd_put_together ["least", "one", "other"] []
  f_end_of : Addr
  fd_end_of : FuncData
  F_end_of : Fun K "end_of" "end_of" s_end_of f_end_of fd_end_of
  g_end_of : mg "end_of" = some (.ref f_end_of)
  b_end_of : Binds K fd_end_of ["web", "way"] []
  f_gone_on : Addr
  fd_gone_on : FuncData
  F_gone_on : Fun K "gone_on" "gone_on" s_gone_on f_gone_on fd_gone_on
  g_gone_on : mg "gone_on" = some (.ref f_gone_on)
  b_gone_on : Binds K fd_gone_on ["web", "way"] []
  f_ways : Addr
  fd_ways : FuncData
  F_ways : Fun K "ways" "ways" s_ways f_ways fd_ways
  g_ways : mg "ways" = some (.ref f_ways)
  b_ways : Binds K fd_ways ["web"] []
  f_least_ways : Addr
  fd_least_ways : FuncData
  F_least_ways : Fun K "least_ways" "least_ways" s_least_ways f_least_ways fd_least_ways
  g_least_ways : mg "least_ways" = some (.ref f_least_ways)
  b_least_ways : Binds K fd_least_ways ["web", "equals"] []
  f_least_way : Addr
  fd_least_way : FuncData
  F_least_way : Fun K "least_way" "least_way" s_least_way f_least_way fd_least_way
  g_least_way : mg "least_way" = some (.ref f_least_way)
  b_least_way : Binds K fd_least_way ["web", "equals", "way"] []
  f_origins : Addr
  fd_origins : FuncData
  F_origins : Fun K "origins" "origins" s_origins f_origins fd_origins
  g_origins : mg "origins" = some (.ref f_origins)
  b_origins : Binds K fd_origins ["equals", "start"] []
  f_way_steps : Addr
  fd_way_steps : FuncData
  F_way_steps : Fun K "way_steps" "way_steps" s_way_steps f_way_steps fd_way_steps
  g_way_steps : mg "way_steps" = some (.ref f_way_steps)
  b_way_steps : Binds K fd_way_steps ["web", "equals", "one", "other"] []
  f_word_behind : Addr
  fd_word_behind : FuncData
  F_word_behind : Fun K "word_behind" "word_behind" s_word_behind f_word_behind fd_word_behind
  g_word_behind : mg "word_behind" = some (.ref f_word_behind)
  b_word_behind : Binds K fd_word_behind ["equals", "word", "step"] []
  f_stepped : Addr
  fd_stepped : FuncData
  F_stepped : Fun K "stepped" "stepped" s_stepped f_stepped fd_stepped
  g_stepped : mg "stepped" = some (.ref f_stepped)
  b_stepped : Binds K fd_stepped ["web", "equals", "way", "steps"] []
  f__law_begun : Addr
  fd__law_begun : FuncData
  F__law_begun : Fun K "_law_begun" "_law_begun" s__law_begun f__law_begun fd__law_begun
  g__law_begun : mg "_law_begun" = some (.ref f__law_begun)
  b__law_begun : Binds K fd__law_begun ["script", "k"] []
  f__law_draw : Addr
  fd__law_draw : FuncData
  F__law_draw : Fun K "_law_draw" "_law_draw" s__law_draw f__law_draw fd__law_draw
  g__law_draw : mg "_law_draw" = some (.ref f__law_draw)
  b__law_draw : Binds K fd__law_draw ["m", "bound"] []
  f__law_of : Addr
  fd__law_of : FuncData
  F__law_of : Fun K "_law_of" "_law_of" s__law_of f__law_of fd__law_of
  g__law_of : mg "_law_of" = some (.ref f__law_of)
  b__law_of : Binds K fd__law_of ["m", "some"] []
  f__law_like : Addr
  fd__law_like : FuncData
  F__law_like : Fun K "_law_like" "_law_like" s__law_like f__law_like fd__law_like
  g__law_like : mg "_law_like" = some (.ref f__law_like)
  b__law_like : Binds K fd__law_like ["got", "due"] []
  f__law_web : Addr
  fd__law_web : FuncData
  F__law_web : Fun K "_law_web" "_law_web" s__law_web f__law_web fd__law_web
  g__law_web : mg "_law_web" = some (.ref f__law_web)
  b__law_web : Binds K fd__law_web ["m", "size", "most"] []
  f__law_ways : Addr
  fd__law_ways : FuncData
  F__law_ways : Fun K "_law_ways" "_law_ways" s__law_ways f__law_ways fd__law_ways
  g__law_ways : mg "_law_ways" = some (.ref f__law_ways)
  b__law_ways : Binds K fd__law_ways ["web"] []
  f__law_small_web : Addr
  fd__law_small_web : FuncData
  F__law_small_web : Fun K "_law_small_web" "_law_small_web" s__law_small_web f__law_small_web fd__law_small_web
  g__law_small_web : mg "_law_small_web" = some (.ref f__law_small_web)
  b__law_small_web : Binds K fd__law_small_web ["m", "size", "most", "limit"] []
  f__law_equals : Addr
  fd__law_equals : FuncData
  F__law_equals : Fun K "_law_equals" "_law_equals" s__law_equals f__law_equals fd__law_equals
  g__law_equals : mg "_law_equals" = some (.ref f__law_equals)
  b__law_equals : Binds K fd__law_equals ["m", "web", "most"] []
  f__law_near : Addr
  fd__law_near : FuncData
  F__law_near : Fun K "_law_near" "_law_near" s__law_near f__law_near fd__law_near
  g__law_near : mg "_law_near" = some (.ref f__law_near)
  b__law_near : Binds K fd__law_near ["equals", "word"] []
  f__law_class : Addr
  fd__law_class : FuncData
  F__law_class : Fun K "_law_class" "_law_class" s__law_class f__law_class fd__law_class
  g__law_class : mg "_law_class" = some (.ref f__law_class)
  b__law_class : Binds K fd__law_class ["equals", "word"] []
  f__law_done : Addr
  fd__law_done : FuncData
  F__law_done : Fun K "_law_done" "_law_done" s__law_done f__law_done fd__law_done
  g__law_done : mg "_law_done" = some (.ref f__law_done)
  b__law_done : Binds K fd__law_done ["equals", "word", "steps"] []
  f__law_pair_right : Addr
  fd__law_pair_right : FuncData
  F__law_pair_right : Fun K "_law_pair_right" "_law_pair_right" s__law_pair_right f__law_pair_right fd__law_pair_right
  g__law_pair_right : mg "_law_pair_right" = some (.ref f__law_pair_right)
  b__law_pair_right : Binds K fd__law_pair_right ["web", "equals", "one", "other"] []
  f_law : Addr
  fd_law : FuncData
  F_law : Fun K "law" "law" s_law f_law fd_law
  g_law : mg "law" = some (.ref f_law)
  b_law : Binds K fd_law ["script"] []
  t_MOST_WAYS : Tok
  c_MOST_WAYS : mg "MOST_WAYS" = some (.int 200 t_MOST_WAYS)
  m_len : mg "len" = none
  m_int : mg "int" = none
  m_tuple : mg "tuple" = none
  m_list : mg "list" = none
  m_range : mg "range" = none
  m_enumerate : mg "enumerate" = none
  m_max : mg "max" = none
  m_min : mg "min" = none
  m_repr : mg "repr" = none
  m_sorted : mg "sorted" = none
  m_isinstance : mg "isinstance" = none
  m_type : mg "type" = none
  m_reversed : mg "reversed" = none
section
variable {P : Program} {w : World} {K : PySem.W.Frag} {mg : Str → Option Value} {base : Heap}
theorem Txt.g_MOST_WAYS (T : Txt K mg) : RelV (.int 200) (.int 200 T.t_MOST_WAYS) ∧ mg "MOST_WAYS" = some (.int 200 T.t_MOST_WAYS) := ⟨⟨_, rfl⟩, T.c_MOST_WAYS⟩
theorem sc_is_number : FnScope ["value", "low", "high"] ["value", "low", "high"] (defScope s_is_number) := ⟨rfl, rfl, rfl, by decide +kernel, rfl, by decide +kernel, by decide +kernel⟩
def w_is_number : WS := (wRet (wAnd (wTyIs "int" false (wVar 0)) (w3 fLe fLe (wVar 1) (wVar 0) (wVar 2))))
theorem der_is_number (T : Txt K mg) : ∀ (cdv : Value) (A : Around) (outer : List Env) (s : Shared) (H : Hp) (E : XK), Room 0 (A.deeper (envOfC "is_number" (defScope s_is_number) s.heap.objs.size T.f_is_number cdv)) → PSs (cxOf CX0 P w K mg base ["value", "low", "high"] "is_number" (defScope s_is_number) T.f_is_number cdv A outer s H E).nox (defBody s_is_number) (tSt K (w_is_number)) :=
  fun cdv A outer s H E hr => have hu := hr.units; have hu5 := units65 hr; (pssOne (psRet (pb (pAnd (pTyIs (by rfl) T.m_type (by rfl) T.m_int boot_int (pnB (pv 0))) (pOne (pCh od_B0 od_B0 (pe_chain op_le op_le (pnB (pv 1)) (pnB (pv 0)) (pnB (pv 2)))))))))

theorem sc_is_row : FnScope ["value", "many"] ["value", "many"] (defScope s_is_row) := ⟨rfl, rfl, rfl, by decide +kernel, rfl, by decide +kernel, by decide +kernel⟩
def w_is_row : WS := (wRet (wAnd (wTyIs "tuple" false (wVar 0)) (w2 (fEq false) (wCall fLen (waCons (wVar 0) waNil)) (wVar 1))))
theorem der_is_row (T : Txt K mg) : ∀ (cdv : Value) (A : Around) (outer : List Env) (s : Shared) (H : Hp) (E : XK), Room 0 (A.deeper (envOfC "is_row" (defScope s_is_row) s.heap.objs.size T.f_is_row cdv)) → PSs (cxOf CX0 P w K mg base ["value", "many"] "is_row" (defScope s_is_row) T.f_is_row cdv A outer s H E).nox (defBody s_is_row) (tSt K (w_is_row)) :=
  fun cdv A outer s H E hr => have hu := hr.units; have hu5 := units65 hr; (pssOne (psRet (pb (pAnd (pTyIs (by rfl) T.m_type (by rfl) T.m_tuple boot_tuple (pnB (pv 0))) (pOne (pCmp (op_eqD hu) od_eq (pb (pLen rfl (by rfl) T.m_len (pnB (pv 0)))) (pnB (pv 1)) (nomark _)))))))

theorem sc_replaced : FnScope ["word", "place", "old", "new", "behind"] ["word", "place", "old", "new"] (defScope s_replaced) := ⟨rfl, rfl, rfl, by decide +kernel, rfl, by decide +kernel, by decide +kernel⟩
def w_replaced : WS := (wSeq (wSetD 4 (w2 fAdd (wVar 1) (wCall fLen (waCons (wVar 2) waNil)))) (wSeq (wIfS (wTst (w2 (fEq true) (wSl (wVar 0) (woS (wVarD 1)) (woS (wVarD 4))) (wVar 2))) (wRet (wC .none)) wNil) (wRet (w2 fAdd (w2 fAdd (wSl (wVar 0) woN (woS (wVarD 1))) (wVar 3)) (wSl (wVar 0) (woS (wVarD 4)) woN)))))
theorem der_replaced (T : Txt K mg) : ∀ (cdv : Value) (A : Around) (outer : List Env) (s : Shared) (H : Hp) (E : XK), Room 0 (A.deeper (envOfC "replaced" (defScope s_replaced) s.heap.objs.size T.f_replaced cdv)) → PSs (cxOf CX0 P w K mg base ["word", "place", "old", "new", "behind"] "replaced" (defScope s_replaced) T.f_replaced cdv A outer s H E).nox (defBody s_replaced) (tSt K (w_replaced)) :=
  fun cdv A outer s H E hr => have hu := hr.units; have hu5 := units65 hr; (pssCons (psSetD (ps_set (i := 4) sc_replaced.nd rfl (by first | exact Or.inl rfl | exact Or.inr rfl) (pBin op_addD od_add (pnB (pv 1)) (pb (pLen rfl (by rfl) T.m_len (pnB (pv 2))))))) (pssCons (psIf (pTc (op_neD hu) od_ne (pb (pSl (pnB (pv 0)) (poS (pnD (pv 1))) (poS (pnD (pv 4))))) (pnB (pv 2)) (nomark _)) (pssOne (psRet (pb (pcN pe_non)))) pssNil) (pssOne (psRet (pb (pBin op_addD od_add (pb (pBin op_addD od_add (pb (pSl (pnB (pv 0)) poN (poS (pnD (pv 1))))) (pnB (pv 3)))) (pb (pSl (pnB (pv 0)) (poS (pnD (pv 4))) poN))))))))

theorem sc_steps_from : FnScope ["equals", "word", "found", "k", "pair", "sense", "place", "more"] ["equals", "word"] (defScope s_steps_from) := ⟨rfl, rfl, rfl, by decide +kernel, rfl, by decide +kernel, by decide +kernel⟩
def w_steps_from : WS := (wSeq (wSetF 2 (wLst waNil)) (wSeq (wFor (wiE (wVarD 0)) (bTup (bCons (bName 3) (bCons (bName 4) bNil))) (wFor (wiR1 (wC (.int 2))) (bName 5) (wFor (wiR1 (wCall fLen (waCons (wVar 1) waNil))) (bName 6) (wSeq (wSetD 7 (wFn W_replaced (waCons (wVarD 1) (waCons (wVarD 6) (waCons (w2 fIx (wVar 4) (wVar 5)) (waCons (w2 fIx (wVar 4) (w2 fSub (wC (.int 1)) (wVar 5))) waNil)))))) (wIfS (wTst (wIsN true (wVar 7))) (wApp 2 (wTup (waCons (wTup (waCons (wVarD 6) (waCons (wVarD 3) (waCons (wVarD 5) waNil)))) (waCons (wVarD 7) waNil)))) wNil))))) (wRet (wVar 2))))
theorem der_steps_from (T : Txt K mg) (G_replaced : FnOk P w K mg base CX0 1 T.f_replaced T.fd_replaced ["word", "place", "old", "new"] (spD K W_replaced)) : ∀ (cdv : Value) (A : Around) (outer : List Env) (s : Shared) (H : Hp) (E : XK), Room 1 (A.deeper (envOfC "steps_from" (defScope s_steps_from) s.heap.objs.size T.f_steps_from cdv)) → PSs (cxOf CX0 P w K mg base ["equals", "word", "found", "k", "pair", "sense", "place", "more"] "steps_from" (defScope s_steps_from) T.f_steps_from cdv A outer s H E).nox (defBody s_steps_from) (tSt K (w_steps_from)) :=
  fun cdv A outer s H E hr => have hu := hr.units; have hu5 := units65 hr; (pssCons (psSetF (ps_set (i := 2) sc_steps_from.nd rfl (by first | exact Or.inl rfl | exact Or.inr rfl) (pLstF paN))) (pssCons (psFor PassesOwn.never rfl (piEnum (by rfl) T.m_enumerate (pnD (pv 0))) (pgTup rfl (pgCons (pgName (pg_name (i := 3) sc_steps_from.nd rfl (by first | exact Or.inl rfl | exact Or.inr rfl))) (pgCons (pgName (pg_name (i := 4) sc_steps_from.nd rfl (by first | exact Or.inl rfl | exact Or.inr rfl))) pgNil)) rfl rfl (bCons_len (bCons_len bNil_len))) (pssOne (psFor PassesOwn.never rfl (piRg1 (by rfl) T.m_range (pcI pe_int)) (pgName (pg_name (i := 5) sc_steps_from.nd rfl (by first | exact Or.inl rfl | exact Or.inr rfl))) (pssOne (psFor PassesOwn.never rfl (piRg1 (by rfl) T.m_range (pLen rfl (by rfl) T.m_len (pnB (pv 1)))) (pgName (pg_name (i := 6) sc_steps_from.nd rfl (by first | exact Or.inl rfl | exact Or.inr rfl))) (pssCons (psSetD (ps_set (i := 7) sc_steps_from.nd rfl (by first | exact Or.inl rfl | exact Or.inr rfl) (pFn G_replaced (hr.mono (by decide)) (by rfl) T.g_replaced T.F_replaced.kp T.b_replaced (paC (pnD (pv 1)) (paC (pnD (pv 6)) (paC (pIx (pnB (pv 4)) (pnB (pv 5))) (paC (pIx (pnB (pv 4)) (pb (pBin op_sub od_I0 (pb (pcI pe_int)) (pnB (pv 5))))) paN))))))) (pssOne (psIf (ptNotN (pnB (pv 7))) (pssOne (psApp (i := 2) (ps_expr (pe_bm PySem.F.plainAttrs_list PySem.F.slot_list_append PySem.F.type_list_append mt_append (pv 2) (pa_cons (pTup (paC (pTup (paC (pnD (pv 6)) (paC (pnD (pv 3)) (paC (pnD (pv 5)) paN)))) (paC (pnD (pv 7)) paN))) pa_nil))))) pssNil)))))))) (pssOne (psRet (pnB (pv 2))))))

theorem sc_put_together : FnScope ["least", "one", "other", "low", "high", "part"] ["least", "one", "other"] (defScope s_put_together) := ⟨rfl, rfl, rfl, by decide +kernel, rfl, by decide +kernel, by decide +kernel⟩
def w_put_together : WS := (wSeq (wUnp (bTup (bCons (bName 3) (bCons (bName 4) bNil))) (wTup (waCons (wCall fMin2 (waCons (wVar 1) (waCons (wVar 2) waNil))) (waCons (wCall fMax2 (waCons (wVar 1) (waCons (wVar 2) waNil))) waNil)))) (wRet (wfD (wLc (wi1 (wVarD 0)) (bName 5) wTy (wIf (wTst (w2 (fEq false) (wVar 5) (wVar 4))) (wVarD 3) (wVarD 5)) [5]))))
theorem der_put_together (T : Txt K mg) : ∀ (cdv : Value) (A : Around) (outer : List Env) (s : Shared) (H : Hp) (E : XK), Room 0 (A.deeper (envOfC "put_together" (defScope s_put_together) s.heap.objs.size T.f_put_together cdv)) → PSs (cxOf CX0 P w K mg base ["least", "one", "other", "low", "high", "part"] "put_together" (defScope s_put_together) T.f_put_together cdv A outer s H E).nox (defBody s_put_together) (tSt K (w_put_together)) :=
  fun cdv A outer s H E hr => have hu := hr.units; have hu5 := units65 hr; (pssCons (psUnp (ps_asg (pTup (paC (pB2 (call_min2 rfl) cd_min2 (by rfl) T.m_min boot_min (pnB (pv 1)) (pnB (pv 2))) (paC (pB2 (call_max2 rfl) cd_max2 (by rfl) T.m_max boot_max (pnB (pv 1)) (pnB (pv 2))) paN))) (pgTup rfl (pgCons (pgName (pg_name (i := 3) sc_put_together.nd rfl (by first | exact Or.inl rfl | exact Or.inr rfl))) (pgCons (pgName (pg_name (i := 4) sc_put_together.nd rfl (by first | exact Or.inl rfl | exact Or.inr rfl))) pgNil)) rfl rfl (bCons_len (bCons_len bNil_len))))) (pssOne (psRet (pb (pf (pLc (own := [("part", 5)]) rfl sc_put_together.nd (piSeq (pnD (pv 0))) (blkOk_by (by kernel_rfl)) (fun _ _ _ _ _ => (pgName (pg_name (i := 5) sc_put_together.nd rfl (by first | exact Or.inl rfl | exact Or.inr rfl)))) (fun _ _ _ _ _ => ptsN) (fun _ _ _ _ _ => (pIf (pTc (op_eqD hu) od_eq (pnB (pv 5)) (pnB (pv 4)) (nomark _)) (pnD (pv 3)) (pnD (pv 5)))) (by decide)))))))

theorem sc_end_of : FnScope ["web", "way", "x", "word"] ["web", "way"] (defScope s_end_of) := ⟨rfl, rfl, rfl, by decide +kernel, rfl, by decide +kernel, by decide +kernel⟩
def w_end_of : WS := (wSeq (wUnp (bTup (bCons (bName 2) (bCons (bName 3) bNil))) (wVarD 1)) (wRet (wIf (wtTru (wVar 3)) (w2 fIx (w2 fIx (w2 fIx (wVar 0) (wC (.int 1))) (w2 fIx (wVar 3) (wNeg (wC (.int 1))))) (wC (.int 1))) (wVarD 2))))
theorem der_end_of (T : Txt K mg) : ∀ (cdv : Value) (A : Around) (outer : List Env) (s : Shared) (H : Hp) (E : XK), Room 0 (A.deeper (envOfC "end_of" (defScope s_end_of) s.heap.objs.size T.f_end_of cdv)) → PSs (cxOf CX0 P w K mg base ["web", "way", "x", "word"] "end_of" (defScope s_end_of) T.f_end_of cdv A outer s H E).nox (defBody s_end_of) (tSt K (w_end_of)) :=
  fun cdv A outer s H E hr => have hu := hr.units; have hu5 := units65 hr; (pssCons (psUnp (ps_asg (pnD (pv 1)) (pgTup rfl (pgCons (pgName (pg_name (i := 2) sc_end_of.nd rfl (by first | exact Or.inl rfl | exact Or.inr rfl))) (pgCons (pgName (pg_name (i := 3) sc_end_of.nd rfl (by first | exact Or.inl rfl | exact Or.inr rfl))) pgNil)) rfl rfl (bCons_len (bCons_len bNil_len))))) (pssOne (psRet (pb (pIf (ptTru (pnB (pv 3))) (pIx (pb (pIx (pb (pIx (pnB (pv 0)) (pb (pcI pe_int)))) (pb (pIx (pnB (pv 3)) (pb (pNeg (pcI pe_int))))))) (pb (pcI pe_int))) (pnD (pv 2)))))))

theorem sc_gone_on : FnScope ["web", "way", "at", "x", "word", "r", "road"] ["web", "way"] (defScope s_gone_on) := ⟨rfl, rfl, rfl, by decide +kernel, rfl, by decide +kernel, by decide +kernel⟩
def w_gone_on : WS := (wSeq (wUnp (bTup (bCons (bName 3) (bCons (bName 4) bNil))) (wVarD 1)) (wSeq (wSetD 2 (wFn W_end_of (waCons (wVarD 0) (waCons (wVarD 1) waNil)))) (wRet (wfD (wLc (wiE (w2 fIx (wVar 0) (wC (.int 1)))) (bTup (bCons (bName 5) (bCons (bName 6) bNil))) (wTst (w2 (fEq false) (w2 fIx (wVar 6) (wC (.int 0))) (wVar 2))) (wTup (waCons (wVarD 3) (waCons (w2 fAdd (wVar 4) (wTup (waCons (wVarD 5) waNil))) waNil))) [5, 6])))))
theorem der_gone_on (T : Txt K mg) (G_end_of : FnOk P w K mg base CX0 1 T.f_end_of T.fd_end_of ["web", "way"] (spD K W_end_of)) : ∀ (cdv : Value) (A : Around) (outer : List Env) (s : Shared) (H : Hp) (E : XK), Room 1 (A.deeper (envOfC "gone_on" (defScope s_gone_on) s.heap.objs.size T.f_gone_on cdv)) → PSs (cxOf CX0 P w K mg base ["web", "way", "at", "x", "word", "r", "road"] "gone_on" (defScope s_gone_on) T.f_gone_on cdv A outer s H E).nox (defBody s_gone_on) (tSt K (w_gone_on)) :=
  fun cdv A outer s H E hr => have hu := hr.units; have hu5 := units65 hr; (pssCons (psUnp (ps_asg (pnD (pv 1)) (pgTup rfl (pgCons (pgName (pg_name (i := 3) sc_gone_on.nd rfl (by first | exact Or.inl rfl | exact Or.inr rfl))) (pgCons (pgName (pg_name (i := 4) sc_gone_on.nd rfl (by first | exact Or.inl rfl | exact Or.inr rfl))) pgNil)) rfl rfl (bCons_len (bCons_len bNil_len))))) (pssCons (psSetD (ps_set (i := 2) sc_gone_on.nd rfl (by first | exact Or.inl rfl | exact Or.inr rfl) (pFn G_end_of (hr.mono (by decide)) (by rfl) T.g_end_of T.F_end_of.kp T.b_end_of (paC (pnD (pv 0)) (paC (pnD (pv 1)) paN))))) (pssOne (psRet (pb (pf (pLc (own := [("r", 5), ("road", 6)]) rfl sc_gone_on.nd (piEnum (by rfl) T.m_enumerate (pIx (pnB (pv 0)) (pb (pcI pe_int)))) (blkOk_by (by kernel_rfl)) (fun _ _ _ _ _ => (pgTup rfl (pgCons (pgName (pg_name (i := 5) sc_gone_on.nd rfl (by first | exact Or.inl rfl | exact Or.inr rfl))) (pgCons (pgName (pg_name (i := 6) sc_gone_on.nd rfl (by first | exact Or.inl rfl | exact Or.inr rfl))) pgNil)) rfl rfl (bCons_len (bCons_len bNil_len)))) (fun _ _ _ _ _ => (ptsO (pTc (op_eqD hu) od_eq (pb (pIx (pnB (pv 6)) (pb (pcI pe_int)))) (pnB (pv 2)) (nomark _)))) (fun _ _ _ _ _ => (pTup (paC (pnD (pv 3)) (paC (pBin op_addD od_add (pnB (pv 4)) (pb (pTup (paC (pnD (pv 5)) paN)))) paN)))) (by decide))))))))

theorem sc_ways : FnScope ["web", "found", "waiting", "ordered", "way", "x", "row"] ["web"] (defScope s_ways) := ⟨rfl, rfl, rfl, by decide +kernel, rfl, by decide +kernel, by decide +kernel⟩
def w_ways : WS := (wSeq (wSetF 1 (wLst waNil)) (wSeq (wSetF 2 (wLc (wiR1 (w2 fIx (wVar 0) (wC (.int 0)))) (bName 5) wTy (wTup (waCons (wVarD 5) (waCons (wTup waNil) waNil))) [5])) (wSeq (wWhile (wtTru (wVar 2)) (wSeq (wPop 4 2) (wSeq (wApp 1 (wVarD 4)) (wSeq (wIfS (wTst (w2 fGt (wCall fLen (waCons (wVar 1) waNil)) (wC (.int 200)))) wNever wNil) (wExt 2 (wFn W_gone_on (waCons (wVarD 0) (waCons (wVarD 4) waNil)))))))) (wFrz 1 (wSeq (wSetD 3 (wfD (wSort (wfD (wLc (wi1 (wVarD 1)) (bName 4) wTy (wTup (waCons (w2 fIx (wVar 4) (wC (.int 0))) (waCons (wFn W_end_of (waCons (wVarD 0) (waCons (wVarD 4) waNil))) (waCons (wCall fLen (waCons (w2 fIx (wVar 4) (wC (.int 1))) waNil)) (waCons (w2 fIx (wVar 4) (wC (.int 1))) waNil))))) [4]))))) (wRet (wCall fTupOf (waCons (wfD (wLc (wi1 (wVarD 3)) (bName 6) wTy (wTup (waCons (w2 fIx (wVar 6) (wC (.int 0))) (waCons (w2 fIx (wVar 6) (wC (.int 3))) waNil))) [6])) waNil))))))))
theorem der_ways (T : Txt K mg) (G_end_of : FnOk P w K mg base CX0 1 T.f_end_of T.fd_end_of ["web", "way"] (spD K W_end_of)) (G_gone_on : FnOk P w K mg base CX0 2 T.f_gone_on T.fd_gone_on ["web", "way"] (spD K W_gone_on)) : ∀ (cdv : Value) (A : Around) (outer : List Env) (s : Shared) (H : Hp) (E : XK), Room 2 (A.deeper (envOfC "ways" (defScope s_ways) s.heap.objs.size T.f_ways cdv)) → PSs (cxOf CX0 P w K mg base ["web", "found", "waiting", "ordered", "way", "x", "row"] "ways" (defScope s_ways) T.f_ways cdv A outer s H E).nox (defBody s_ways) (tSt K (w_ways)) :=
  fun cdv A outer s H E hr => have hu := hr.units; have hu5 := units65 hr; (pssCons (psSetF (ps_set (i := 1) sc_ways.nd rfl (by first | exact Or.inl rfl | exact Or.inr rfl) (pLstF paN))) (pssCons (psSetF (i := 2) (psSetLc (own := [("x", 5)]) sc_ways.nd rfl rfl (sw_true rfl rfl rfl (by kernel_rfl)) rfl (piRg1 (by rfl) T.m_range (pIx (pnB (pv 0)) (pb (pcI pe_int)))) (blkOk_by (by kernel_rfl)) (fun _ _ _ _ _ => (pgName (pg_name (i := 5) sc_ways.nd rfl (by first | exact Or.inl rfl | exact Or.inr rfl)))) (fun _ _ _ _ _ => ptsN) (fun _ _ _ _ _ => (pTup (paC (pnD (pv 5)) (paC (pTup paN) paN)))) (by decide))) (pssCons (psWhile PassesOwn.never (ptTru (pnB (pv 2))) (pssCons (psPop (j := 4) (i := 2) (ps_set (i := 4) sc_ways.nd rfl (by first | exact Or.inl rfl | exact Or.inr rfl) (pe_bm0 PySem.F.plainAttrs_list PySem.F.slot_list_pop PySem.F.type_list_pop mt_pop (pv 2)))) (pssCons (psApp (i := 1) (ps_expr (pe_bm PySem.F.plainAttrs_list PySem.F.slot_list_append PySem.F.type_list_append mt_append (pv 1) (pa_cons (pnD (pv 4)) pa_nil)))) (pssCons (psIf (pTc op_gt od_B0 (pb (pLen rfl (by rfl) T.m_len (pnB (pv 1)))) (pb (pcI (pe_glob (by rfl) T.g_MOST_WAYS.2 (T.g_MOST_WAYS.1)))) (nomark _)) (pssOne psNever) pssNil) (pssOne (psExt (i := 2) (ps_expr (pe_bm PySem.F.plainAttrs_list PySem.F.slot_list_extend PySem.F.type_list_extend mt_extend (pv 2) (pa_cons (pFn G_gone_on (hr.mono (by decide)) (by rfl) T.g_gone_on T.F_gone_on.kp T.b_gone_on (paC (pnD (pv 0)) (paC (pnD (pv 4)) paN))) pa_nil))))))))) (pssFrz (i := 1) (pssCons (psSetD (ps_set (i := 3) sc_ways.nd rfl (by first | exact Or.inl rfl | exact Or.inr rfl) (pf (pSort rfl hu5 (by rfl) T.m_sorted (pb (pf (pLc (own := [("way", 4)]) rfl sc_ways.nd (piSeq (pnD (pv 1))) (blkOk_by (by kernel_rfl)) (fun _ _ _ _ _ => (pgName (pg_name (i := 4) sc_ways.nd rfl (by first | exact Or.inl rfl | exact Or.inr rfl)))) (fun _ _ _ _ _ => ptsN) (fun _ _ _ _ _ => (pTup (paC (pIx (pnB (pv 4)) (pb (pcI pe_int))) (paC (pFn G_end_of (hr.mono (by decide)) (by rfl) T.g_end_of T.F_end_of.kp T.b_end_of (paC (pnD (pv 0)) (paC (pnD (pv 4)) paN))) (paC (pLen rfl (by rfl) T.m_len (pb (pIx (pnB (pv 4)) (pb (pcI pe_int))))) (paC (pIx (pnB (pv 4)) (pb (pcI pe_int))) paN)))))) (by decide)))))))) (pssOne (psRet (pb (pT1 call_tuple_of cd_tup (by rfl) T.m_tuple boot_tuple (pb (pf (pLc (own := [("row", 6)]) rfl sc_ways.nd (piSeq (pnD (pv 3))) (blkOk_by (by kernel_rfl)) (fun _ _ _ _ _ => (pgName (pg_name (i := 6) sc_ways.nd rfl (by first | exact Or.inl rfl | exact Or.inr rfl)))) (fun _ _ _ _ _ => ptsN) (fun _ _ _ _ _ => (pTup (paC (pIx (pnB (pv 6)) (pb (pcI pe_int))) (paC (pIx (pnB (pv 6)) (pb (pcI pe_int))) paN)))) (by decide)))))))))))))

theorem sc_least_ways : FnScope ["web", "equals", "every", "place", "least", "k", "x", "word", "_", "more", "way", "low", "high"] ["web", "equals"] (defScope s_least_ways) := ⟨rfl, rfl, rfl, by decide +kernel, rfl, by decide +kernel, by decide +kernel⟩
def w_least_ways : WS := (wSeq (wSetD 2 (wFn W_ways (waCons (wVarD 0) waNil))) (wSeq (wSetD 3 (wDc (wiE (wVarD 2)) (bTup (bCons (bName 5) (bCons (bName 10) bNil))) wTy (wVarD 10) (wVarD 5) [5, 10])) (wSeq (wSetD 4 (wfD (wListRg (wr1 (wCall fLen (waCons (wVar 2) waNil)))))) (wSeq (wFor (wiE (wVarD 2)) (bTup (bCons (bName 5) (bCons (bTup (bCons (bName 6) (bCons (bName 7) bNil))) bNil))) (wFor (wi1 (wFn W_steps_from (waCons (wVarD 1) (waCons (wVarD 7) waNil)))) (bTup (bCons (bName 8) (bCons (bName 9) bNil))) (wSeq (wPar 11 12 (waCons (w2 fIx (wVar 4) (wVar 5)) (waCons (w2 fIx (wVar 4) (wDGet (wDiD (wVarD 3)) (wTup (waCons (wVarD 6) (waCons (wVarD 9) waNil))))) waNil))) (wIfS (wTst (w2 (fEq true) (wVar 11) (wVar 12))) (wSetD 4 (wFn W_put_together (waCons (wVarD 4) (waCons (wVarD 11) (waCons (wVarD 12) waNil))))) wNil)))) (wRet (wDc (wiItems (wVarD 3)) (bTup (bCons (bName 10) (bCons (bName 5) bNil))) wTy (wVarD 10) (w2 fIx (wVar 2) (w2 fIx (wVar 4) (wVar 5))) [10, 5]))))))
theorem der_least_ways (T : Txt K mg) (G_put_together : FnOk P w K mg base CX0 1 T.f_put_together T.fd_put_together ["least", "one", "other"] (spD K W_put_together)) (G_steps_from : FnOk P w K mg base CX0 2 T.f_steps_from T.fd_steps_from ["equals", "word"] (spD K W_steps_from)) (G_ways : FnOk P w K mg base CX0 3 T.f_ways T.fd_ways ["web"] (spD K W_ways)) : ∀ (cdv : Value) (A : Around) (outer : List Env) (s : Shared) (H : Hp) (E : XK), Room 3 (A.deeper (envOfC "least_ways" (defScope s_least_ways) s.heap.objs.size T.f_least_ways cdv)) → PSs (cxOf CX0 P w K mg base ["web", "equals", "every", "place", "least", "k", "x", "word", "_", "more", "way", "low", "high"] "least_ways" (defScope s_least_ways) T.f_least_ways cdv A outer s H E).nox (defBody s_least_ways) (tSt K (w_least_ways)) :=
  fun cdv A outer s H E hr => have hu := hr.units; have hu5 := units65 hr; (pssCons (psSetD (ps_set (i := 2) sc_least_ways.nd rfl (by first | exact Or.inl rfl | exact Or.inr rfl) (pFn G_ways (hr.mono (by decide)) (by rfl) T.g_ways T.F_ways.kp T.b_ways (paC (pnD (pv 0)) paN)))) (pssCons (psSetD (i := 3) (psSetDc (own := [("k", 5), ("way", 10)]) hu5 sc_least_ways.nd rfl rfl (sw_trueD rfl rfl rfl (by kernel_rfl)) rfl (piEnum (by rfl) T.m_enumerate (pnD (pv 2))) (blkOk_by (by kernel_rfl)) (fun _ _ _ _ _ => (pgTup rfl (pgCons (pgName (pg_name (i := 5) sc_least_ways.nd rfl (by first | exact Or.inl rfl | exact Or.inr rfl))) (pgCons (pgName (pg_name (i := 10) sc_least_ways.nd rfl (by first | exact Or.inl rfl | exact Or.inr rfl))) pgNil)) rfl rfl (bCons_len (bCons_len bNil_len)))) (fun _ _ _ _ _ => ptsN) (fun _ _ _ _ _ => (pnD (pv 10))) (fun _ _ _ _ _ => (pnD (pv 5))) (by decide))) (pssCons (psSetD (ps_set (i := 4) sc_least_ways.nd rfl (by first | exact Or.inl rfl | exact Or.inr rfl) (pf (pListRgF rfl (by rfl) T.m_list (pRg1 (by rfl) T.m_range (pLen rfl (by rfl) T.m_len (pnB (pv 2)))))))) (pssCons (psFor PassesOwn.never rfl (piEnum (by rfl) T.m_enumerate (pnD (pv 2))) (pgTup rfl (pgCons (pgName (pg_name (i := 5) sc_least_ways.nd rfl (by first | exact Or.inl rfl | exact Or.inr rfl))) (pgCons (pgTup rfl (pgCons (pgName (pg_name (i := 6) sc_least_ways.nd rfl (by first | exact Or.inl rfl | exact Or.inr rfl))) (pgCons (pgName (pg_name (i := 7) sc_least_ways.nd rfl (by first | exact Or.inl rfl | exact Or.inr rfl))) pgNil)) rfl rfl (bCons_len (bCons_len bNil_len))) pgNil)) rfl rfl (bCons_len (bCons_len bNil_len))) (pssOne (psFor PassesOwn.never rfl (piSeq (pFn G_steps_from (hr.mono (by decide)) (by rfl) T.g_steps_from T.F_steps_from.kp T.b_steps_from (paC (pnD (pv 1)) (paC (pnD (pv 7)) paN)))) (pgTup rfl (pgCons (pgName (pg_name (i := 8) sc_least_ways.nd rfl (by first | exact Or.inl rfl | exact Or.inr rfl))) (pgCons (pgName (pg_name (i := 9) sc_least_ways.nd rfl (by first | exact Or.inl rfl | exact Or.inr rfl))) pgNil)) rfl rfl (bCons_len (bCons_len bNil_len))) (pssCons (psPar (ps_par (i := 11) (j := 12) rfl sc_least_ways.nd rfl rfl (by decide) rfl rfl (paC (pIx (pnB (pv 4)) (pnB (pv 5))) (paC (pIx (pnB (pv 4)) (pb (pDGet hu5 (pdD (pnD (pv 3))) (pTup (paC (pnD (pv 6)) (paC (pnD (pv 9)) paN)))))) paN)) (by rfl))) (pssOne (psIf (pTc (op_neD hu) od_ne (pnB (pv 11)) (pnB (pv 12)) (nomark _)) (pssOne (psSetD (ps_set (i := 4) sc_least_ways.nd rfl (by first | exact Or.inl rfl | exact Or.inr rfl) (pFn G_put_together (hr.mono (by decide)) (by rfl) T.g_put_together T.F_put_together.kp T.b_put_together (paC (pnD (pv 4)) (paC (pnD (pv 11)) (paC (pnD (pv 12)) paN))))))) pssNil)))))) (pssOne (psRet (pb (pDc (own := [("way", 10), ("k", 5)]) hu5 rfl sc_least_ways.nd (piItems (pnD (pv 3))) (blkOk_by (by kernel_rfl)) (fun _ _ _ _ _ => (pgTup rfl (pgCons (pgName (pg_name (i := 10) sc_least_ways.nd rfl (by first | exact Or.inl rfl | exact Or.inr rfl))) (pgCons (pgName (pg_name (i := 5) sc_least_ways.nd rfl (by first | exact Or.inl rfl | exact Or.inr rfl))) pgNil)) rfl rfl (bCons_len (bCons_len bNil_len)))) (fun _ _ _ _ _ => ptsN) (fun _ _ _ _ _ => (pnD (pv 10))) (fun _ _ _ _ _ => (pIx (pnB (pv 2)) (pb (pIx (pnB (pv 4)) (pnB (pv 5)))))) (by decide)))))))))

theorem sc_least_way : FnScope ["web", "equals", "way"] ["web", "equals", "way"] (defScope s_least_way) := ⟨rfl, rfl, rfl, by decide +kernel, rfl, by decide +kernel, by decide +kernel⟩
def w_least_way : WS := (wRet (wDGet (wDiD (wFn W_least_ways (waCons (wVarD 0) (waCons (wVarD 1) waNil)))) (wVarD 2)))
theorem der_least_way (T : Txt K mg) (G_least_ways : FnOk P w K mg base CX0 4 T.f_least_ways T.fd_least_ways ["web", "equals"] (spD K W_least_ways)) : ∀ (cdv : Value) (A : Around) (outer : List Env) (s : Shared) (H : Hp) (E : XK), Room 4 (A.deeper (envOfC "least_way" (defScope s_least_way) s.heap.objs.size T.f_least_way cdv)) → PSs (cxOf CX0 P w K mg base ["web", "equals", "way"] "least_way" (defScope s_least_way) T.f_least_way cdv A outer s H E).nox (defBody s_least_way) (tSt K (w_least_way)) :=
  fun cdv A outer s H E hr => have hu := hr.units; have hu5 := units65 hr; (pssOne (psRet (pb (pDGet hu5 (pdD (pFn G_least_ways (hr.mono (by decide)) (by rfl) T.g_least_ways T.F_least_ways.kp T.b_least_ways (paC (pnD (pv 0)) (paC (pnD (pv 1)) paN)))) (pnD (pv 2))))))

theorem sc_origins : FnScope ["equals", "start", "origin", "row", "reached", "old", "step", "new"] ["equals", "start"] (defScope s_origins) := ⟨rfl, rfl, rfl, by decide +kernel, rfl, by decide +kernel, by decide +kernel⟩
def w_origins : WS := (wSeq (wSetD1 2 (wVarD 1) (wC .none)) (wSeq (wSetD 3 (wfD (wLst (waCons (wVarD 1) waNil)))) (wSeq (wWhile (wtTru (wVar 3)) (wSeq (wSetF 4 (wLst waNil)) (wSeq (wFor (wi1 (wVarD 3)) (bName 5) (wFor (wi1 (wFn W_steps_from (waCons (wVarD 0) (waCons (wVarD 5) waNil)))) (bTup (bCons (bName 6) (bCons (bName 7) bNil))) (wIfS (wTst (wDIn not (wVarD 7) (wDiO 2))) (wSeq (wPutD 2 (wVarD 7) (wTup (waCons (wVarD 5) (waCons (wVarD 6) waNil)))) (wApp 4 (wVarD 7))) wNil))) (wFrz 4 (wSetD 3 (wVarD 4)))))) (wFrzD 2 (wRet (wVar 2))))))
theorem der_origins (T : Txt K mg) (G_steps_from : FnOk P w K mg base CX0 2 T.f_steps_from T.fd_steps_from ["equals", "word"] (spD K W_steps_from)) : ∀ (cdv : Value) (A : Around) (outer : List Env) (s : Shared) (H : Hp) (E : XK), Room 2 (A.deeper (envOfC "origins" (defScope s_origins) s.heap.objs.size T.f_origins cdv)) → PSs (cxOf CX0 P w K mg base ["equals", "start", "origin", "row", "reached", "old", "step", "new"] "origins" (defScope s_origins) T.f_origins cdv A outer s H E).nox (defBody s_origins) (tSt K (w_origins)) :=
  fun cdv A outer s H E hr => have hu := hr.units; have hu5 := units65 hr; (pssCons (psSetD1 (i := 2) (ps_set (i := 2) sc_origins.nd rfl (by first | exact Or.inl rfl | exact Or.inr rfl) (pe_dOne hu5 (pnD (pv 1)) (pcN pe_non)))) (pssCons (psSetD (ps_set (i := 3) sc_origins.nd rfl (by first | exact Or.inl rfl | exact Or.inr rfl) (pf (pLstF (paC (pnD (pv 1)) paN))))) (pssCons (psWhile PassesOwn.never (ptTru (pnB (pv 3))) (pssCons (psSetF (ps_set (i := 4) sc_origins.nd rfl (by first | exact Or.inl rfl | exact Or.inr rfl) (pLstF paN))) (pssCons (psFor PassesOwn.never rfl (piSeq (pnD (pv 3))) (pgName (pg_name (i := 5) sc_origins.nd rfl (by first | exact Or.inl rfl | exact Or.inr rfl))) (pssOne (psFor PassesOwn.never rfl (piSeq (pFn G_steps_from (hr.mono (by decide)) (by rfl) T.g_steps_from T.F_steps_from.kp T.b_steps_from (paC (pnD (pv 0)) (paC (pnD (pv 5)) paN)))) (pgTup rfl (pgCons (pgName (pg_name (i := 6) sc_origins.nd rfl (by first | exact Or.inl rfl | exact Or.inr rfl))) (pgCons (pgName (pg_name (i := 7) sc_origins.nd rfl (by first | exact Or.inl rfl | exact Or.inr rfl))) pgNil)) rfl rfl (bCons_len (bCons_len bNil_len))) (pssOne (psIf (ptDNotIn hu5 (pnD (pv 7)) (pdO (pv 2))) (pssCons (psPutD (i := 2) hu5 (pv 2) (pnD (pv 7)) (pTup (paC (pnD (pv 5)) (paC (pnD (pv 6)) paN)))) (pssOne (psApp (i := 4) (ps_expr (pe_bm PySem.F.plainAttrs_list PySem.F.slot_list_append PySem.F.type_list_append mt_append (pv 4) (pa_cons (pnD (pv 7)) pa_nil)))))) pssNil))))) (pssFrz (i := 4) (pssOne (psSetD (ps_set (i := 3) sc_origins.nd rfl (by first | exact Or.inl rfl | exact Or.inr rfl) (pnD (pv 4))))))))) (pssFrzD (i := 2) (pssOne (psRet (pnB (pv 2))))))))

theorem sc_way_steps : FnScope ["web", "equals", "one", "other", "origin", "steps", "word", "step"] ["web", "equals", "one", "other"] (defScope s_way_steps) := ⟨rfl, rfl, rfl, by decide +kernel, rfl, by decide +kernel, by decide +kernel⟩
def w_way_steps : WS := (wSeq (wDrop (wFn W_ways (waCons (wVarD 0) waNil))) (wSeq (wSetD 4 (wFn W_origins (waCons (wVarD 1) (waCons (w2 fIx (wVar 2) (wC (.int 1))) waNil)))) (wSeq (wIfS (wtOr (wTst (w2 (fEq true) (w2 fIx (wVar 2) (wC (.int 0))) (w2 fIx (wVar 3) (wC (.int 0))))) (wTst (wDIn not (w2 fIx (wVar 3) (wC (.int 1))) (wDiD (wVarD 4))))) (wRet (wC .none)) wNil) (wSeq (wSetF 5 (wLst waNil)) (wSeq (wSetD 6 (w2 fIx (wVar 3) (wC (.int 1)))) (wSeq (wWhile (wTst (wIsN true (wDGet (wDiD (wVarD 4)) (wVarD 6)))) (wSeq (wUnp (bTup (bCons (bName 6) (bCons (bName 7) bNil))) (wDGet (wDiD (wVarD 4)) (wVarD 6))) (wApp 5 (wVarD 7)))) (wRet (wTupRev (wVar 5)))))))))
theorem der_way_steps (T : Txt K mg) (G_origins : FnOk P w K mg base CX0 3 T.f_origins T.fd_origins ["equals", "start"] (spD K W_origins)) (G_ways : FnOk P w K mg base CX0 3 T.f_ways T.fd_ways ["web"] (spD K W_ways)) : ∀ (cdv : Value) (A : Around) (outer : List Env) (s : Shared) (H : Hp) (E : XK), Room 3 (A.deeper (envOfC "way_steps" (defScope s_way_steps) s.heap.objs.size T.f_way_steps cdv)) → PSs (cxOf CX0 P w K mg base ["web", "equals", "one", "other", "origin", "steps", "word", "step"] "way_steps" (defScope s_way_steps) T.f_way_steps cdv A outer s H E).nox (defBody s_way_steps) (tSt K (w_way_steps)) :=
  fun cdv A outer s H E hr => have hu := hr.units; have hu5 := units65 hr; (pssCons (psDrop (ps_expr (pFn G_ways (hr.mono (by decide)) (by rfl) T.g_ways T.F_ways.kp T.b_ways (paC (pnD (pv 0)) paN)))) (pssCons (psSetD (ps_set (i := 4) sc_way_steps.nd rfl (by first | exact Or.inl rfl | exact Or.inr rfl) (pFn G_origins (hr.mono (by decide)) (by rfl) T.g_origins T.F_origins.kp T.b_origins (paC (pnD (pv 1)) (paC (pIx (pnB (pv 2)) (pb (pcI pe_int))) paN))))) (pssCons (psIf (PW.pt (ptOr (pTc (op_neD hu) od_ne (pb (pIx (pnB (pv 2)) (pb (pcI pe_int)))) (pb (pIx (pnB (pv 3)) (pb (pcI pe_int)))) (nomark _)) (ptOr1 (ptDNotIn hu5 (pIx (pnB (pv 3)) (pb (pcI pe_int))) (pdD (pnD (pv 4))))))) (pssOne (psRet (pb (pcN pe_non)))) pssNil) (pssCons (psSetF (ps_set (i := 5) sc_way_steps.nd rfl (by first | exact Or.inl rfl | exact Or.inr rfl) (pLstF paN))) (pssCons (psSetD (ps_set (i := 6) sc_way_steps.nd rfl (by first | exact Or.inl rfl | exact Or.inr rfl) (pIx (pnB (pv 3)) (pb (pcI pe_int))))) (pssCons (psWhile PassesOwn.never (ptNotN (pb (pDGet hu5 (pdD (pnD (pv 4))) (pnD (pv 6))))) (pssCons (psUnp (ps_asg (pDGet hu5 (pdD (pnD (pv 4))) (pnD (pv 6))) (pgTup rfl (pgCons (pgName (pg_name (i := 6) sc_way_steps.nd rfl (by first | exact Or.inl rfl | exact Or.inr rfl))) (pgCons (pgName (pg_name (i := 7) sc_way_steps.nd rfl (by first | exact Or.inl rfl | exact Or.inr rfl))) pgNil)) rfl rfl (bCons_len (bCons_len bNil_len))))) (pssOne (psApp (i := 5) (ps_expr (pe_bm PySem.F.plainAttrs_list PySem.F.slot_list_append PySem.F.type_list_append mt_append (pv 5) (pa_cons (pnD (pv 7)) pa_nil))))))) (pssOne (psRet (pb (pTupRev rfl (by rfl) T.m_tuple (by rfl) T.m_reversed (pnB (pv 5))))))))))))

theorem sc_word_behind : FnScope ["equals", "word", "step", "place", "k", "sense"] ["equals", "word", "step"] (defScope s_word_behind) := ⟨rfl, rfl, rfl, by decide +kernel, rfl, by decide +kernel, by decide +kernel⟩
def w_word_behind : WS := (wSeq (wIfS (wtNot (wTst (wFn W_is_row (waCons (wVarD 2) (waCons (wC (.int 3)) waNil))))) (wRet (wC .none)) wNil) (wSeq (wUnp (bTup (bCons (bName 3) (bCons (bName 4) (bCons (bName 5) bNil)))) (wVarD 2)) (wSeq (wIfS (wtOr (wtNot (wTst (wFn W_is_number (waCons (wVarD 3) (waCons (wC (.int 0)) (waCons (wCall fLen (waCons (wVar 1) waNil)) waNil)))))) (wtOr (wtNot (wTst (wFn W_is_number (waCons (wVarD 4) (waCons (wC (.int 0)) (waCons (w2 fSub (wCall fLen (waCons (wVar 0) waNil)) (wC (.int 1))) waNil)))))) (wtNot (wTst (wFn W_is_number (waCons (wVarD 5) (waCons (wC (.int 0)) (waCons (wC (.int 1)) waNil)))))))) (wRet (wC .none)) wNil) (wRet (wFn W_replaced (waCons (wVarD 1) (waCons (wVarD 3) (waCons (w2 fIx (w2 fIx (wVar 0) (wVar 4)) (wVar 5)) (waCons (w2 fIx (w2 fIx (wVar 0) (wVar 4)) (w2 fSub (wC (.int 1)) (wVar 5))) waNil)))))))))
theorem der_word_behind (T : Txt K mg) (G_is_number : FnOk P w K mg base CX0 1 T.f_is_number T.fd_is_number ["value", "low", "high"] (spD K W_is_number)) (G_is_row : FnOk P w K mg base CX0 1 T.f_is_row T.fd_is_row ["value", "many"] (spD K W_is_row)) (G_replaced : FnOk P w K mg base CX0 1 T.f_replaced T.fd_replaced ["word", "place", "old", "new"] (spD K W_replaced)) : ∀ (cdv : Value) (A : Around) (outer : List Env) (s : Shared) (H : Hp) (E : XK), Room 1 (A.deeper (envOfC "word_behind" (defScope s_word_behind) s.heap.objs.size T.f_word_behind cdv)) → PSs (cxOf CX0 P w K mg base ["equals", "word", "step", "place", "k", "sense"] "word_behind" (defScope s_word_behind) T.f_word_behind cdv A outer s H E).nox (defBody s_word_behind) (tSt K (w_word_behind)) :=
  fun cdv A outer s H E hr => have hu := hr.units; have hu5 := units65 hr; (pssCons (psIf (ptNot (ptV (pFn G_is_row (hr.mono (by decide)) (by rfl) T.g_is_row T.F_is_row.kp T.b_is_row (paC (pnD (pv 2)) (paC (pcI pe_int) paN))))) (pssOne (psRet (pb (pcN pe_non)))) pssNil) (pssCons (psUnp (ps_asg (pnD (pv 2)) (pgTup rfl (pgCons (pgName (pg_name (i := 3) sc_word_behind.nd rfl (by first | exact Or.inl rfl | exact Or.inr rfl))) (pgCons (pgName (pg_name (i := 4) sc_word_behind.nd rfl (by first | exact Or.inl rfl | exact Or.inr rfl))) (pgCons (pgName (pg_name (i := 5) sc_word_behind.nd rfl (by first | exact Or.inl rfl | exact Or.inr rfl))) pgNil))) rfl rfl (bCons_len (bCons_len (bCons_len bNil_len)))))) (pssCons (psIf (PW.pt (ptOr (ptNot (ptV (pFn G_is_number (hr.mono (by decide)) (by rfl) T.g_is_number T.F_is_number.kp T.b_is_number (paC (pnD (pv 3)) (paC (pcI pe_int) (paC (pLen rfl (by rfl) T.m_len (pnB (pv 1))) paN)))))) (ptOr (ptNot (ptV (pFn G_is_number (hr.mono (by decide)) (by rfl) T.g_is_number T.F_is_number.kp T.b_is_number (paC (pnD (pv 4)) (paC (pcI pe_int) (paC (pBin op_sub od_I0 (pb (pLen rfl (by rfl) T.m_len (pnB (pv 0)))) (pb (pcI pe_int))) paN)))))) (ptOr1 (ptNot (ptV (pFn G_is_number (hr.mono (by decide)) (by rfl) T.g_is_number T.F_is_number.kp T.b_is_number (paC (pnD (pv 5)) (paC (pcI pe_int) (paC (pcI pe_int) paN)))))))))) (pssOne (psRet (pb (pcN pe_non)))) pssNil) (pssOne (psRet (pb (pFn G_replaced (hr.mono (by decide)) (by rfl) T.g_replaced T.F_replaced.kp T.b_replaced (paC (pnD (pv 1)) (paC (pnD (pv 3)) (paC (pIx (pb (pIx (pnB (pv 0)) (pnB (pv 4)))) (pnB (pv 5))) (paC (pIx (pb (pIx (pnB (pv 0)) (pnB (pv 4)))) (pb (pBin op_sub od_I0 (pb (pcI pe_int)) (pnB (pv 5))))) paN)))))))))))

theorem sc_stepped : FnScope ["web", "equals", "way", "steps", "word", "place", "step"] ["web", "equals", "way", "steps"] (defScope s_stepped) := ⟨rfl, rfl, rfl, by decide +kernel, rfl, by decide +kernel, by decide +kernel⟩
def w_stepped : WS := (wSeq (wDrop (wFn W_ways (waCons (wVarD 0) waNil))) (wSeq (wIfS (wTst (wTyIs "tuple" true (wVar 3))) wNever wNil) (wSeq (wSetD 4 (w2 fIx (wVar 2) (wC (.int 1)))) (wSeq (wFor (wiE (wVarD 3)) (bTup (bCons (bName 5) (bCons (bName 6) bNil))) (wSeq (wSetD 4 (wFn W_word_behind (waCons (wVarD 1) (waCons (wVarD 4) (waCons (wVarD 6) waNil))))) (wIfS (wTst (wIsN false (wVar 4))) wNever wNil))) (wRet (wTup (waCons (w2 fIx (wVar 2) (wC (.int 0))) (waCons (wVarD 4) waNil))))))))
theorem der_stepped (T : Txt K mg) (G_ways : FnOk P w K mg base CX0 3 T.f_ways T.fd_ways ["web"] (spD K W_ways)) (G_word_behind : FnOk P w K mg base CX0 2 T.f_word_behind T.fd_word_behind ["equals", "word", "step"] (spD K W_word_behind)) : ∀ (cdv : Value) (A : Around) (outer : List Env) (s : Shared) (H : Hp) (E : XK), Room 3 (A.deeper (envOfC "stepped" (defScope s_stepped) s.heap.objs.size T.f_stepped cdv)) → PSs (cxOf CX0 P w K mg base ["web", "equals", "way", "steps", "word", "place", "step"] "stepped" (defScope s_stepped) T.f_stepped cdv A outer s H E).nox (defBody s_stepped) (tSt K (w_stepped)) :=
  fun cdv A outer s H E hr => have hu := hr.units; have hu5 := units65 hr; (pssCons (psDrop (ps_expr (pFn G_ways (hr.mono (by decide)) (by rfl) T.g_ways T.F_ways.kp T.b_ways (paC (pnD (pv 0)) paN)))) (pssCons (psIf (ptTyNot (by rfl) T.m_type (by rfl) T.m_tuple boot_tuple (pnB (pv 3))) (pssOne psNever) pssNil) (pssCons (psSetD (ps_set (i := 4) sc_stepped.nd rfl (by first | exact Or.inl rfl | exact Or.inr rfl) (pIx (pnB (pv 2)) (pb (pcI pe_int))))) (pssCons (psFor PassesOwn.never rfl (piEnum (by rfl) T.m_enumerate (pnD (pv 3))) (pgTup rfl (pgCons (pgName (pg_name (i := 5) sc_stepped.nd rfl (by first | exact Or.inl rfl | exact Or.inr rfl))) (pgCons (pgName (pg_name (i := 6) sc_stepped.nd rfl (by first | exact Or.inl rfl | exact Or.inr rfl))) pgNil)) rfl rfl (bCons_len (bCons_len bNil_len))) (pssCons (psSetD (ps_set (i := 4) sc_stepped.nd rfl (by first | exact Or.inl rfl | exact Or.inr rfl) (pFn G_word_behind (hr.mono (by decide)) (by rfl) T.g_word_behind T.F_word_behind.kp T.b_word_behind (paC (pnD (pv 1)) (paC (pnD (pv 4)) (paC (pnD (pv 6)) paN)))))) (pssOne (psIf (ptIsN (pnB (pv 4))) (pssOne psNever) pssNil)))) (pssOne (psRet (pb (pTup (paC (pIx (pnB (pv 2)) (pb (pcI pe_int))) (paC (pnD (pv 4)) paN))))))))))

theorem sc__law_begun : FnScope ["script", "k", "cells", "great", "seed", "cell"] ["script", "k"] (defScope s__law_begun) := ⟨rfl, rfl, rfl, by decide +kernel, rfl, by decide +kernel, by decide +kernel⟩
def w__law_begun : WS := (wSeq (wSetD 2 (w2 fAdd (wSlS (wVarD 0) (woS (wVarD 1)) woN) (wSlS (wVarD 0) woN (woS (wVarD 1))))) (wSeq (wSetD 3 (wfD (wLc (wi1 (wVarD 2)) (bName 5) (wTst (w2 fGe (wVar 5) (w2 fPow (wC (.int 10)) (wC (.int 18))))) (wVarD 5) [5]))) (wSeq (wSetD 4 (w2 fAdd (wC (.int 71)) (wVar 1))) (wSeq (wFor (wi1 (wVarD 2)) (bName 5) (wSetD 4 (w2 fMod (wCall fInt (waCons (w2 fAdd (w2 fMul (wVar 4) (wC (.int 48271))) (wVar 5)) waNil)) (wC (.int 2147483647))))) (wRet (wMk (wIf (wTst (w2 (fEq true) (wVar 3) (wfD (wLst waNil)))) (w2 fIx (wVar 3) (wC (.int 0))) (wC (.int 0))) (wVarD 4) (w2 fAdd (wVar 2) (wfD (wLst (waCons (w2 fAdd (w2 fMul (wC (.int 53)) (wVar 1)) (wC (.int 11))) waNil))))))))))
theorem der__law_begun (T : Txt K mg) : ∀ (cdv : Value) (A : Around) (outer : List Env) (s : Shared) (H : Hp) (E : XK), Room 0 (A.deeper (envOfC "_law_begun" (defScope s__law_begun) s.heap.objs.size T.f__law_begun cdv)) → PSs (cxOf CX0 P w K mg base ["script", "k", "cells", "great", "seed", "cell"] "_law_begun" (defScope s__law_begun) T.f__law_begun cdv A outer s H E).nox (defBody s__law_begun) (tSt K (w__law_begun)) :=
  fun cdv A outer s H E hr => have hu := hr.units; have hu5 := units65 hr; (pssCons (psSetD (ps_set (i := 2) sc__law_begun.nd rfl (by first | exact Or.inl rfl | exact Or.inr rfl) (pBin op_addD od_add (pb (pSlS (pnD (pv 0)) (poS (pnD (pv 1))) poN)) (pb (pSlS (pnD (pv 0)) poN (poS (pnD (pv 1)))))))) (pssCons (psSetFD (i := 3) (psSetLc (own := [("cell", 5)]) sc__law_begun.nd rfl rfl (sw_true rfl rfl rfl (by kernel_rfl)) rfl (piSeq (pnD (pv 2))) (blkOk_by (by kernel_rfl)) (fun _ _ _ _ _ => (pgName (pg_name (i := 5) sc__law_begun.nd rfl (by first | exact Or.inl rfl | exact Or.inr rfl)))) (fun _ _ _ _ _ => (ptsO (pTc op_ge od_B0 (pnB (pv 5)) (pb (pBin op_pow od_II (pb (pcI pe_int)) (pb (pcI pe_int)))) (nomark _)))) (fun _ _ _ _ _ => (pnD (pv 5))) (by decide))) (pssCons (psSetD (ps_set (i := 4) sc__law_begun.nd rfl (by first | exact Or.inl rfl | exact Or.inr rfl) (pBin op_addD od_add (pb (pcI pe_int)) (pnB (pv 1))))) (pssCons (psFor PassesOwn.never rfl (piSeq (pnD (pv 2))) (pgName (pg_name (i := 5) sc__law_begun.nd rfl (by first | exact Or.inl rfl | exact Or.inr rfl))) (pssOne (psSetD (ps_set (i := 4) sc__law_begun.nd rfl (by first | exact Or.inl rfl | exact Or.inr rfl) (pBin op_mod od_II (pb (pT1 call_int1 cd_int (by rfl) T.m_int boot_int (pb (pBin op_addD od_add (pb (pBin op_mulD od_mul (pnB (pv 4)) (pb (pcI pe_int)))) (pnB (pv 5)))))) (pb (pcI pe_int))))))) (pssOne (psRet (pb (pMk pe_str pe_str pe_str pe_str (pIf (pTc (op_neD hu) od_ne (pnB (pv 3)) (pb (pf (pLstF paN))) (nomark _)) (pIx (pnB (pv 3)) (pb (pcI pe_int))) (pcI pe_int)) (pnD (pv 4)) (pBin op_addD od_add (pnB (pv 2)) (pb (pf (pLstF (paC (pBin op_addD od_add (pb (pBin op_mulD od_mul (pb (pcI pe_int)) (pnB (pv 1)))) (pb (pcI pe_int))) paN))))) pe_int))))))))

theorem sc__law_draw : FnScope ["m", "bound", "spot", "cell", "blend", "found", "cells", "extra"] ["m", "bound"] (defScope s__law_draw) := ⟨rfl, rfl, rfl, by decide +kernel, rfl, by decide +kernel, by decide +kernel⟩
def w__law_draw : WS := (wSeq (wIfS (wTst (w2 fGt (wMLeft 0) (wC (.int 0)))) (wSeq (wSetD 5 (w2 fMod (wCall fInt (waCons (wMLeft 0) waNil)) (wVar 1))) (wSeq (wPutLeft 0 (w2 fDiv (wMLeft 0) (wVar 1))) (wRet (wVar 5)))) wNil) (wSeq (wSetD 2 (wMSpot 0)) (wSeq (wPutSpot 0 (w2 fAdd (wVar 2) (wC (.int 1)))) (wSeq (wPar 6 7 (waCons (wMCells 0) (waCons (w2 fAdd (wMSeed 0) (w2 fMul (w2 fMul (wC (.int 40503)) (wVar 2)) (wVar 2))) waNil))) (wSeq (wSetD 3 (w2 fIx (wVar 6) (w2 fMod (wCall fInt (waCons (wVar 2) waNil)) (wCall fLen (waCons (wVar 6) waNil))))) (wSeq (wSetD 4 (w2 fMod (wCall fInt (waCons (w2 fAdd (w2 fMul (wVar 3) (w2 fAdd (w2 fMul (wC (.int 2)) (wVar 2)) (wC (.int 3)))) (wVar 7)) waNil)) (wC (.int 2147483647)))) (wSeq (wSetD 4 (w2 fMod (wCall fInt (waCons (w2 fAdd (w2 fAdd (w2 fMul (wVar 4) (wVar 4)) (w2 fMul (wC (.int 69621)) (wVar 2))) (wMSeed 0)) waNil)) (wC (.int 2147483629)))) (wRet (w2 fMod (w2 fDiv (w2 fMod (wCall fInt (waCons (w2 fAdd (w2 fMul (wVar 4) (wC (.int 48271))) (wVar 2)) waNil)) (wC (.int 2147483647))) (wC (.int 11))) (wVar 1))))))))))
theorem der__law_draw (T : Txt K mg) : ∀ (cdv : Value) (A : Around) (outer : List Env) (s : Shared) (H : Hp) (E : XK), Room 0 (A.deeper (envOfC "_law_draw" (defScope s__law_draw) s.heap.objs.size T.f__law_draw cdv)) → PSs (cxOf CX0 P w K mg base ["m", "bound", "spot", "cell", "blend", "found", "cells", "extra"] "_law_draw" (defScope s__law_draw) T.f__law_draw cdv A outer s H E).nox (defBody s__law_draw) (tSt K (w__law_draw)) :=
  fun cdv A outer s H E hr => have hu := hr.units; have hu5 := units65 hr; (pssCons (psIf (pTc op_gt od_B0 (pb (pMLeft hu5 (pv 0) pe_str)) (pb (pcI pe_int)) (nomark _)) (pssCons (psSetD (ps_set (i := 5) sc__law_draw.nd rfl (by first | exact Or.inl rfl | exact Or.inr rfl) (pBin op_mod od_II (pb (pT1 call_int1 cd_int (by rfl) T.m_int boot_int (pb (pMLeft hu5 (pv 0) pe_str)))) (pnB (pv 1))))) (pssCons (psPutLeft hu5 (pv 0) pe_str (pBin op_fdiv od_II (pb (pMLeft hu5 (pv 0) pe_str)) (pnB (pv 1)))) (pssOne (psRet (pnB (pv 5)))))) pssNil) (pssCons (psSetD (ps_set (i := 2) sc__law_draw.nd rfl (by first | exact Or.inl rfl | exact Or.inr rfl) (pMSpot hu5 (pv 0) pe_str))) (pssCons (psPutSpot hu5 (pv 0) pe_str (pBin op_addD od_add (pnB (pv 2)) (pb (pcI pe_int)))) (pssCons (psPar (ps_par (i := 6) (j := 7) rfl sc__law_draw.nd rfl rfl (by decide) rfl rfl (paC (pMCells hu5 (pv 0) pe_str) (paC (pBin op_addD od_add (pb (pMSeed hu5 (pv 0) pe_str)) (pb (pBin op_mulD od_mul (pb (pBin op_mulD od_mul (pb (pcI pe_int)) (pnB (pv 2)))) (pnB (pv 2))))) paN)) (by rfl))) (pssCons (psSetD (ps_set (i := 3) sc__law_draw.nd rfl (by first | exact Or.inl rfl | exact Or.inr rfl) (pIx (pnB (pv 6)) (pb (pBin op_mod od_II (pb (pT1 call_int1 cd_int (by rfl) T.m_int boot_int (pnB (pv 2)))) (pb (pLen rfl (by rfl) T.m_len (pnB (pv 6))))))))) (pssCons (psSetD (ps_set (i := 4) sc__law_draw.nd rfl (by first | exact Or.inl rfl | exact Or.inr rfl) (pBin op_mod od_II (pb (pT1 call_int1 cd_int (by rfl) T.m_int boot_int (pb (pBin op_addD od_add (pb (pBin op_mulD od_mul (pnB (pv 3)) (pb (pBin op_addD od_add (pb (pBin op_mulD od_mul (pb (pcI pe_int)) (pnB (pv 2)))) (pb (pcI pe_int)))))) (pnB (pv 7)))))) (pb (pcI pe_int))))) (pssCons (psSetD (ps_set (i := 4) sc__law_draw.nd rfl (by first | exact Or.inl rfl | exact Or.inr rfl) (pBin op_mod od_II (pb (pT1 call_int1 cd_int (by rfl) T.m_int boot_int (pb (pBin op_addD od_add (pb (pBin op_addD od_add (pb (pBin op_mulD od_mul (pnB (pv 4)) (pnB (pv 4)))) (pb (pBin op_mulD od_mul (pb (pcI pe_int)) (pnB (pv 2)))))) (pb (pMSeed hu5 (pv 0) pe_str)))))) (pb (pcI pe_int))))) (pssOne (psRet (pb (pBin op_mod od_II (pb (pBin op_fdiv od_II (pb (pBin op_mod od_II (pb (pT1 call_int1 cd_int (by rfl) T.m_int boot_int (pb (pBin op_addD od_add (pb (pBin op_mulD od_mul (pnB (pv 4)) (pb (pcI pe_int)))) (pnB (pv 2)))))) (pb (pcI pe_int)))) (pb (pcI pe_int)))) (pnB (pv 1)))))))))))))

theorem sc__law_of : FnScope ["m", "some"] ["m", "some"] (defScope s__law_of) := ⟨rfl, rfl, rfl, by decide +kernel, rfl, by decide +kernel, by decide +kernel⟩
def w__law_of : WS := (wRet (w2 fIx (wVar 1) (wFn W__law_draw (waCons (wVarD 0) (waCons (wCall fLen (waCons (wVar 1) waNil)) waNil)))))
theorem der__law_of (T : Txt K mg) (G__law_draw : FnOk P w K mg base CX0 1 T.f__law_draw T.fd__law_draw ["m", "bound"] (spD K W__law_draw)) : ∀ (cdv : Value) (A : Around) (outer : List Env) (s : Shared) (H : Hp) (E : XK), Room 1 (A.deeper (envOfC "_law_of" (defScope s__law_of) s.heap.objs.size T.f__law_of cdv)) → PSs (cxOf CX0 P w K mg base ["m", "some"] "_law_of" (defScope s__law_of) T.f__law_of cdv A outer s H E).nox (defBody s__law_of) (tSt K (w__law_of)) :=
  fun cdv A outer s H E hr => have hu := hr.units; have hu5 := units65 hr; (pssOne (psRet (pb (pIx (pnB (pv 1)) (pb (pFn G__law_draw (hr.mono (by decide)) (by rfl) T.g__law_draw T.F__law_draw.kp T.b__law_draw (paC (pnD (pv 0)) (paC (pLen rfl (by rfl) T.m_len (pnB (pv 1))) paN))))))))

theorem sc__law_like : FnScope ["got", "due"] ["got", "due"] (defScope s__law_like) := ⟨rfl, rfl, rfl, by decide +kernel, rfl, by decide +kernel, by decide +kernel⟩
def w__law_like : WS := (wRet (w2 fEqS (wCall fRepr (waCons (wVar 0) waNil)) (wCall fRepr (waCons (wVar 1) waNil))))
theorem der__law_like (T : Txt K mg) : ∀ (cdv : Value) (A : Around) (outer : List Env) (s : Shared) (H : Hp) (E : XK), (A.deeper (envOfC "_law_like" (defScope s__law_like) s.heap.objs.size T.f__law_like cdv)).guards = some [] → Room 0 (A.deeper (envOfC "_law_like" (defScope s__law_like) s.heap.objs.size T.f__law_like cdv)) → PSs (cxOf CX0 P w K mg base ["got", "due"] "_law_like" (defScope s__law_like) T.f__law_like cdv A outer s H E).nox (defBody s__law_like) (tSt K (w__law_like)) :=
  fun cdv A outer s H E hG hr => have hu := hr.units; have hu5 := units65 hr; (pssOne (psRet (pb (pCmp op_eq od_eqS (pb (pRepr rfl hG hu5 (by rfl) T.m_repr (pnB (pv 0)))) (pb (pRepr rfl hG hu5 (by rfl) T.m_repr (pnB (pv 1)))) (nomark _)))))

theorem sc__law_web : FnScope ["m", "size", "most", "step", "n", "found", "x"] ["m", "size", "most"] (defScope s__law_web) := ⟨rfl, rfl, rfl, by decide +kernel, rfl, by decide +kernel, by decide +kernel⟩
def w__law_web : WS := (wSeq (wOw [4, 5] (woDat (wFn W__law_draw (waCons (wVarD 0) (waCons (w2 fAdd (wVar 1) (wC (.int 1))) waNil))) (woLst (wLst waNil) woNil))) (wSeq (wFor (wiR1 (wIf (wTst (w2 fGt (wVar 4) (wC (.int 1)))) (wFn W__law_draw (waCons (wVarD 0) (waCons (w2 fAdd (wVar 2) (wC (.int 1))) waNil))) (wC (.int 0)))) (bName 3) (wSeq (wSetD 6 (wFn W__law_draw (waCons (wVarD 0) (waCons (w2 fSub (wVar 4) (wC (.int 1))) waNil)))) (wApp 5 (wTup (waCons (wVarD 6) (waCons (w2 fAdd (w2 fAdd (wVar 6) (wC (.int 1))) (wFn W__law_draw (waCons (wVarD 0) (waCons (wCall fMin2 (waCons (wC (.int 2)) (waCons (w2 fSub (w2 fSub (wVar 4) (wC (.int 1))) (wVar 6)) waNil))) waNil)))) waNil)))))) (wRet (wTup (waCons (wVarD 4) (waCons (wCall fTupOf (waCons (wVar 5) waNil)) waNil))))))
theorem der__law_web (T : Txt K mg) (G__law_draw : FnOk P w K mg base CX0 1 T.f__law_draw T.fd__law_draw ["m", "bound"] (spD K W__law_draw)) : ∀ (cdv : Value) (A : Around) (outer : List Env) (s : Shared) (H : Hp) (E : XK), Room 1 (A.deeper (envOfC "_law_web" (defScope s__law_web) s.heap.objs.size T.f__law_web cdv)) → PSs (cxOf CX0 P w K mg base ["m", "size", "most", "step", "n", "found", "x"] "_law_web" (defScope s__law_web) T.f__law_web cdv A outer s H E).nox (defBody s__law_web) (tSt K (w__law_web)) :=
  fun cdv A outer s H E hr => have hu := hr.units; have hu5 := units65 hr; (pssCons (psOw2 (ps_par (i := 4) (j := 5) rfl sc__law_web.nd rfl rfl (by decide) rfl rfl (poDat (pFn G__law_draw (hr.mono (by decide)) (by rfl) T.g__law_draw T.F__law_draw.kp T.b__law_draw (paC (pnD (pv 0)) (paC (pBin op_addD od_add (pnB (pv 1)) (pb (pcI pe_int))) paN))) (poLst (pLstF paN) poNil)) (by rfl))) (pssCons (psFor PassesOwn.never rfl (piRg1 (by rfl) T.m_range (pIf (pTc op_gt od_B0 (pnB (pv 4)) (pb (pcI pe_int)) (nomark _)) (pFn G__law_draw (hr.mono (by decide)) (by rfl) T.g__law_draw T.F__law_draw.kp T.b__law_draw (paC (pnD (pv 0)) (paC (pBin op_addD od_add (pnB (pv 2)) (pb (pcI pe_int))) paN))) (pcI pe_int))) (pgName (pg_name (i := 3) sc__law_web.nd rfl (by first | exact Or.inl rfl | exact Or.inr rfl))) (pssCons (psSetD (ps_set (i := 6) sc__law_web.nd rfl (by first | exact Or.inl rfl | exact Or.inr rfl) (pFn G__law_draw (hr.mono (by decide)) (by rfl) T.g__law_draw T.F__law_draw.kp T.b__law_draw (paC (pnD (pv 0)) (paC (pBin op_sub od_I0 (pnB (pv 4)) (pb (pcI pe_int))) paN))))) (pssOne (psApp (i := 5) (ps_expr (pe_bm PySem.F.plainAttrs_list PySem.F.slot_list_append PySem.F.type_list_append mt_append (pv 5) (pa_cons (pTup (paC (pnD (pv 6)) (paC (pBin op_addD od_add (pb (pBin op_addD od_add (pnB (pv 6)) (pb (pcI pe_int)))) (pb (pFn G__law_draw (hr.mono (by decide)) (by rfl) T.g__law_draw T.F__law_draw.kp T.b__law_draw (paC (pnD (pv 0)) (paC (pB2 (call_min2 rfl) cd_min2 (by rfl) T.m_min boot_min (pb (pcI pe_int)) (pb (pBin op_sub od_I0 (pb (pBin op_sub od_I0 (pnB (pv 4)) (pb (pcI pe_int)))) (pnB (pv 6))))) paN))))) paN))) pa_nil))))))) (pssOne (psRet (pb (pTup (paC (pnD (pv 4)) (paC (pT1 call_tuple_of cd_tup (by rfl) T.m_tuple boot_tuple (pnB (pv 5))) paN))))))))

theorem sc__law_ways : FnScope ["web", "found", "at", "n", "roads", "x", "later", "y", "size", "word", "k", "road", "z"] ["web"] (defScope s__law_ways) := ⟨rfl, rfl, rfl, by decide +kernel, rfl, by decide +kernel, by decide +kernel⟩
def w__law_ways : WS := (wSeq (wUnp (bTup (bCons (bName 3) (bCons (bName 4) bNil))) (wVarD 0)) (wSeq (wSetF 1 (wLc (wiR1 (wVarD 3)) (bName 5) wTy (wTup (waCons (wVarD 5) (waCons (wVarD 5) (waCons (wC (.int 0)) (waCons (wTup waNil) waNil))))) [5])) (wSeq (wFor (wiR1 (wC (.int 400))) (bName 2) (wIfS (wTst (w2 fLt (wVar 2) (wCall fLen (waCons (wVar 1) waNil)))) (wSeq (wUnp (bTup (bCons (bName 5) (bCons (bName 7) (bCons (bName 8) (bCons (bName 9) bNil))))) (w2 fIx (wVar 1) (wVar 2))) (wSeq (wSetD 6 (wfD (wLc (wiE (wVarD 4)) (bTup (bCons (bName 10) (bCons (bName 11) bNil))) (wTst (w2 (fEq false) (w2 fIx (wVar 11) (wC (.int 0))) (wVar 7))) (wTup (waCons (wVarD 10) (waCons (w2 fIx (wVar 11) (wC (.int 1))) waNil))) [10, 11]))) (wExt 1 (wfD (wLc (wi1 (wVarD 6)) (bTup (bCons (bName 10) (bCons (bName 12) bNil))) wTy (wTup (waCons (wVarD 5) (waCons (wVarD 12) (waCons (w2 fAdd (wVar 8) (wC (.int 1))) (waCons (w2 fAdd (wVar 9) (wTup (waCons (wVarD 10) waNil))) waNil))))) [10, 12]))))) wNil)) (wRet (wfD (wSort (wVar 1)))))))
theorem der__law_ways (T : Txt K mg) : ∀ (cdv : Value) (A : Around) (outer : List Env) (s : Shared) (H : Hp) (E : XK), Room 0 (A.deeper (envOfC "_law_ways" (defScope s__law_ways) s.heap.objs.size T.f__law_ways cdv)) → PSs (cxOf CX0 P w K mg base ["web", "found", "at", "n", "roads", "x", "later", "y", "size", "word", "k", "road", "z"] "_law_ways" (defScope s__law_ways) T.f__law_ways cdv A outer s H E).nox (defBody s__law_ways) (tSt K (w__law_ways)) :=
  fun cdv A outer s H E hr => have hu := hr.units; have hu5 := units65 hr; (pssCons (psUnp (ps_asg (pnD (pv 0)) (pgTup rfl (pgCons (pgName (pg_name (i := 3) sc__law_ways.nd rfl (by first | exact Or.inl rfl | exact Or.inr rfl))) (pgCons (pgName (pg_name (i := 4) sc__law_ways.nd rfl (by first | exact Or.inl rfl | exact Or.inr rfl))) pgNil)) rfl rfl (bCons_len (bCons_len bNil_len))))) (pssCons (psSetF (i := 1) (psSetLc (own := [("x", 5)]) sc__law_ways.nd rfl rfl (sw_true rfl rfl rfl (by kernel_rfl)) rfl (piRg1 (by rfl) T.m_range (pnD (pv 3))) (blkOk_by (by kernel_rfl)) (fun _ _ _ _ _ => (pgName (pg_name (i := 5) sc__law_ways.nd rfl (by first | exact Or.inl rfl | exact Or.inr rfl)))) (fun _ _ _ _ _ => ptsN) (fun _ _ _ _ _ => (pTup (paC (pnD (pv 5)) (paC (pnD (pv 5)) (paC (pcI pe_int) (paC (pTup paN) paN)))))) (by decide))) (pssCons (psFor PassesOwn.never rfl (piRg1 (by rfl) T.m_range (pcI pe_int)) (pgName (pg_name (i := 2) sc__law_ways.nd rfl (by first | exact Or.inl rfl | exact Or.inr rfl))) (pssOne (psIf (pTc op_lt od_B0 (pnB (pv 2)) (pb (pLen rfl (by rfl) T.m_len (pnB (pv 1)))) (nomark _)) (pssCons (psUnp (ps_asg (pIx (pnB (pv 1)) (pnB (pv 2))) (pgTup rfl (pgCons (pgName (pg_name (i := 5) sc__law_ways.nd rfl (by first | exact Or.inl rfl | exact Or.inr rfl))) (pgCons (pgName (pg_name (i := 7) sc__law_ways.nd rfl (by first | exact Or.inl rfl | exact Or.inr rfl))) (pgCons (pgName (pg_name (i := 8) sc__law_ways.nd rfl (by first | exact Or.inl rfl | exact Or.inr rfl))) (pgCons (pgName (pg_name (i := 9) sc__law_ways.nd rfl (by first | exact Or.inl rfl | exact Or.inr rfl))) pgNil)))) rfl rfl (bCons_len (bCons_len (bCons_len (bCons_len bNil_len))))))) (pssCons (psSetFD (i := 6) (psSetLc (own := [("k", 10), ("road", 11)]) sc__law_ways.nd rfl rfl (sw_true rfl rfl rfl (by kernel_rfl)) rfl (piEnum (by rfl) T.m_enumerate (pnD (pv 4))) (blkOk_by (by kernel_rfl)) (fun _ _ _ _ _ => (pgTup rfl (pgCons (pgName (pg_name (i := 10) sc__law_ways.nd rfl (by first | exact Or.inl rfl | exact Or.inr rfl))) (pgCons (pgName (pg_name (i := 11) sc__law_ways.nd rfl (by first | exact Or.inl rfl | exact Or.inr rfl))) pgNil)) rfl rfl (bCons_len (bCons_len bNil_len)))) (fun _ _ _ _ _ => (ptsO (pTc (op_eqD hu) od_eq (pb (pIx (pnB (pv 11)) (pb (pcI pe_int)))) (pnB (pv 7)) (nomark _)))) (fun _ _ _ _ _ => (pTup (paC (pnD (pv 10)) (paC (pIx (pnB (pv 11)) (pb (pcI pe_int))) paN)))) (by decide))) (pssOne (psExt (i := 1) (ps_expr (pe_bm PySem.F.plainAttrs_list PySem.F.slot_list_extend PySem.F.type_list_extend mt_extend (pv 1) (pa_cons (pf (pLc (own := [("k", 10), ("z", 12)]) rfl sc__law_ways.nd (piSeq (pnD (pv 6))) (blkOk_by (by kernel_rfl)) (fun _ _ _ _ _ => (pgTup rfl (pgCons (pgName (pg_name (i := 10) sc__law_ways.nd rfl (by first | exact Or.inl rfl | exact Or.inr rfl))) (pgCons (pgName (pg_name (i := 12) sc__law_ways.nd rfl (by first | exact Or.inl rfl | exact Or.inr rfl))) pgNil)) rfl rfl (bCons_len (bCons_len bNil_len)))) (fun _ _ _ _ _ => ptsN) (fun _ _ _ _ _ => (pTup (paC (pnD (pv 5)) (paC (pnD (pv 12)) (paC (pBin op_addD od_add (pnB (pv 8)) (pb (pcI pe_int))) (paC (pBin op_addD od_add (pnB (pv 9)) (pb (pTup (paC (pnD (pv 10)) paN)))) paN)))))) (by decide))) pa_nil))))))) pssNil))) (pssOne (psRet (pb (pf (pSort rfl hu5 (by rfl) T.m_sorted (pnB (pv 1))))))))))

theorem sc__law_small_web : FnScope ["m", "size", "most", "limit", "step", "web"] ["m", "size", "most", "limit"] (defScope s__law_small_web) := ⟨rfl, rfl, rfl, by decide +kernel, rfl, by decide +kernel, by decide +kernel⟩
def w__law_small_web : WS := (wSeq (wFor (wiR1 (wC (.int 8))) (bName 4) (wSeq (wSetD 5 (wFn W__law_web (waCons (wVarD 0) (waCons (wVarD 1) (waCons (wVarD 2) waNil))))) (wIfS (wTst (w2 fLe (wCall fLen (waCons (wFn W__law_ways (waCons (wVarD 5) waNil)) waNil)) (wVar 3))) (wRet (wVar 5)) wNil))) (wRet (wTup (waCons (wC (.int 3)) (waCons (wTup (waCons (wTup (waCons (wC (.int 0)) (waCons (wC (.int 1)) waNil))) (waCons (wTup (waCons (wC (.int 1)) (waCons (wC (.int 2)) waNil))) (waCons (wTup (waCons (wC (.int 0)) (waCons (wC (.int 2)) waNil))) waNil)))) waNil)))))
theorem der__law_small_web (T : Txt K mg) (G__law_ways : FnOk P w K mg base CX0 1 T.f__law_ways T.fd__law_ways ["web"] (spD K W__law_ways)) (G__law_web : FnOk P w K mg base CX0 2 T.f__law_web T.fd__law_web ["m", "size", "most"] (spD K W__law_web)) : ∀ (cdv : Value) (A : Around) (outer : List Env) (s : Shared) (H : Hp) (E : XK), Room 2 (A.deeper (envOfC "_law_small_web" (defScope s__law_small_web) s.heap.objs.size T.f__law_small_web cdv)) → PSs (cxOf CX0 P w K mg base ["m", "size", "most", "limit", "step", "web"] "_law_small_web" (defScope s__law_small_web) T.f__law_small_web cdv A outer s H E).nox (defBody s__law_small_web) (tSt K (w__law_small_web)) :=
  fun cdv A outer s H E hr => have hu := hr.units; have hu5 := units65 hr; (pssCons (psFor PassesOwn.never rfl (piRg1 (by rfl) T.m_range (pcI pe_int)) (pgName (pg_name (i := 4) sc__law_small_web.nd rfl (by first | exact Or.inl rfl | exact Or.inr rfl))) (pssCons (psSetD (ps_set (i := 5) sc__law_small_web.nd rfl (by first | exact Or.inl rfl | exact Or.inr rfl) (pFn G__law_web (hr.mono (by decide)) (by rfl) T.g__law_web T.F__law_web.kp T.b__law_web (paC (pnD (pv 0)) (paC (pnD (pv 1)) (paC (pnD (pv 2)) paN)))))) (pssOne (psIf (pTc op_le od_B0 (pb (pLen rfl (by rfl) T.m_len (pb (pFn G__law_ways (hr.mono (by decide)) (by rfl) T.g__law_ways T.F__law_ways.kp T.b__law_ways (paC (pnD (pv 5)) paN))))) (pnB (pv 3)) (nomark _)) (pssOne (psRet (pnB (pv 5)))) pssNil)))) (pssOne (psRet (pb (pTup (paC (pcI pe_int) (paC (pTup (paC (pTup (paC (pcI pe_int) (paC (pcI pe_int) paN))) (paC (pTup (paC (pcI pe_int) (paC (pcI pe_int) paN))) (paC (pTup (paC (pcI pe_int) (paC (pcI pe_int) paN))) paN)))) paN)))))))

theorem sc__law_equals : FnScope ["m", "web", "most", "step", "some", "found", "one", "others", "way"] ["m", "web", "most"] (defScope s__law_equals) := ⟨rfl, rfl, rfl, by decide +kernel, rfl, by decide +kernel, by decide +kernel⟩
def w__law_equals : WS := (wSeq (wOw [4, 5] (woDat (wfD (wLc (wi1 (wFn W__law_ways (waCons (wVarD 1) waNil))) (bName 8) (wTst (w2 fGt (w2 fIx (wVar 8) (wC (.int 2))) (wC (.int 0)))) (wVarD 8) [8])) (woLst (wLst waNil) woNil))) (wSeq (wFor (wiR1 (wIf (wTst (w2 (fEq true) (wVar 4) (wfD (wLst waNil)))) (wFn W__law_draw (waCons (wVarD 0) (waCons (w2 fAdd (wVar 2) (wC (.int 1))) waNil))) (wC (.int 0)))) (bName 3) (wSeq (wSetD 6 (wFn W__law_of (waCons (wVarD 0) (waCons (wVarD 4) waNil)))) (wSeq (wSetD 7 (wfD (wLc (wi1 (wVarD 4)) (bName 8) (wTst (w2 (fEq false) (wSl (wVar 8) woN (woS (wC (.int 2)))) (wSl (wVar 6) woN (woS (wC (.int 2)))))) (wVarD 8) [8]))) (wApp 5 (wTup (waCons (w2 fIx (wVar 6) (wC (.int 3))) (waCons (w2 fIx (wFn W__law_of (waCons (wVarD 0) (waCons (wVarD 7) waNil))) (wC (.int 3))) waNil))))))) (wRet (wCall fTupOf (waCons (wVar 5) waNil)))))
theorem der__law_equals (T : Txt K mg) (G__law_draw : FnOk P w K mg base CX0 1 T.f__law_draw T.fd__law_draw ["m", "bound"] (spD K W__law_draw)) (G__law_of : FnOk P w K mg base CX0 2 T.f__law_of T.fd__law_of ["m", "some"] (spD K W__law_of)) (G__law_ways : FnOk P w K mg base CX0 1 T.f__law_ways T.fd__law_ways ["web"] (spD K W__law_ways)) : ∀ (cdv : Value) (A : Around) (outer : List Env) (s : Shared) (H : Hp) (E : XK), Room 2 (A.deeper (envOfC "_law_equals" (defScope s__law_equals) s.heap.objs.size T.f__law_equals cdv)) → PSs (cxOf CX0 P w K mg base ["m", "web", "most", "step", "some", "found", "one", "others", "way"] "_law_equals" (defScope s__law_equals) T.f__law_equals cdv A outer s H E).nox (defBody s__law_equals) (tSt K (w__law_equals)) :=
  fun cdv A outer s H E hr => have hu := hr.units; have hu5 := units65 hr; (pssCons (psOw2 (ps_par (i := 4) (j := 5) rfl sc__law_equals.nd rfl rfl (by decide) rfl rfl (poDat (pf (pLc (own := [("way", 8)]) rfl sc__law_equals.nd (piSeq (pFn G__law_ways (hr.mono (by decide)) (by rfl) T.g__law_ways T.F__law_ways.kp T.b__law_ways (paC (pnD (pv 1)) paN))) (blkOk_by (by kernel_rfl)) (fun _ _ _ _ _ => (pgName (pg_name (i := 8) sc__law_equals.nd rfl (by first | exact Or.inl rfl | exact Or.inr rfl)))) (fun _ _ _ _ _ => (ptsO (pTc op_gt od_B0 (pb (pIx (pnB (pv 8)) (pb (pcI pe_int)))) (pb (pcI pe_int)) (nomark _)))) (fun _ _ _ _ _ => (pnD (pv 8))) (by decide))) (poLst (pLstF paN) poNil)) (by rfl))) (pssCons (psFor PassesOwn.never rfl (piRg1 (by rfl) T.m_range (pIf (pTc (op_neD hu) od_ne (pnB (pv 4)) (pb (pf (pLstF paN))) (nomark _)) (pFn G__law_draw (hr.mono (by decide)) (by rfl) T.g__law_draw T.F__law_draw.kp T.b__law_draw (paC (pnD (pv 0)) (paC (pBin op_addD od_add (pnB (pv 2)) (pb (pcI pe_int))) paN))) (pcI pe_int))) (pgName (pg_name (i := 3) sc__law_equals.nd rfl (by first | exact Or.inl rfl | exact Or.inr rfl))) (pssCons (psSetD (ps_set (i := 6) sc__law_equals.nd rfl (by first | exact Or.inl rfl | exact Or.inr rfl) (pFn G__law_of (hr.mono (by decide)) (by rfl) T.g__law_of T.F__law_of.kp T.b__law_of (paC (pnD (pv 0)) (paC (pnD (pv 4)) paN))))) (pssCons (psSetFD (i := 7) (psSetLc (own := [("way", 8)]) sc__law_equals.nd rfl rfl (sw_true rfl rfl rfl (by kernel_rfl)) rfl (piSeq (pnD (pv 4))) (blkOk_by (by kernel_rfl)) (fun _ _ _ _ _ => (pgName (pg_name (i := 8) sc__law_equals.nd rfl (by first | exact Or.inl rfl | exact Or.inr rfl)))) (fun _ _ _ _ _ => (ptsO (pTc (op_eqD hu) od_eq (pb (pSl (pnB (pv 8)) poN (poS (pcI pe_int)))) (pb (pSl (pnB (pv 6)) poN (poS (pcI pe_int)))) (nomark _)))) (fun _ _ _ _ _ => (pnD (pv 8))) (by decide))) (pssOne (psApp (i := 5) (ps_expr (pe_bm PySem.F.plainAttrs_list PySem.F.slot_list_append PySem.F.type_list_append mt_append (pv 5) (pa_cons (pTup (paC (pIx (pnB (pv 6)) (pb (pcI pe_int))) (paC (pIx (pb (pFn G__law_of (hr.mono (by decide)) (by rfl) T.g__law_of T.F__law_of.kp T.b__law_of (paC (pnD (pv 0)) (paC (pnD (pv 7)) paN)))) (pb (pcI pe_int))) paN))) pa_nil)))))))) (pssOne (psRet (pb (pT1 call_tuple_of cd_tup (by rfl) T.m_tuple boot_tuple (pnB (pv 5))))))))

theorem sc__law_near : FnScope ["equals", "word", "found", "k", "sense", "place", "near", "far", "later"] ["equals", "word"] (defScope s__law_near) := ⟨rfl, rfl, rfl, by decide +kernel, rfl, by decide +kernel, by decide +kernel⟩
def w__law_near : WS := (wSeq (wSetF 2 (wLst waNil)) (wSeq (wFor (wiR1 (wCall fLen (waCons (wVar 0) waNil))) (bName 3) (wFor (wi1 (wTup (waCons (wC (.int 0)) (waCons (wC (.int 1)) waNil)))) (bName 4) (wSeq (wPar 6 7 (waCons (w2 fIx (w2 fIx (wVar 0) (wVar 3)) (wVar 4)) (waCons (w2 fIx (w2 fIx (wVar 0) (wVar 3)) (w2 fSub (wC (.int 1)) (wVar 4))) waNil))) (wFor (wiR1 (wCall fLen (waCons (wVar 1) waNil))) (bName 5) (wIfS (wTst (w2 (fEq false) (wSl (wVar 1) (woS (wVarD 5)) (woS (w2 fAdd (wVar 5) (wCall fLen (waCons (wVar 6) waNil))))) (wVar 6))) (wSeq (wSetD 8 (w2 fAdd (w2 fAdd (wSl (wVar 1) woN (woS (wVarD 5))) (wVar 7)) (wSl (wVar 1) (woS (w2 fAdd (wVar 5) (wCall fLen (waCons (wVar 6) waNil)))) woN))) (wApp 2 (wTup (waCons (wVarD 8) (waCons (wTup (waCons (wVarD 5) (waCons (wVarD 3) (waCons (wVarD 4) waNil)))) waNil))))) wNil))))) (wRet (wVar 2))))
theorem der__law_near (T : Txt K mg) : ∀ (cdv : Value) (A : Around) (outer : List Env) (s : Shared) (H : Hp) (E : XK), Room 0 (A.deeper (envOfC "_law_near" (defScope s__law_near) s.heap.objs.size T.f__law_near cdv)) → PSs (cxOf CX0 P w K mg base ["equals", "word", "found", "k", "sense", "place", "near", "far", "later"] "_law_near" (defScope s__law_near) T.f__law_near cdv A outer s H E).nox (defBody s__law_near) (tSt K (w__law_near)) :=
  fun cdv A outer s H E hr => have hu := hr.units; have hu5 := units65 hr; (pssCons (psSetF (ps_set (i := 2) sc__law_near.nd rfl (by first | exact Or.inl rfl | exact Or.inr rfl) (pLstF paN))) (pssCons (psFor PassesOwn.never rfl (piRg1 (by rfl) T.m_range (pLen rfl (by rfl) T.m_len (pnB (pv 0)))) (pgName (pg_name (i := 3) sc__law_near.nd rfl (by first | exact Or.inl rfl | exact Or.inr rfl))) (pssOne (psFor PassesOwn.never rfl (piSeq (pTup (paC (pcI pe_int) (paC (pcI pe_int) paN)))) (pgName (pg_name (i := 4) sc__law_near.nd rfl (by first | exact Or.inl rfl | exact Or.inr rfl))) (pssCons (psPar (ps_par (i := 6) (j := 7) rfl sc__law_near.nd rfl rfl (by decide) rfl rfl (paC (pIx (pb (pIx (pnB (pv 0)) (pnB (pv 3)))) (pnB (pv 4))) (paC (pIx (pb (pIx (pnB (pv 0)) (pnB (pv 3)))) (pb (pBin op_sub od_I0 (pb (pcI pe_int)) (pnB (pv 4))))) paN)) (by rfl))) (pssOne (psFor PassesOwn.never rfl (piRg1 (by rfl) T.m_range (pLen rfl (by rfl) T.m_len (pnB (pv 1)))) (pgName (pg_name (i := 5) sc__law_near.nd rfl (by first | exact Or.inl rfl | exact Or.inr rfl))) (pssOne (psIf (pTc (op_eqD hu) od_eq (pb (pSl (pnB (pv 1)) (poS (pnD (pv 5))) (poS (pBin op_addD od_add (pnB (pv 5)) (pb (pLen rfl (by rfl) T.m_len (pnB (pv 6)))))))) (pnB (pv 6)) (nomark _)) (pssCons (psSetD (ps_set (i := 8) sc__law_near.nd rfl (by first | exact Or.inl rfl | exact Or.inr rfl) (pBin op_addD od_add (pb (pBin op_addD od_add (pb (pSl (pnB (pv 1)) poN (poS (pnD (pv 5))))) (pnB (pv 7)))) (pb (pSl (pnB (pv 1)) (poS (pBin op_addD od_add (pnB (pv 5)) (pb (pLen rfl (by rfl) T.m_len (pnB (pv 6)))))) poN))))) (pssOne (psApp (i := 2) (ps_expr (pe_bm PySem.F.plainAttrs_list PySem.F.slot_list_append PySem.F.type_list_append mt_append (pv 2) (pa_cons (pTup (paC (pnD (pv 8)) (paC (pTup (paC (pnD (pv 5)) (paC (pnD (pv 3)) (paC (pnD (pv 4)) paN)))) paN))) pa_nil)))))) pssNil)))))))) (pssOne (psRet (pnB (pv 2))))))

theorem sc__law_class : FnScope ["equals", "word", "found", "at", "other", "step"] ["equals", "word"] (defScope s__law_class) := ⟨rfl, rfl, rfl, by decide +kernel, rfl, by decide +kernel, by decide +kernel⟩
def w__law_class : WS := (wSeq (wSetF 2 (wLst (waCons (wVarD 1) waNil))) (wSeq (wFor (wiR1 (wC (.int 400))) (bName 3) (wIfS (wTst (w2 fLt (wVar 3) (wCall fLen (waCons (wVar 2) waNil)))) (wFor (wi1 (wFn W__law_near (waCons (wVarD 0) (waCons (w2 fIx (wVar 2) (wVar 3)) waNil)))) (bTup (bCons (bName 4) (bCons (bName 5) bNil))) (wIfS (wTst (w2 (fIn true) (wVar 4) (wVar 2))) (wApp 2 (wVarD 4)) wNil)) wNil)) (wRet (wVar 2))))
theorem der__law_class (T : Txt K mg) (G__law_near : FnOk P w K mg base CX0 1 T.f__law_near T.fd__law_near ["equals", "word"] (spD K W__law_near)) : ∀ (cdv : Value) (A : Around) (outer : List Env) (s : Shared) (H : Hp) (E : XK), Room 1 (A.deeper (envOfC "_law_class" (defScope s__law_class) s.heap.objs.size T.f__law_class cdv)) → PSs (cxOf CX0 P w K mg base ["equals", "word", "found", "at", "other", "step"] "_law_class" (defScope s__law_class) T.f__law_class cdv A outer s H E).nox (defBody s__law_class) (tSt K (w__law_class)) :=
  fun cdv A outer s H E hr => have hu := hr.units; have hu5 := units65 hr; (pssCons (psSetF (ps_set (i := 2) sc__law_class.nd rfl (by first | exact Or.inl rfl | exact Or.inr rfl) (pLstF (paC (pnD (pv 1)) paN)))) (pssCons (psFor PassesOwn.never rfl (piRg1 (by rfl) T.m_range (pcI pe_int)) (pgName (pg_name (i := 3) sc__law_class.nd rfl (by first | exact Or.inl rfl | exact Or.inr rfl))) (pssOne (psIf (pTc op_lt od_B0 (pnB (pv 3)) (pb (pLen rfl (by rfl) T.m_len (pnB (pv 2)))) (nomark _)) (pssOne (psFor PassesOwn.never rfl (piSeq (pFn G__law_near (hr.mono (by decide)) (by rfl) T.g__law_near T.F__law_near.kp T.b__law_near (paC (pnD (pv 0)) (paC (pIx (pnB (pv 2)) (pnB (pv 3))) paN)))) (pgTup rfl (pgCons (pgName (pg_name (i := 4) sc__law_class.nd rfl (by first | exact Or.inl rfl | exact Or.inr rfl))) (pgCons (pgName (pg_name (i := 5) sc__law_class.nd rfl (by first | exact Or.inl rfl | exact Or.inr rfl))) pgNil)) rfl rfl (bCons_len (bCons_len bNil_len))) (pssOne (psIf (pTc (op_notInD hu5) od_notIn (pnB (pv 4)) (pnB (pv 2)) (by rfl)) (pssOne (psApp (i := 2) (ps_expr (pe_bm PySem.F.plainAttrs_list PySem.F.slot_list_append PySem.F.type_list_append mt_append (pv 2) (pa_cons (pnD (pv 4)) pa_nil))))) pssNil)))) pssNil))) (pssOne (psRet (pnB (pv 2))))))

theorem sc__law_done : FnScope ["equals", "word", "steps", "step", "some", "other", "one"] ["equals", "word", "steps"] (defScope s__law_done) := ⟨rfl, rfl, rfl, by decide +kernel, rfl, by decide +kernel, by decide +kernel⟩
def w__law_done : WS := (wSeq (wFor (wi1 (wVarD 2)) (bName 3) (wSeq (wIfS (wtNot (wTst (wIsi "tuple" (wVar 3)))) (wRet (wC .none)) wNil) (wSeq (wSetD 4 (wfD (wLc (wi1 (wFn W__law_near (waCons (wVarD 0) (waCons (wVarD 1) waNil)))) (bTup (bCons (bName 5) (bCons (bName 6) bNil))) (wTst (wFn W__law_like (waCons (wVarD 6) (waCons (wVarD 3) waNil)))) (wVarD 5) [5, 6]))) (wSeq (wIfS (wTst (w2 (fEq false) (wVar 4) (wfD (wLst waNil)))) (wRet (wC .none)) wNil) (wSetD 1 (w2 fIx (wVar 4) (wC (.int 0)))))))) (wRet (wVar 1)))
theorem der__law_done (T : Txt K mg) (G__law_like : FnG P w K mg base 1 T.f__law_like T.fd__law_like ["got", "due"] (spD K W__law_like)) (G__law_near : FnOk P w K mg base CX0 1 T.f__law_near T.fd__law_near ["equals", "word"] (spD K W__law_near)) : ∀ (cdv : Value) (A : Around) (outer : List Env) (s : Shared) (H : Hp) (E : XK), (A.deeper (envOfC "_law_done" (defScope s__law_done) s.heap.objs.size T.f__law_done cdv)).guards = some [] → Room 1 (A.deeper (envOfC "_law_done" (defScope s__law_done) s.heap.objs.size T.f__law_done cdv)) → PSs (cxOf CX0 P w K mg base ["equals", "word", "steps", "step", "some", "other", "one"] "_law_done" (defScope s__law_done) T.f__law_done cdv A outer s H E).nox (defBody s__law_done) (tSt K (w__law_done)) :=
  fun cdv A outer s H E hG hr => have hu := hr.units; have hu5 := units65 hr; (pssCons (psFor PassesOwn.never rfl (piSeq (pnD (pv 2))) (pgName (pg_name (i := 3) sc__law_done.nd rfl (by first | exact Or.inl rfl | exact Or.inr rfl))) (pssCons (psIf (ptNot (ptV (pIsi (by rfl) T.m_isinstance boot_isinstance (by rfl) T.m_tuple boot_tuple (pnB (pv 3))))) (pssOne (psRet (pb (pcN pe_non)))) pssNil) (pssCons (psSetFD (i := 4) (psSetLc (own := [("other", 5), ("one", 6)]) sc__law_done.nd rfl rfl (sw_true rfl rfl rfl (by kernel_rfl)) rfl (piSeq (pFn G__law_near (hr.mono (by decide)) (by rfl) T.g__law_near T.F__law_near.kp T.b__law_near (paC (pnD (pv 0)) (paC (pnD (pv 1)) paN)))) (blkOk_by (by kernel_rfl)) (fun _ _ _ _ _ => (pgTup rfl (pgCons (pgName (pg_name (i := 5) sc__law_done.nd rfl (by first | exact Or.inl rfl | exact Or.inr rfl))) (pgCons (pgName (pg_name (i := 6) sc__law_done.nd rfl (by first | exact Or.inl rfl | exact Or.inr rfl))) pgNil)) rfl rfl (bCons_len (bCons_len bNil_len)))) (fun _ _ _ _ _ => (ptsO (ptV (pFnG G__law_like hG (hr.mono (by decide)) (by rfl) T.g__law_like T.F__law_like.kp T.b__law_like (paC (pnD (pv 6)) (paC (pnD (pv 3)) paN)))))) (fun _ _ _ _ _ => (pnD (pv 5))) (by decide))) (pssCons (psIf (pTc (op_eqD hu) od_eq (pnB (pv 4)) (pb (pf (pLstF paN))) (nomark _)) (pssOne (psRet (pb (pcN pe_non)))) pssNil) (pssOne (psSetD (ps_set (i := 1) sc__law_done.nd rfl (by first | exact Or.inl rfl | exact Or.inr rfl) (pIx (pnB (pv 4)) (pb (pcI pe_int)))))))))) (pssOne (psRet (pnB (pv 1)))))

theorem sc__law_pair_right : FnScope ["web", "equals", "one", "other", "told", "back", "place", "k", "sense"] ["web", "equals", "one", "other"] (defScope s__law_pair_right) := ⟨rfl, rfl, rfl, by decide +kernel, rfl, by decide +kernel, by decide +kernel⟩
def w__law_pair_right : WS := (wSeq (wSetD 4 (wFn W_way_steps (waCons (wVarD 0) (waCons (wVarD 1) (waCons (wVarD 2) (waCons (wVarD 3) waNil)))))) (wSeq (wIfS (wtOr (wTst (w2 (fEq true) (w2 fIx (wVar 2) (wC (.int 0))) (w2 fIx (wVar 3) (wC (.int 0))))) (wTst (w2 (fIn true) (w2 fIx (wVar 3) (wC (.int 1))) (wFn W__law_class (waCons (wVarD 1) (waCons (w2 fIx (wVar 2) (wC (.int 1))) waNil)))))) (wRet (wIsN false (wVar 4))) wNil) (wSeq (wIfS (wtOr (wtNot (wTst (wIsi "tuple" (wVar 4)))) (wTst (w2 (fEq true) (wFn W__law_done (waCons (wVarD 1) (waCons (w2 fIx (wVar 2) (wC (.int 1))) (waCons (wVarD 4) waNil)))) (w2 fIx (wVar 3) (wC (.int 1)))))) (wRet (wC (.bool false))) wNil) (wSeq (wSetD 5 (wCall fTupOf (waCons (wfD (wLc (wi1 (wRevT (wVar 4))) (bTup (bCons (bName 6) (bCons (bName 7) (bCons (bName 8) bNil)))) wTy (wTup (waCons (wVarD 6) (waCons (wVarD 7) (waCons (w2 fSub (wC (.int 1)) (wVar 8)) waNil)))) [6, 7, 8])) waNil))) (wRet (wFn W__law_like (waCons (wfD (wLst (waCons (wFn W_stepped (waCons (wVarD 0) (waCons (wVarD 1) (waCons (wVarD 2) (waCons (wVarD 4) waNil))))) (waCons (wFn W_stepped (waCons (wVarD 0) (waCons (wVarD 1) (waCons (wVarD 3) (waCons (wVarD 5) waNil))))) waNil)))) (waCons (wfD (wLst (waCons (wVarD 3) (waCons (wVarD 2) waNil)))) waNil))))))))
theorem der__law_pair_right (T : Txt K mg) (G__law_class : FnOk P w K mg base CX0 2 T.f__law_class T.fd__law_class ["equals", "word"] (spD K W__law_class)) (G__law_done : FnG P w K mg base 2 T.f__law_done T.fd__law_done ["equals", "word", "steps"] (spD K W__law_done)) (G__law_like : FnG P w K mg base 1 T.f__law_like T.fd__law_like ["got", "due"] (spD K W__law_like)) (G_stepped : FnOk P w K mg base CX0 4 T.f_stepped T.fd_stepped ["web", "equals", "way", "steps"] (spD K W_stepped)) (G_way_steps : FnOk P w K mg base CX0 4 T.f_way_steps T.fd_way_steps ["web", "equals", "one", "other"] (spD K W_way_steps)) : ∀ (cdv : Value) (A : Around) (outer : List Env) (s : Shared) (H : Hp) (E : XK), (A.deeper (envOfC "_law_pair_right" (defScope s__law_pair_right) s.heap.objs.size T.f__law_pair_right cdv)).guards = some [] → Room 4 (A.deeper (envOfC "_law_pair_right" (defScope s__law_pair_right) s.heap.objs.size T.f__law_pair_right cdv)) → PSs (cxOf CX0 P w K mg base ["web", "equals", "one", "other", "told", "back", "place", "k", "sense"] "_law_pair_right" (defScope s__law_pair_right) T.f__law_pair_right cdv A outer s H E).nox (defBody s__law_pair_right) (tSt K (w__law_pair_right)) :=
  fun cdv A outer s H E hG hr => have hu := hr.units; have hu5 := units65 hr; (pssCons (psSetD (ps_set (i := 4) sc__law_pair_right.nd rfl (by first | exact Or.inl rfl | exact Or.inr rfl) (pFn G_way_steps (hr.mono (by decide)) (by rfl) T.g_way_steps T.F_way_steps.kp T.b_way_steps (paC (pnD (pv 0)) (paC (pnD (pv 1)) (paC (pnD (pv 2)) (paC (pnD (pv 3)) paN))))))) (pssCons (psIf (PW.pt (ptOr (pTc (op_neD hu) od_ne (pb (pIx (pnB (pv 2)) (pb (pcI pe_int)))) (pb (pIx (pnB (pv 3)) (pb (pcI pe_int)))) (nomark _)) (ptOr1 (pTc (op_notInD hu5) od_notIn (pb (pIx (pnB (pv 3)) (pb (pcI pe_int)))) (pb (pFn G__law_class (hr.mono (by decide)) (by rfl) T.g__law_class T.F__law_class.kp T.b__law_class (paC (pnD (pv 1)) (paC (pIx (pnB (pv 2)) (pb (pcI pe_int))) paN)))) (by rfl))))) (pssOne (psRet (pb (pIsN (pnB (pv 4)))))) pssNil) (pssCons (psIf (PW.pt (ptOr (ptNot (ptV (pIsi (by rfl) T.m_isinstance boot_isinstance (by rfl) T.m_tuple boot_tuple (pnB (pv 4))))) (ptOr1 (pTc (op_neD hu) od_ne (pb (pFnG G__law_done hG (hr.mono (by decide)) (by rfl) T.g__law_done T.F__law_done.kp T.b__law_done (paC (pnD (pv 1)) (paC (pIx (pnB (pv 2)) (pb (pcI pe_int))) (paC (pnD (pv 4)) paN))))) (pb (pIx (pnB (pv 3)) (pb (pcI pe_int)))) (nomark _))))) (pssOne (psRet (pb (pcB pe_bl)))) pssNil) (pssCons (psSetD (ps_set (i := 5) sc__law_pair_right.nd rfl (by first | exact Or.inl rfl | exact Or.inr rfl) (pT1 call_tuple_of cd_tup (by rfl) T.m_tuple boot_tuple (pb (pf (pLc (own := [("place", 6), ("k", 7), ("sense", 8)]) rfl sc__law_pair_right.nd (piSeq (pRevT (pnB (pv 4)))) (blkOk_by (by kernel_rfl)) (fun _ _ _ _ _ => (pgTup rfl (pgCons (pgName (pg_name (i := 6) sc__law_pair_right.nd rfl (by first | exact Or.inl rfl | exact Or.inr rfl))) (pgCons (pgName (pg_name (i := 7) sc__law_pair_right.nd rfl (by first | exact Or.inl rfl | exact Or.inr rfl))) (pgCons (pgName (pg_name (i := 8) sc__law_pair_right.nd rfl (by first | exact Or.inl rfl | exact Or.inr rfl))) pgNil))) rfl rfl (bCons_len (bCons_len (bCons_len bNil_len))))) (fun _ _ _ _ _ => ptsN) (fun _ _ _ _ _ => (pTup (paC (pnD (pv 6)) (paC (pnD (pv 7)) (paC (pBin op_sub od_I0 (pb (pcI pe_int)) (pnB (pv 8))) paN))))) (by decide))))))) (pssOne (psRet (pb (pFnG G__law_like hG (hr.mono (by decide)) (by rfl) T.g__law_like T.F__law_like.kp T.b__law_like (paC (pf (pLstF (paC (pFn G_stepped (hr.mono (by decide)) (by rfl) T.g_stepped T.F_stepped.kp T.b_stepped (paC (pnD (pv 0)) (paC (pnD (pv 1)) (paC (pnD (pv 2)) (paC (pnD (pv 4)) paN))))) (paC (pFn G_stepped (hr.mono (by decide)) (by rfl) T.g_stepped T.F_stepped.kp T.b_stepped (paC (pnD (pv 0)) (paC (pnD (pv 1)) (paC (pnD (pv 3)) (paC (pnD (pv 5)) paN))))) paN)))) (paC (pf (pLstF (paC (pnD (pv 3)) (paC (pnD (pv 2)) paN)))) paN))))))))))

theorem sc_law : FnScope ["script", "k", "m", "web", "equals", "some", "turn", "step", "way", "one", "other", "word", "steps", "near", "later"] ["script"] (defScope s_law) := ⟨rfl, rfl, rfl, by decide +kernel, rfl, by decide +kernel, by decide +kernel⟩
def w_law : WS := (wSeq (wFor (wiR1 (wCall fMax2 (waCons (wC (.int 2)) (waCons (wCall fMin2 (waCons (wCall fLen (waCons (wVar 0) waNil)) (waCons (wC (.int 4)) waNil))) waNil)))) (bName 1) (wSeq (wSetD 2 (wFn W__law_begun (waCons (wVarD 0) (waCons (wVarD 1) waNil)))) (wSeq (wSetD 3 (wFn W__law_small_web (waCons (wVarD 2) (waCons (wC (.int 6)) (waCons (wC (.int 8)) (waCons (wC (.int 60)) waNil)))))) (wSeq (wSetD 4 (wFn W__law_equals (waCons (wVarD 2) (waCons (wVarD 3) (waCons (wC (.int 4)) waNil))))) (wSeq (wSetD 5 (wfD (wLc (wi1 (wFn W__law_ways (waCons (wVarD 3) waNil))) (bName 8) wTy (wTup (waCons (w2 fIx (wVar 8) (wC (.int 0))) (waCons (w2 fIx (wVar 8) (wC (.int 3))) waNil))) [8]))) (wFor (wiR1 (wIf (wTst (w2 (fEq true) (wVar 5) (wfD (wLst waNil)))) (wC (.int 4)) (wC (.int 0)))) (bName 6) (wSeq (wPar 9 10 (waCons (wFn W__law_of (waCons (wVarD 2) (waCons (wVarD 5) waNil))) (waCons (wFn W__law_of (waCons (wVarD 2) (waCons (wVarD 5) waNil))) waNil))) (wSeq (wIfS (wTst (w2 fGt (wFn W__law_draw (waCons (wVarD 2) (waCons (wC (.int 4)) waNil))) (wC (.int 0)))) (wSetD 10 (wTup (waCons (w2 fIx (wVar 9) (wC (.int 0))) (waCons (wFn W__law_of (waCons (wVarD 2) (waCons (wFn W__law_class (waCons (wVarD 4) (waCons (w2 fIx (wVar 9) (wC (.int 1))) waNil))) waNil))) waNil)))) wNil) (wSeq (wIfS (wtOr (wtNot (wTst (wFn W__law_pair_right (waCons (wVarD 3) (waCons (wVarD 4) (waCons (wVarD 9) (waCons (wVarD 10) waNil))))))) (wtNot (wTst (wFn W__law_pair_right (waCons (wVarD 3) (waCons (wVarD 4) (waCons (wVarD 9) (waCons (wVarD 9) waNil)))))))) (wRet (wC (.bool false))) wNil) (wSeq (wIfS (wtNot (wTst (wFn W__law_pair_right (waCons (wVarD 3) (waCons (wVarD 4) (waCons (wVarD 9) (waCons (wFn W_least_way (waCons (wVarD 3) (waCons (wVarD 4) (waCons (wVarD 9) waNil)))) waNil))))))) (wRet (wC (.bool false))) wNil) (wSeq (wOw [11, 12] (woDat (w2 fIx (wVar 9) (wC (.int 1))) (woLst (wLst waNil) woNil))) (wSeq (wFor (wiR1 (wFn W__law_draw (waCons (wVarD 2) (waCons (wC (.int 5)) waNil)))) (bName 7) (wSeq (wSetD 13 (wFn W__law_near (waCons (wVarD 4) (waCons (wVarD 11) waNil)))) (wIfS (wTst (w2 (fEq true) (wVar 13) (wfD (wLst waNil)))) (wSeq (wUnp (bTup (bCons (bName 11) (bCons (bName 14) bNil))) (wFn W__law_of (waCons (wVarD 2) (waCons (wVarD 13) waNil)))) (wApp 12 (wVarD 14))) wNil))) (wIfS (wtNot (wTst (wFn W__law_like (waCons (wFn W_stepped (waCons (wVarD 3) (waCons (wVarD 4) (waCons (wVarD 9) (waCons (wCall fTupOf (waCons (wVar 12) waNil)) waNil))))) (waCons (wTup (waCons (w2 fIx (wVar 9) (wC (.int 0))) (waCons (wVarD 11) waNil))) waNil))))) (wRet (wC (.bool false))) wNil))))))))))))) (wRet (wC (.bool true))))
theorem der_law (T : Txt K mg) (G__law_begun : FnOk P w K mg base CX0 1 T.f__law_begun T.fd__law_begun ["script", "k"] (spD K W__law_begun)) (G__law_class : FnOk P w K mg base CX0 2 T.f__law_class T.fd__law_class ["equals", "word"] (spD K W__law_class)) (G__law_draw : FnOk P w K mg base CX0 1 T.f__law_draw T.fd__law_draw ["m", "bound"] (spD K W__law_draw)) (G__law_equals : FnOk P w K mg base CX0 3 T.f__law_equals T.fd__law_equals ["m", "web", "most"] (spD K W__law_equals)) (G__law_like : FnG P w K mg base 1 T.f__law_like T.fd__law_like ["got", "due"] (spD K W__law_like)) (G__law_near : FnOk P w K mg base CX0 1 T.f__law_near T.fd__law_near ["equals", "word"] (spD K W__law_near)) (G__law_of : FnOk P w K mg base CX0 2 T.f__law_of T.fd__law_of ["m", "some"] (spD K W__law_of)) (G__law_pair_right : FnG P w K mg base 5 T.f__law_pair_right T.fd__law_pair_right ["web", "equals", "one", "other"] (spD K W__law_pair_right)) (G__law_small_web : FnOk P w K mg base CX0 3 T.f__law_small_web T.fd__law_small_web ["m", "size", "most", "limit"] (spD K W__law_small_web)) (G__law_ways : FnOk P w K mg base CX0 1 T.f__law_ways T.fd__law_ways ["web"] (spD K W__law_ways)) (G_least_way : FnOk P w K mg base CX0 5 T.f_least_way T.fd_least_way ["web", "equals", "way"] (spD K W_least_way)) (G_stepped : FnOk P w K mg base CX0 4 T.f_stepped T.fd_stepped ["web", "equals", "way", "steps"] (spD K W_stepped)) : ∀ (cdv : Value) (A : Around) (outer : List Env) (s : Shared) (H : Hp) (E : XK), (A.deeper (envOfC "law" (defScope s_law) s.heap.objs.size T.f_law cdv)).guards = some [] → Room 5 (A.deeper (envOfC "law" (defScope s_law) s.heap.objs.size T.f_law cdv)) → PSs (cxOf CX0 P w K mg base ["script", "k", "m", "web", "equals", "some", "turn", "step", "way", "one", "other", "word", "steps", "near", "later"] "law" (defScope s_law) T.f_law cdv A outer s H E).nox (defBody s_law) (tSt K (w_law)) :=
  fun cdv A outer s H E hG hr => have hu := hr.units; have hu5 := units65 hr; (pssCons (psFor PassesOwn.never rfl (piRg1 (by rfl) T.m_range (pB2 (call_max2 rfl) cd_max2 (by rfl) T.m_max boot_max (pb (pcI pe_int)) (pb (pB2 (call_min2 rfl) cd_min2 (by rfl) T.m_min boot_min (pb (pLen rfl (by rfl) T.m_len (pnB (pv 0)))) (pb (pcI pe_int)))))) (pgName (pg_name (i := 1) sc_law.nd rfl (by first | exact Or.inl rfl | exact Or.inr rfl))) (pssCons (psSetD (ps_set (i := 2) sc_law.nd rfl (by first | exact Or.inl rfl | exact Or.inr rfl) (pFn G__law_begun (hr.mono (by decide)) (by rfl) T.g__law_begun T.F__law_begun.kp T.b__law_begun (paC (pnD (pv 0)) (paC (pnD (pv 1)) paN))))) (pssCons (psSetD (ps_set (i := 3) sc_law.nd rfl (by first | exact Or.inl rfl | exact Or.inr rfl) (pFn G__law_small_web (hr.mono (by decide)) (by rfl) T.g__law_small_web T.F__law_small_web.kp T.b__law_small_web (paC (pnD (pv 2)) (paC (pcI pe_int) (paC (pcI pe_int) (paC (pcI pe_int) paN))))))) (pssCons (psSetD (ps_set (i := 4) sc_law.nd rfl (by first | exact Or.inl rfl | exact Or.inr rfl) (pFn G__law_equals (hr.mono (by decide)) (by rfl) T.g__law_equals T.F__law_equals.kp T.b__law_equals (paC (pnD (pv 2)) (paC (pnD (pv 3)) (paC (pcI pe_int) paN)))))) (pssCons (psSetFD (i := 5) (psSetLc (own := [("way", 8)]) sc_law.nd rfl rfl (sw_true rfl rfl rfl (by kernel_rfl)) rfl (piSeq (pFn G__law_ways (hr.mono (by decide)) (by rfl) T.g__law_ways T.F__law_ways.kp T.b__law_ways (paC (pnD (pv 3)) paN))) (blkOk_by (by kernel_rfl)) (fun _ _ _ _ _ => (pgName (pg_name (i := 8) sc_law.nd rfl (by first | exact Or.inl rfl | exact Or.inr rfl)))) (fun _ _ _ _ _ => ptsN) (fun _ _ _ _ _ => (pTup (paC (pIx (pnB (pv 8)) (pb (pcI pe_int))) (paC (pIx (pnB (pv 8)) (pb (pcI pe_int))) paN)))) (by decide))) (pssOne (psFor PassesOwn.never rfl (piRg1 (by rfl) T.m_range (pIf (pTc (op_neD hu) od_ne (pnB (pv 5)) (pb (pf (pLstF paN))) (nomark _)) (pcI pe_int) (pcI pe_int))) (pgName (pg_name (i := 6) sc_law.nd rfl (by first | exact Or.inl rfl | exact Or.inr rfl))) (pssCons (psPar (ps_par (i := 9) (j := 10) rfl sc_law.nd rfl rfl (by decide) rfl rfl (paC (pFn G__law_of (hr.mono (by decide)) (by rfl) T.g__law_of T.F__law_of.kp T.b__law_of (paC (pnD (pv 2)) (paC (pnD (pv 5)) paN))) (paC (pFn G__law_of (hr.mono (by decide)) (by rfl) T.g__law_of T.F__law_of.kp T.b__law_of (paC (pnD (pv 2)) (paC (pnD (pv 5)) paN))) paN)) (by rfl))) (pssCons (psIf (pTc op_gt od_B0 (pb (pFn G__law_draw (hr.mono (by decide)) (by rfl) T.g__law_draw T.F__law_draw.kp T.b__law_draw (paC (pnD (pv 2)) (paC (pcI pe_int) paN)))) (pb (pcI pe_int)) (nomark _)) (pssOne (psSetD (ps_set (i := 10) sc_law.nd rfl (by first | exact Or.inl rfl | exact Or.inr rfl) (pTup (paC (pIx (pnB (pv 9)) (pb (pcI pe_int))) (paC (pFn G__law_of (hr.mono (by decide)) (by rfl) T.g__law_of T.F__law_of.kp T.b__law_of (paC (pnD (pv 2)) (paC (pFn G__law_class (hr.mono (by decide)) (by rfl) T.g__law_class T.F__law_class.kp T.b__law_class (paC (pnD (pv 4)) (paC (pIx (pnB (pv 9)) (pb (pcI pe_int))) paN))) paN))) paN)))))) pssNil) (pssCons (psIf (PW.pt (ptOr (ptNot (ptV (pFnG G__law_pair_right hG (hr.mono (by decide)) (by rfl) T.g__law_pair_right T.F__law_pair_right.kp T.b__law_pair_right (paC (pnD (pv 3)) (paC (pnD (pv 4)) (paC (pnD (pv 9)) (paC (pnD (pv 10)) paN))))))) (ptOr1 (ptNot (ptV (pFnG G__law_pair_right hG (hr.mono (by decide)) (by rfl) T.g__law_pair_right T.F__law_pair_right.kp T.b__law_pair_right (paC (pnD (pv 3)) (paC (pnD (pv 4)) (paC (pnD (pv 9)) (paC (pnD (pv 9)) paN)))))))))) (pssOne (psRet (pb (pcB pe_bl)))) pssNil) (pssCons (psIf (ptNot (ptV (pFnG G__law_pair_right hG (hr.mono (by decide)) (by rfl) T.g__law_pair_right T.F__law_pair_right.kp T.b__law_pair_right (paC (pnD (pv 3)) (paC (pnD (pv 4)) (paC (pnD (pv 9)) (paC (pFn G_least_way (hr.mono (by decide)) (by rfl) T.g_least_way T.F_least_way.kp T.b_least_way (paC (pnD (pv 3)) (paC (pnD (pv 4)) (paC (pnD (pv 9)) paN)))) paN))))))) (pssOne (psRet (pb (pcB pe_bl)))) pssNil) (pssCons (psOw2 (ps_par (i := 11) (j := 12) rfl sc_law.nd rfl rfl (by decide) rfl rfl (poDat (pIx (pnB (pv 9)) (pb (pcI pe_int))) (poLst (pLstF paN) poNil)) (by rfl))) (pssCons (psFor PassesOwn.never rfl (piRg1 (by rfl) T.m_range (pFn G__law_draw (hr.mono (by decide)) (by rfl) T.g__law_draw T.F__law_draw.kp T.b__law_draw (paC (pnD (pv 2)) (paC (pcI pe_int) paN)))) (pgName (pg_name (i := 7) sc_law.nd rfl (by first | exact Or.inl rfl | exact Or.inr rfl))) (pssCons (psSetD (ps_set (i := 13) sc_law.nd rfl (by first | exact Or.inl rfl | exact Or.inr rfl) (pFn G__law_near (hr.mono (by decide)) (by rfl) T.g__law_near T.F__law_near.kp T.b__law_near (paC (pnD (pv 4)) (paC (pnD (pv 11)) paN))))) (pssOne (psIf (pTc (op_neD hu) od_ne (pnB (pv 13)) (pb (pf (pLstF paN))) (nomark _)) (pssCons (psUnp (ps_asg (pFn G__law_of (hr.mono (by decide)) (by rfl) T.g__law_of T.F__law_of.kp T.b__law_of (paC (pnD (pv 2)) (paC (pnD (pv 13)) paN))) (pgTup rfl (pgCons (pgName (pg_name (i := 11) sc_law.nd rfl (by first | exact Or.inl rfl | exact Or.inr rfl))) (pgCons (pgName (pg_name (i := 14) sc_law.nd rfl (by first | exact Or.inl rfl | exact Or.inr rfl))) pgNil)) rfl rfl (bCons_len (bCons_len bNil_len))))) (pssOne (psApp (i := 12) (ps_expr (pe_bm PySem.F.plainAttrs_list PySem.F.slot_list_append PySem.F.type_list_append mt_append (pv 12) (pa_cons (pnD (pv 14)) pa_nil)))))) pssNil)))) (pssOne (psIf (ptNot (ptV (pFnG G__law_like hG (hr.mono (by decide)) (by rfl) T.g__law_like T.F__law_like.kp T.b__law_like (paC (pFn G_stepped (hr.mono (by decide)) (by rfl) T.g_stepped T.F_stepped.kp T.b_stepped (paC (pnD (pv 3)) (paC (pnD (pv 4)) (paC (pnD (pv 9)) (paC (pT1 call_tuple_of cd_tup (by rfl) T.m_tuple boot_tuple (pnB (pv 12))) paN))))) (paC (pTup (paC (pIx (pnB (pv 9)) (pb (pcI pe_int))) (paC (pnD (pv 11)) paN))) paN))))) (pssOne (psRet (pb (pcB pe_bl)))) pssNil))))))))))))))) (pssOne (psRet (pb (pcB pe_bl)))))

end
end K02

set_option Elab.async false
set_option linter.all false
set_option maxRecDepth 100000
set_option maxHeartbeats 4000000
namespace K02
open PySem PySem.Spec PyProof.Rows L2 DW WLD
/-- numbered from 0 -/
def numD (l : List D) : List (D × D) := l.zipIdx.map fun p => (p.1, .int (p.2 : Nat))
theorem numD_app (l : List D) (a : D) : numD (l ++ [a]) = numD l ++ [(a, .int (l.length : Nat))] := by
  simp [numD, List.zipIdx_append]
theorem numD_keys (l : List D) : (numD l).map Prod.fst = l := by
  simp only [numD, List.map_map]
  have : (Prod.fst ∘ fun p : D × Nat => (p.1, (PyData.int (p.2 : Nat) : D))) = Prod.fst := rfl
  rw [this]
  exact List.zipIdx_map_fst 0 l
theorem numD_len (l : List D) : (numD l).length = l.length := by simp [numD]
theorem numD_mem {l : List D} {p : D × D} (h : p ∈ numD l) : p.1 ∈ l := by
  have : p.1 ∈ (numD l).map Prod.fst := List.mem_map.mpr ⟨p, h, rfl⟩
  rwa [numD_keys] at this
theorem numD_get {l : List D} (hk : HK l) (nd : l.Nodup) {a : D} (m : a ∈ l) : dGet (numD l) a = some (.int (ix l a : Nat)) := by
  refine dGet_mem (fun p hp => hk.isK (numD_mem hp)) (by rw [numD_keys]; exact nd) ?_
  unfold numD
  refine List.mem_map.mpr ⟨(a, ix l a), ?_, rfl⟩
  rw [List.mem_iff_getElem?]
  exact ⟨ix l a, by rw [List.getElem?_zipIdx, ix_get m]; simp⟩
theorem numD_none {l S : List D} (hk : HK S) (hl : ∀ x ∈ l, x ∈ S) {a : D} (ha : a ∈ S) (m : a ∉ l) : dGet (numD l) a = none :=
  dGet_none (fun p hp => hk.isK (hl _ (numD_mem hp))) (hk.isK ha) fun p hp e => m (by rw [← e]; exact numD_mem hp)
theorem numD_put {l S : List D} (hk : HK S) (hl : ∀ x ∈ l, x ∈ S) {a : D} (ha : a ∈ S) (m : a ∉ l) : dPut (numD l) a (.int (l.length : Nat)) = numD (l ++ [a]) := by
  rw [numD_app]
  exact dPut_new (fun p hp => hk.isK (hl _ (numD_mem hp))) (hk.isK ha) fun p hp e => m (by rw [← e]; exact numD_mem hp)
theorem map_get {S l : List D} {g : D → D} (hk : HK S) (hl : ∀ x ∈ l, x ∈ S) (nd : l.Nodup) {a : D} (m : a ∈ l) : dGet (l.map fun x => (x, g x)) a = some (g a) := by
  refine dGet_mem (fun p hp => ?_) ?_ (List.mem_map.mpr ⟨a, m, rfl⟩)
  · obtain ⟨x, hx, rfl⟩ := List.mem_map.mp hp
    exact hk.isK (hl x hx)
  · rw [List.map_map]
    have : (Prod.fst ∘ fun x : D => (x, g x)) = id := rfl
    rw [this, List.map_id]
    exact nd
theorem take_snoc {l : List D} {i : Nat} {x : D} (h : l[i]? = some x) : l.take (i + 1) = l.take i ++ [x] := by
  rw [List.take_add_one, h]; rfl
theorem not_mem_take {l : List D} (nd : l.Nodup) {i : Nat} {x : D} (h : l[i]? = some x) : x ∉ l.take i := fun m => by
  obtain ⟨j, hj, e⟩ := List.getElem_of_mem m
  rw [List.length_take] at hj
  have e1 : l[j]? = some x := by
    rw [← e, List.getElem_take]
    exact List.getElem?_eq_getElem (by omega)
  have := (List.getElem?_inj (by omega) nd).mp (e1.trans h.symm)
  omega
/-- the first loop -/
theorem named1 {C : NC} (hC : NCOk C) {F : DE} {s4 s5 : Option SV} {rest : List (Option SV)} {u : Nat} {th : List D} (hp : th.Perm C.th)
    (q : ∀ s9 s10, F.nx (some (.d (.list C.th)) :: some (.d (arD C)) :: some (.d (stD C)) :: some (.d (foD C)) :: s4 :: s5 :: some (.dic (numD th)) :: some (.dic (numD (th.map C.st))) :: some (.own ((List.range th.length).map fun k => prN (k, k))) :: s9 :: s10 :: rest) u) :
    ∀ s9 s10, wLoop (bTup (bCons (bName 9) (bCons (bName 10) bNil)))
      (wSeq (wPutD 6 (wVarD 10) (wVarD 9)) (wSeq (wPutD 7 (wDGet (wDiD (wVarD 2)) (wVarD 10)) (wVarD 9)) (wApp 8 (wTup (waCons (wVarD 9) (waCons (wVarD 9) waNil)))))) F (enumD th)
      (some (.d (.list C.th)) :: some (.d (arD C)) :: some (.d (stD C)) :: some (.d (foD C)) :: s4 :: s5 :: some (.dic []) :: some (.dic []) :: some (.own []) :: s9 :: s10 :: rest) u := by
  intro s9 s10
  have tnd : th.Nodup := hp.nodup_iff.mpr hC.tnd
  have tin : ∀ x ∈ th, x ∈ C.th := fun x h => hp.mem_iff.mp h
  have tl : th.length = C.th.length := hp.length_eq
  have tlen := hC.tlen
  have stinj : ∀ x ∈ th, ∀ y ∈ th, C.st x = C.st y → x = y := fun x hx y hy e => by
    rw [← (hC.st_in x (tin x hx)).2.1, ← (hC.st_in y (tin y hy)).2.1, e]
  refine wLoop_inv _ (fun i ρ u' => u' = u ∧ i ≤ th.length ∧ ∃ s9 s10, ρ = some (.d (.list C.th)) :: some (.d (arD C)) :: some (.d (stD C)) :: some (.d (foD C)) :: s4 :: s5 :: some (.dic (numD (th.take i))) :: some (.dic (numD ((th.take i).map C.st))) :: some (.own ((List.range i).map fun k => prN (k, k))) :: s9 :: s10 :: rest) ?_ ?_ _ u ⟨rfl, Nat.zero_le _, s9, s10, rfl⟩
  · rintro i x ρ u' F' hx ⟨rfl, hi, a9, a10, rfl⟩ n1 n2 n3 n4 n5
    rw [enumD_get] at hx
    obtain ⟨y, hy, rfl⟩ := Option.map_eq_some_iff.mp hx
    have hil : i < th.length := (List.getElem?_eq_some_iff.mp hy).1
    have hym : y ∈ th := List.mem_of_getElem? hy
    refine ⟨_, rfl, ?_⟩
    have k1 : ∀ z ∈ th.take i, z ∈ C.th := fun z hz => tin z (List.mem_of_mem_take hz)
    have k2 : ∀ z ∈ (th.take i).map C.st, z ∈ C.ks := fun z hz => by
      obtain ⟨w, hw, rfl⟩ := List.mem_map.mp hz
      exact (hC.st_in w (k1 w hw)).1
    have l1 : (th.take i).length = i := by rw [List.length_take]; omega
    have e1 := numD_put hC.thk k1 (tin y hym) (not_mem_take tnd hy)
    have e2 := numD_put hC.ksk k2 (hC.st_in y (tin y hym)).1 (l := (th.take i).map C.st) (fun m => by
      obtain ⟨w, hw, e⟩ := List.mem_map.mp m
      have := stinj w (List.mem_of_mem_take hw) y hym e
      rw [this] at hw
      exact not_mem_take tnd hy hw)
    rw [l1] at e1
    rw [List.length_map, l1] at e2
    simp only [wSeq, wPutD, wVarD, wDGet, wDiD, wApp, wTup, waCons, waNil]
    refine ⟨_, rfl, _, rfl, _, rfl, hC.thk.ok (fun p hp => k1 _ (numD_mem hp)) (tin y hym), by rw [numD_len]; omega, ?_⟩
    refine ⟨_, rfl, _, rfl, _, rfl, _, rfl, _, rfl, hC.thk.ok (fun p hp => ?_) (tin y hym), C.st y, map_get hC.thk (fun x hx => hx) hC.tnd (tin y hym), hC.ksk.ok (fun p hp => k2 _ (numD_mem hp)) (hC.st_in y (tin y hym)).1, by rw [numD_len, List.length_map]; omega, ?_⟩
    · obtain ⟨w, hw, rfl⟩ := List.mem_map.mp hp
      exact hw
    refine ⟨_, rfl, _, rfl, _, rfl, by simp, by simp; omega, ?_⟩
    refine n1 _ _ ⟨rfl, by omega, some (.d (.int (i : Nat))), some (.d y), ?_⟩
    rw [e1, e2, take_snoc hy, List.map_append, List.range_succ, List.map_append]
    rfl
  · rintro ρ u' ⟨rfl, hi, a9, a10, rfl⟩
    rw [enumD_len, List.take_length]
    exact q _ _
end K02

set_option Elab.async false
set_option linter.all false
set_option maxRecDepth 100000
set_option maxHeartbeats 4000000
namespace K02
open PySem PySem.Spec PyProof.Rows L2 DW WLD
theorem fEq_int {n : Bool} {i j : Int} {Q : D → Prop} : fEq n (.int i) (.int j) Q = Q (.bool (if n then !decide (i = j) else decide (i = j))) := by
  unfold fEq
  have h1 : SeqAt.shaped (.int i) = true := rfl
  have h2 : SeqAt.shaped (.int j) = true := rfl
  have h3 : PyData.eqv (.int i) (.int j) = decide (i = j) := by
    unfold PyData.eqv
    by_cases h : i = j <;> simp [h]
  rw [h3]
  exact propext ⟨fun h => h.2.2, fun h => ⟨h1, h2, h⟩⟩
theorem fEq_num {n : Bool} {i j : Nat} {Q : D → Prop} : fEq n (.int (i : Nat)) (.int (j : Nat)) Q = Q (.bool (if n then !decide (i = j) else decide (i = j))) := by
  rw [fEq_int]
  have e : decide ((i : Int) = (j : Int)) = decide (i = j) := decide_eq_decide.mpr Int.ofNat_inj
  rw [e]
theorem fEq_bool {n : Bool} {i j : Bool} {Q : D → Prop} : fEq n (.bool i) (.bool j) Q = Q (.bool (if n then !decide (i = j) else decide (i = j))) := by
  unfold fEq
  have h1 : SeqAt.shaped (.bool i) = true := rfl
  have h2 : SeqAt.shaped (.bool j) = true := rfl
  have h3 : PyData.eqv (.bool i) (.bool j) = decide (i = j) := by
    unfold PyData.eqv
    cases i <;> cases j <;> rfl
  rw [h3]
  exact propext ⟨fun h => h.2.2, fun h => ⟨h1, h2, h⟩⟩
theorem prN_inj {p q : Nat × Nat} (h : prN p = prN q) : p = q := by
  simp only [prN, PyData.tuple.injEq, List.cons.injEq, PyData.int.injEq, and_true] at h
  exact Prod.ext (Int.ofNat_inj.mp h.1) (Int.ofNat_inj.mp h.2)
theorem sh_prN {p : Nat × Nat} : Sh 1 (prN p) := Sh.tup (n := 0) fun d hd => by
  simp only [List.mem_cons, List.not_mem_nil, or_false] at hd
  rcases hd with e | e <;> rw [e] <;> exact .int
theorem fEq_pr {n : Bool} {p q : Nat × Nat} {Q : D → Prop} : fEq n (prN p) (prN q) Q = Q (.bool (if n then !decide (p = q) else decide (p = q))) :=
  fEq_sh (sh_prN.mono (by omega)) (sh_prN.mono (by omega)) ⟨fun h => by rw [of_decide_eq_true h], fun h => decide_eq_true (prN_inj h)⟩
theorem fIn_pr {n : Bool} {p : Nat × Nat} {l : List (Nat × Nat)} {Q : D → Prop} : fIn n (prN p) (.list (l.map prN)) Q = Q (.bool (if n then !decide (p ∈ l) else decide (p ∈ l))) :=
  fIn_sh (sh_prN.mono (by omega)) (fun d hd => by obtain ⟨q, _, rfl⟩ := List.mem_map.mp hd; exact sh_prN.mono (by omega))
    ⟨fun h => List.mem_map.mpr ⟨p, of_decide_eq_true h, rfl⟩, fun h => decide_eq_true (by obtain ⟨q, hq, e⟩ := List.mem_map.mp h; rw [← prN_inj e]; exact hq)⟩
/-! indices -/
theorem fIx_getT {xs : List D} {i : Nat} {z : D} {Q : D → Prop} (h : xs[i]? = some z) : fIx (.tuple xs) (.int (i : Nat)) Q = Q z := by
  simp only [fIx]
  rw [atI_nat h]
  exact propext ⟨fun ⟨z, e, q⟩ => by cases e; exact q, fun q => ⟨_, rfl, q⟩⟩
theorem fIx_getL {xs : List D} {i : Nat} {z : D} {Q : D → Prop} (h : xs[i]? = some z) : fIx (.list xs) (.int (i : Nat)) Q = Q z := fIx_list h
theorem i_w0 {W : Wd} {Q : D → Prop} : fIx (wdD W) (.int 0) Q = Q (.int (W.n : Nat)) := fIx_getT (i := 0) rfl
theorem i_w1 {W : Wd} {Q : D → Prop} : fIx (wdD W) (.int 1) Q = Q (.tuple (W.es.map prN)) := fIx_getT (i := 1) rfl
theorem i_w2 {W : Wd} {Q : D → Prop} : fIx (wdD W) (.int 2) Q = Q (.tuple (W.tb.map rowI)) := fIx_getT (i := 2) rfl
theorem i_p0 {p : Nat × Nat} {Q : D → Prop} : fIx (prN p) (.int 0) Q = Q (.int (p.1 : Nat)) := fIx_getT (i := 0) rfl
theorem i_p1 {p : Nat × Nat} {Q : D → Prop} : fIx (prN p) (.int 1) Q = Q (.int (p.2 : Nat)) := fIx_getT (i := 1) rfl
theorem i_es {W : Wd} {f : Nat} {Q : D → Prop} (h : f < W.m) : fIx (.tuple (W.es.map prN)) (.int (f : Nat)) Q = Q (prN (W.src f, W.tgt f)) := by
  refine fIx_getT ?_
  have h' : f < W.es.length := h
  rw [List.getElem?_map, List.getElem?_eq_getElem h']
  simp [Wd.src, Wd.tgt, List.getD, h']
def rw (W : Wd) (f : Nat) : List Int := W.tb.getD f []
theorem rw_get {W : Wd} (hW : IsW W) {f : Nat} (h : f < W.m) : W.tb[f]? = some (rw W f) ∧ (rw W f).length = W.m := by
  have h' : f < W.tb.length := by rw [hW.rows.1]; exact h
  have e : W.tb[f]? = some (rw W f) := by rw [List.getElem?_eq_getElem h']; simp [rw, List.getD, h']
  exact ⟨e, hW.rows.2 _ (List.mem_of_getElem? e)⟩
theorem i_tb {W : Wd} (hW : IsW W) {f : Nat} {Q : D → Prop} (h : f < W.m) : fIx (.tuple (W.tb.map rowI)) (.int (f : Nat)) Q = Q (rowI (rw W f)) := by
  refine fIx_getT ?_
  rw [List.getElem?_map, (rw_get hW h).1]
  rfl
theorem i_row {W : Wd} (hW : IsW W) {f g : Nat} {Q : D → Prop} (h : f < W.m) (h2 : g < W.m) : fIx (rowI (rw W f)) (.int (g : Nat)) Q = Q (.int (W.t f g)) := by
  refine fIx_getT ?_
  have h' : g < (rw W f).length := by rw [(rw_get hW h).2]; exact h2
  rw [List.getElem?_map, List.getElem?_eq_getElem h']
  simp [Wd.t, rw, List.getD] at h' ⊢
  simp [h']
theorem es_eq {W : Wd} : W.es = (List.range W.m).map fun f => (W.src f, W.tgt f) := by
  apply List.ext_getElem?
  intro j
  rw [List.getElem?_map]
  by_cases h : j < W.es.length
  · rw [List.getElem?_range (show j < W.m from h), List.getElem?_eq_getElem h]
    simp [Wd.src, Wd.tgt, List.getD, h]
  · rw [List.getElem?_eq_none (by omega), List.getElem?_eq_none (by simp [Wd.m]; omega)]
    rfl
theorem rw_eq {W : Wd} (hW : IsW W) {f : Nat} (h : f < W.m) : rw W f = (List.range W.m).map fun g => W.t f g := by
  apply List.ext_getElem?
  intro j
  rw [List.getElem?_map]
  have hl := (rw_get hW h).2
  by_cases hj : j < W.m
  · rw [List.getElem?_range hj, List.getElem?_eq_getElem (by omega)]
    simp [Wd.t, rw, List.getD]
    have : j < (W.tb[f]?.getD []).length := by simpa [rw, List.getD] using (by omega : j < (rw W f).length)
    simp [this]
  · rw [List.getElem?_eq_none (by omega), List.getElem?_eq_none (by simp; omega)]
    rfl
theorem tb_eq {W : Wd} (hW : IsW W) : W.tb = (List.range W.m).map fun f => rw W f := by
  apply List.ext_getElem?
  intro j
  rw [List.getElem?_map]
  by_cases hj : j < W.m
  · rw [List.getElem?_range hj, (rw_get hW hj).1]
    rfl
  · rw [List.getElem?_eq_none (by rw [hW.rows.1]; omega), List.getElem?_eq_none (by simp; omega)]
    rfl
theorem _root_.WLD.IsW.t_iff {W : Wd} (hW : IsW W) {f g : Nat} (h : f < W.m) (h2 : g < W.m) : 0 ≤ W.t f g ↔ W.tgt f = W.src g := by
  by_cases q : W.tgt f = W.src g
  · have := (hW.yes f g h h2 q).1
    exact ⟨fun _ => q, fun _ => by rw [this]; omega⟩
  · have := hW.no f g h h2 q
    exact ⟨fun z => by omega, fun z => absurd z q⟩
theorem b_w {W : Wd} {i j k : Nat} {ρ : Rho} : bTup (bCons (bName i) (bCons (bName j) (bCons (bName k) bNil))) (wdD W) ρ = some (((ρ.set i (some (.d (.int (W.n : Nat))))).set j (some (.d (.tuple (W.es.map prN))))).set k (some (.d (.tuple (W.tb.map rowI))))) := rfl
theorem b_p {p : Nat × Nat} {i j : Nat} {ρ : Rho} : bTup (bCons (bName i) (bCons (bName j) bNil)) (prN p) ρ = some ((ρ.set i (some (.d (.int (p.1 : Nat))))).set j (some (.d (.int (p.2 : Nat))))) := rfl
theorem fLen_es {W : Wd} {Q : D → Prop} : fLen [.tuple (W.es.map prN)] Q = Q (.int (W.m : Nat)) := by simp [Wd.m]
theorem rg_nat (n : Nat) : rgD 0 (n : Int) = (List.range n).map fun i => (PyData.int (i : Nat) : D) := rgD_map n
theorem big_nat {n : Nat} (h : n ≤ 1000) : big62 0 ∧ big62 (n : Int) := ⟨by unfold big62; omega, by unfold big62; omega⟩
/-! distinct -/
theorem distinct_iff {ns : List Int} : distinct ns = ns.length ↔ ns.Nodup := by
  constructor
  · intro h
    have key : ∀ n, n ≤ ns.length → (firstMet (fun i => ns.getD i 0) n).length ≤ n ∧ ((firstMet (fun i => ns.getD i 0) n).length = n → (ns.take n).Nodup) := by
      intro n
      induction n with
      | zero => intro _; exact ⟨by simp [firstMet_zero], fun _ => by simp⟩
      | succ n ih =>
        intro hn
        obtain ⟨h1, h2⟩ := ih (by omega)
        have e := firstMet_succ (fun i => ns.getD i 0) n
        have hx : ns[n]? = some (ns.getD n 0) := by
          rw [List.getElem?_eq_getElem (by omega)]
          simp [List.getD, show n < ns.length by omega]
        rw [e]
        unfold step_dedup
        by_cases q : (firstMet (fun i => ns.getD i 0) n).any (· == ns.getD n 0) = true
        · rw [if_pos q]
          exact ⟨by omega, fun z => by omega⟩
        · rw [if_neg q]
          refine ⟨by rw [List.length_append]; simp only [List.length_cons, List.length_nil]; omega, fun z => ?_⟩
          have z' : (firstMet (fun i => ns.getD i 0) n).length = n := by rw [List.length_append] at z; simp only [List.length_cons, List.length_nil] at z; omega
          rw [List.take_add_one, hx]
          refine List.nodup_append.mpr ⟨h2 z', by simp, fun a ha b hb e => ?_⟩
          have eb : b = ns.getD n 0 := by simpa using hb
          rw [firstMet_any] at q
          refine q (List.any_eq_true.mpr ⟨a, ?_, by rw [e, eb]; simp⟩)
          obtain ⟨j, hj, ej⟩ := List.getElem_of_mem ha
          rw [List.length_take] at hj
          refine List.mem_map.mpr ⟨j, List.mem_range.mpr (by omega), ?_⟩
          rw [← ej, List.getElem_take]
          simp [List.getD, show j < ns.length by omega]
    have := (key ns.length (Nat.le_refl _)).2 h
    rwa [List.take_length] at this
  · intro h
    unfold distinct
    rw [firstMet_nodup ns h ns.length (Nat.le_refl _), List.take_length]
end K02

set_option Elab.async false
set_option linter.all false
set_option maxRecDepth 100000
set_option maxHeartbeats 4000000
namespace K02
open PySem PySem.Spec PyProof.Rows L2 DW WLD
theorem wCompF_mapT {b : WB} {we : WA} {ρ : Rho} {Q : List (List D) → Nat → Prop} {α : Type} (enc : α → D) (f : α → List D) : ∀ (xs : List α) (acc : List (List D)) (u : Nat),
    (∀ x ∈ xs, ∃ ρ', b (enc x) ρ = some ρ' ∧ ∀ u (R : List D → Nat → Prop), R (f x) u → we ρ' u R) → Q (acc ++ xs.map f) u → wCompF b we ρ (xs.map enc) acc u Q
  | [], acc, u, _, q => by simpa using q
  | x :: xs, acc, u, h, q => by
    obtain ⟨ρ', e, he⟩ := h x List.mem_cons_self
    exact ⟨ρ', e, he u _ (wCompF_mapT enc f xs _ u (fun y hy => h y (List.mem_cons_of_mem _ hy)) (by simpa using q))⟩
theorem perm_map_inv {α β : Type} {f : α → β} {g : β → α} {l : List β} {k : List α} (h : l.Perm (k.map f)) (gf : ∀ a ∈ k, g (f a) = a) : ∃ k' : List α, k'.Perm k ∧ l = k'.map f := by
  refine ⟨l.map g, ?_, ?_⟩
  · have := h.map g
    rw [List.map_map] at this
    have e : k.map (g ∘ f) = k := by
      conv => rhs; rw [← List.map_id k]
      exact List.map_congr_left fun a ha => gf a ha
    rwa [e] at this
  · rw [List.map_map]
    conv => lhs; rw [← List.map_id l]
    refine List.map_congr_left fun b hb => ?_
    obtain ⟨a, ha, rfl⟩ := List.mem_map.mp (h.mem_iff.mp hb)
    show f a = f (g (f a))
    rw [gf a ha]
theorem nodup_perm {α : Type} {l k : List α} (h1 : l.Nodup) (h2 : k.Nodup) (h : ∀ x, x ∈ l ↔ x ∈ k) : l.Perm k := (List.perm_ext_iff_of_nodup h1 h2).mpr h
theorem map_set {α β : Type} {L : List α} (nd : L.Nodup) {F F' : α → β} {a : α} (ha : a ∈ L) (h : ∀ b ∈ L, b ≠ a → F' b = F b) : (L.map F).set (ix L a) (F' a) = L.map F' := by
  apply List.ext_getElem?
  intro j
  by_cases q : ix L a = j
  · subst q
    rw [List.getElem?_set_self (by rw [List.length_map]; exact ix_lt ha), List.getElem?_map, ix_get ha]
    rfl
  · rw [List.getElem?_set_ne q, List.getElem?_map, List.getElem?_map]
    cases e : L[j]? with
    | none => rfl
    | some b =>
      have hb : b ∈ L := List.mem_of_getElem? e
      have : b ≠ a := fun z => q (by rw [← z]; exact ix_of nd e)
      simp [h b hb this]
/-- an arrow's entry in the list that is sorted -/
noncomputable def restE (C : NC) (th : List D) (k : D) : D := .tuple [.int (ix th (C.src k) : Nat), .int (ix th (C.tgt k) : Nat), C.nam k, k]
def keyE : D → D
  | .tuple [_, _, _, k] => k
  | d => d
open Classical in
/-- the arrows in the sequence of their numbers -/
theorem named_keys {C : NC} (hC : NCOk C) {th : List D} (hp : th.Perm C.th) : ∃ K1 : List D, dSort ((C.ks.filter fun k => decide (k ∉ th.map C.st)).map (restE C th)) = K1.map (restE C th) ∧ (th.map C.st ++ K1).Perm C.ks := by
  have tnd : th.Nodup := hp.nodup_iff.mpr hC.tnd
  have tin : ∀ x ∈ th, x ∈ C.th := fun x h => hp.mem_iff.mp h
  obtain ⟨K1, h1, h2⟩ := perm_map_inv (g := keyE) (dSort_perm ((C.ks.filter fun k => decide (k ∉ th.map C.st)).map (restE C th))) (fun a _ => rfl)
  refine ⟨K1, h2, ?_⟩
  have snd : (th.map C.st).Nodup := by
    refine List.pairwise_map.mpr (List.Pairwise.imp_of_mem (fun {a b} ha hb h e => h ?_) tnd)
    rw [← (hC.st_in a (tin a ha)).2.1, ← (hC.st_in b (tin b hb)).2.1, e]
  refine nodup_perm ?_ hC.knd fun x => ?_
  · refine List.nodup_append.mpr ⟨snd, h1.nodup_iff.mpr (hC.knd.filter _), fun a ha b hb e => ?_⟩
    have := (List.mem_filter.mp (h1.mem_iff.mp hb)).2
    rw [← e] at this
    exact (of_decide_eq_true this) ha
  · rw [List.mem_append, h1.mem_iff, List.mem_filter]
    constructor
    · rintro (h | h)
      · obtain ⟨y, hy, rfl⟩ := List.mem_map.mp h
        exact (hC.st_in y (tin y hy)).1
      · exact h.1
    · intro h
      by_cases q : x ∈ th.map C.st
      · exact .inl q
      · exact .inr ⟨h, decide_eq_true q⟩
end K02

set_option Elab.async false
set_option linter.all false
set_option maxRecDepth 100000
set_option maxHeartbeats 4000000
namespace K02
open PySem PySem.Spec PyProof.Rows L2 DW WLD
def unPr : D → Nat × Nat
  | .tuple [.int a, .int b] => (a.toNat, b.toNat)
  | _ => (0, 0)
theorem unPr_prN (p : Nat × Nat) : unPr (prN p) = p := by simp [unPr, prN]
theorem srt_prs (l : List (Nat × Nat)) : SrtOk (l.map prN) where
  alike := fun d hd d' hd' => by
    obtain ⟨p, _, rfl⟩ := List.mem_map.mp hd
    obtain ⟨q, _, rfl⟩ := List.mem_map.mp hd'
    rfl
  kind := .inl fun d hd => by
    obtain ⟨p, _, rfl⟩ := List.mem_map.mp hd
    exact ⟨_, _, rfl⟩
  lay := fun d hd => by
    obtain ⟨p, _, rfl⟩ := List.mem_map.mp hd
    rfl
  dep := fun d hd => by
    obtain ⟨p, _, rfl⟩ := List.mem_map.mp hd
    show (prN p).depth ≤ 30
    exact Nat.le_trans sh_prN.2.2 (by omega)
theorem sort_prs (l : List (Nat × Nat)) : ∃ l' : List (Nat × Nat), l'.Perm l ∧ dSort (l.map prN) = l'.map prN := perm_map_inv (g := unPr) (dSort_perm _) fun p _ => unPr_prN p
theorem fIndex_pr {L : List (Nat × Nat)} (nd : L.Nodup) (hl : L.length ≤ 1000) {p : Nat × Nat} (hp : p ∈ L) {Q : D → Prop} (q : Q (.int (ix L p : Nat))) : fIndex (.list (L.map prN)) (prN p) Q := by
  refine ⟨L.map prN, ix L p, prN p, rfl, ?_, ?_, by rw [List.getElem?_map, ix_get hp]; rfl, (eqv_nb _ _ rfl rfl).mpr rfl, fun m z' hm hz => ?_, q⟩
  · exact (Sh.mono (n := 2) (Sh.lst (n := 1) fun d hd => by obtain ⟨q, _, rfl⟩ := List.mem_map.mp hd; exact sh_prN) (by omega)).shaped
  · exact (sh_prN.mono (by omega)).shaped
  · rw [List.getElem?_map] at hz
    obtain ⟨r, hr, rfl⟩ := Option.map_eq_some_iff.mp hz
    cases e : PyData.eqv (prN r) (prN p) with
    | false => rfl
    | true =>
      have := prN_inj ((eqv_nb _ _ rfl rfl).mp e)
      rw [this] at hr
      have := ix_of nd hr
      omega
/-- an order's world -/
def diag (n : Nat) : List (Nat × Nat) := (List.range n).map fun x => (x, x)
theorem diag_nd (n : Nat) : (diag n).Nodup := List.pairwise_map.mpr (List.Pairwise.imp (fun {a b} h e => h (congrArg Prod.fst e)) List.nodup_range)
theorem mem_diag {n : Nat} {p : Nat × Nat} : p ∈ diag n ↔ p.1 < n ∧ p.2 = p.1 := by
  unfold diag
  rw [List.mem_map]
  constructor
  · rintro ⟨x, hx, rfl⟩
    exact ⟨List.mem_range.mp hx, rfl⟩
  · rintro ⟨h, e⟩
    exact ⟨p.1, List.mem_range.mpr h, Prod.ext rfl e.symm⟩
theorem ord_cat {n : Nat} {ps : List (Nat × Nat)} (h : OrdOk n ps) : Cat (diag n) (diag n ++ ps) (fun p => (p.1, p.1)) (fun p => (p.2, p.2)) id (fun a b => (a.1, b.2)) where
  tnd := diag_nd n
  knd := List.nodup_append.mpr ⟨diag_nd n, h.nd, fun a ha b hb e => by
    have := (h.lt b hb).2.2
    rw [← e] at this
    exact this (mem_diag.mp ha).2.symm⟩
  st_in := fun x hx => ⟨List.mem_append_left _ hx, Prod.ext rfl (mem_diag.mp hx).2.symm, Prod.ext (mem_diag.mp hx).2 rfl⟩
  ends := fun k hk => by
    rcases List.mem_append.mp hk with z | z
    · obtain ⟨a, b⟩ := mem_diag.mp z
      exact ⟨mem_diag.mpr ⟨a, rfl⟩, mem_diag.mpr ⟨by rw [b]; exact a, rfl⟩⟩
    · obtain ⟨a, b, _⟩ := h.lt k z
      exact ⟨mem_diag.mpr ⟨a, rfl⟩, mem_diag.mpr ⟨b, rfl⟩⟩
  fo_in := fun a ha b hb e => by
    have e' : a.2 = b.1 := congrArg Prod.fst e
    refine ⟨?_, rfl, rfl⟩
    rcases List.mem_append.mp ha with z | z
    · have := (mem_diag.mp z).2
      have : ((a.1, b.2) : Nat × Nat) = b := Prod.ext (by rw [← e', this]) rfl
      rw [this]; exact hb
    · rcases List.mem_append.mp hb with y | y
      · have := (mem_diag.mp y).2
        have : ((a.1, b.2) : Nat × Nat) = a := Prod.ext rfl (by rw [this, e'])
        rw [this]; exact ha
      · by_cases q : a.1 = b.2
        · exact List.mem_append_left _ (mem_diag.mpr ⟨(h.lt a z).1, q.symm⟩)
        · exact List.mem_append_right _ (h.tr a.1 a.2 b.2 z (by rw [e']; exact y) q)
  unit := fun k _ => ⟨rfl, rfl⟩
  assoc := fun a _ b _ c _ _ _ => rfl
end K02

set_option Elab.async false
set_option linter.all false
set_option maxRecDepth 100000
set_option maxHeartbeats 4000000
namespace K02
open PySem PySem.Spec PyProof.Rows L2 DW WLD
def intsD (l : List Nat) : D := .tuple (l.map fun e => .int (e : Nat))
theorem intsD_inj {a b : List Nat} (h : intsD a = intsD b) : a = b := by
  unfold intsD at h
  exact (List.map_inj_right (fun x y e => Int.ofNat_inj.mp (PyData.int.inj e))).mp (PyData.tuple.inj h)
theorem mvD_eq (v : Mv) : mvD v = .tuple [.int v.x, .int v.y, intsD v.im] := rfl
theorem mvD_inj {a b : Mv} (h : mvD a = mvD b) : a = b := by
  rw [mvD_eq, mvD_eq] at h
  simp only [PyData.tuple.injEq, List.cons.injEq, PyData.int.injEq, and_true] at h
  obtain ⟨h1, h2, h3⟩ := h
  cases a; cases b
  simp only [Mv.mk.injEq]
  exact ⟨Int.ofNat_inj.mp h1, Int.ofNat_inj.mp h2, intsD_inj h3⟩
def unI : D → Nat
  | .int i => i.toNat
  | _ => 0
def unMv : D → Mv
  | .tuple [.int x, .int y, .tuple xs] => ⟨x.toNat, y.toNat, xs.map unI⟩
  | _ => ⟨0, 0, []⟩
theorem unMv_mvD (v : Mv) : unMv (mvD v) = v := by
  cases v with
  | mk x y im =>
    have : (im.map fun e => unI (.int (e : Nat))) = im := by
      conv => rhs; rw [← List.map_id im]
      exact List.map_congr_left fun e _ => by simp [unI]
    show (⟨(x : Int).toNat, (y : Int).toNat, (im.map fun e => (PyData.int (e : Nat) : D)).map unI⟩ : Mv) = _
    rw [List.map_map]
    simp only [Int.toNat_natCast, Mv.mk.injEq, true_and]
    exact this
theorem isKs_ints : ∀ (l : List Nat), isKs (l.map fun e => (.int (e : Nat) : D)) = true ∧ PyData.depthAll (l.map fun e => (.int (e : Nat) : D)) = 0 ∧ PyData.canLayAll0 (l.map fun e => (.int (e : Nat) : D)) = true
  | [] => by simp [isKs, PyData.depthAll, PyData.canLayAll0]
  | e :: l => by
    obtain ⟨a, b, c⟩ := isKs_ints l
    simp [isKs, isK, PyData.depthAll, PyData.depth, PyData.canLayAll0, PyData.canLay0, a, b, c]
theorem mvD_key (v : Mv) : isKs [.int v.x, .int v.y, intsD v.im] = true ∧ PyData.depthAll [.int v.x, .int v.y, intsD v.im] = 1 ∧ (mvD v).canLay0 = true ∧ (mvD v).depth = 2 := by
  obtain ⟨a, b, c⟩ := isKs_ints v.im
  have d : PyData.depthAll [.int v.x, .int v.y, intsD v.im] = 1 := by
    simp [PyData.depthAll, PyData.depth, intsD, b]
  refine ⟨by simp [isKs, isK, intsD, a], d, ?_, ?_⟩
  · rw [mvD_eq]
    simp [PyData.canLay0, PyData.canLayAll0, intsD, c]
  · rw [mvD_eq, PyData.depth, d]
theorem HK_mvs (l : List Mv) : HK (l.map mvD) := .inr fun d hd => by
  obtain ⟨v, _, rfl⟩ := List.mem_map.mp hd
  obtain ⟨a, b, _⟩ := mvD_key v
  exact ⟨_, mvD_eq v, a, by rw [b]; omega⟩
theorem alike_ints : ∀ (a b : List Nat), PySem.W.alikeAll (a.map fun e => (.int (e : Nat) : D)) (b.map fun e => (.int (e : Nat) : D)) = true
  | [], _ => by simp [PySem.W.alikeAll]
  | _ :: _, [] => by simp [PySem.W.alikeAll]
  | x :: a, y :: b => by simp [PySem.W.alikeAll, PySem.W.alike, alike_ints a b]
theorem alike_mv (a b : Mv) : PySem.W.alike (mvD a) (mvD b) = true := by
  rw [mvD_eq, mvD_eq]
  simp [PySem.W.alike, PySem.W.alikeAll, intsD, alike_ints]
/-! moves behind one another -/
theorem comM_is {sz : List Nat} {a b : Mv} (ha : IsMv sz a) (hb : IsMv sz b) (h : a.y = b.x) : IsMv sz (comM a b) := by
  refine ⟨ha.1, hb.2.1, by simp [comM, ha.2.2.1], fun e he => ?_⟩
  simp only [comM, List.mem_map] at he ⊢
  obtain ⟨i, hi, rfl⟩ := he
  have hl : i < b.im.length := by rw [hb.2.2.1, ← h]; exact ha.2.2.2 i hi
  have : b.im.getD i 0 = b.im[i] := by simp [List.getD, hl]
  rw [this]
  exact hb.2.2.2 _ (List.getElem_mem hl)
theorem idM_is {sz : List Nat} {x : Nat} (h : x < sz.length) : IsMv sz (idM sz x) := ⟨h, h, by simp [idM], fun e he => by simpa [idM] using he⟩
theorem idM_left {sz : List Nat} {a : Mv} (ha : IsMv sz a) : comM (idM sz a.x) a = a := by
  cases a with
  | mk x y im =>
    simp only [comM, idM, Mv.mk.injEq, true_and]
    have hl : im.length = sz.getD x 0 := ha.2.2.1
    apply List.ext_getElem?
    intro j
    rw [List.getElem?_map]
    by_cases hj : j < im.length
    · rw [List.getElem?_range (by omega), List.getElem?_eq_getElem hj]
      simp [List.getD, hj]
    · rw [List.getElem?_eq_none (by rw [List.length_range]; omega), List.getElem?_eq_none (by omega)]
      rfl
theorem idM_right {sz : List Nat} {a : Mv} (ha : IsMv sz a) : comM a (idM sz a.y) = a := by
  cases a with
  | mk x y im =>
    simp only [comM, idM, Mv.mk.injEq, true_and]
    conv => rhs; rw [← List.map_id im]
    refine List.map_congr_left fun e he => ?_
    have : e < sz.getD y 0 := ha.2.2.2 e he
    simp [List.getD] at this ⊢
    simp [this]
theorem comM_assoc {sz : List Nat} {a b c : Mv} (ha : IsMv sz a) (hb : IsMv sz b) (h : a.y = b.x) : comM (comM a b) c = comM a (comM b c) := by
  simp only [comM, Mv.mk.injEq, true_and, List.map_map]
  refine List.map_congr_left fun e he => ?_
  have hl : e < b.im.length := by rw [hb.2.2.1, ← h]; exact ha.2.2.2 e he
  simp [List.getD, hl]
/-- the names of a world of moves -/
def mvC (sz : List Nat) (l : List Mv) : NC where
  th := (List.range sz.length).map fun x => .int (x : Nat)
  ks := l.map mvD
  src := fun d => .int ((unMv d).x : Nat)
  tgt := fun d => .int ((unMv d).y : Nat)
  nam := fun d => intsD (unMv d).im
  st := fun d => mvD (idM sz (unI d))
  fo := fun a b => mvD (comM (unMv a) (unMv b))
  fk := l.flatMap fun a => (l.filter fun b => decide (a.y = b.x)).map fun b => (mvD a, mvD b)
theorem mvC_ok {sz : List Nat} {l : List Mv} (hz : SzOk sz) (hl : MvsOk sz l) (h40 : l.length ≤ 40) : NCOk (mvC sz l) where
  tnd := List.pairwise_map.mpr (List.Pairwise.imp (fun {a b} h e => h (Int.ofNat_inj.mp (PyData.int.inj e))) List.nodup_range)
  knd := List.pairwise_map.mpr (List.Pairwise.imp (fun {a b} h e => h (mvD_inj e)) hl.nd)
  st_in := fun x hx => by
    obtain ⟨k, hk, rfl⟩ := List.mem_map.mp hx
    have hk := List.mem_range.mp hk
    have e : unI (.int (k : Nat)) = k := by simp [unI]
    refine ⟨List.mem_map.mpr ⟨idM sz k, hl.id k hk, by show mvD _ = mvD (idM sz (unI (.int (k : Nat)))); rw [e]⟩, ?_, ?_⟩
    · show PyData.int ((unMv (mvD (idM sz (unI (.int (k : Nat)))))).x : Nat) = _
      rw [unMv_mvD, e]; rfl
    · show PyData.int ((unMv (mvD (idM sz (unI (.int (k : Nat)))))).y : Nat) = _
      rw [unMv_mvD, e]; rfl
  ends := fun k hk => by
    obtain ⟨v, hv, rfl⟩ := List.mem_map.mp hk
    obtain ⟨a, b, _⟩ := hl.mv v hv
    exact ⟨List.mem_map.mpr ⟨v.x, List.mem_range.mpr a, by show _ = PyData.int ((unMv (mvD v)).x : Nat); rw [unMv_mvD]⟩, List.mem_map.mpr ⟨v.y, List.mem_range.mpr b, by show _ = PyData.int ((unMv (mvD v)).y : Nat); rw [unMv_mvD]⟩⟩
  fo_in := fun a ha b hb e => by
    obtain ⟨v, hv, rfl⟩ := List.mem_map.mp ha
    obtain ⟨w, hw, rfl⟩ := List.mem_map.mp hb
    simp only [mvC, unMv_mvD] at e ⊢
    have e' : v.y = w.x := Int.ofNat_inj.mp (PyData.int.inj e)
    exact ⟨List.mem_map.mpr ⟨_, hl.cl v hv w hw e', rfl⟩, rfl, rfl⟩
  unit := fun k hk => by
    obtain ⟨v, hv, rfl⟩ := List.mem_map.mp hk
    simp only [mvC, unMv_mvD]
    have e1 : unI (.int (v.x : Nat)) = v.x := by simp [unI]
    have e2 : unI (.int (v.y : Nat)) = v.y := by simp [unI]
    rw [e1, e2, idM_left (hl.mv v hv), idM_right (hl.mv v hv)]
    exact ⟨rfl, rfl⟩
  assoc := fun a ha b hb c hc e1 e2 => by
    obtain ⟨v, hv, rfl⟩ := List.mem_map.mp ha
    obtain ⟨w, hw, rfl⟩ := List.mem_map.mp hb
    obtain ⟨z, hz, rfl⟩ := List.mem_map.mp hc
    simp only [mvC, unMv_mvD] at e1 ⊢
    rw [comM_assoc (hl.mv v hv) (hl.mv w hw) (Int.ofNat_inj.mp (PyData.int.inj e1))]
  thk := .inl fun d hd => by
    obtain ⟨k, _, rfl⟩ := List.mem_map.mp hd
    exact ⟨_, rfl⟩
  ksk := HK_mvs l
  ksd := fun k hk => by
    obtain ⟨v, _, rfl⟩ := List.mem_map.mp hk
    rw [(mvD_key v).2.2.2]; omega
  tlen := by show ((List.range sz.length).map _).length ≤ 100; rw [List.length_map, List.length_range]; have := hz.2.1; omega
  klen := by show (l.map mvD).length ≤ 100; rw [List.length_map]; omega
  fkin := fun p hp => by
    obtain ⟨a, ha, h⟩ := List.mem_flatMap.mp hp
    obtain ⟨b, hb, rfl⟩ := List.mem_map.mp h
    obtain ⟨hb1, hb2⟩ := List.mem_filter.mp hb
    refine ⟨List.mem_map.mpr ⟨a, ha, rfl⟩, List.mem_map.mpr ⟨b, hb1, rfl⟩, ?_⟩
    simp only [mvC, unMv_mvD]
    rw [of_decide_eq_true hb2]
  fkall := fun a ha b hb e => by
    obtain ⟨v, hv, rfl⟩ := List.mem_map.mp ha
    obtain ⟨w, hw, rfl⟩ := List.mem_map.mp hb
    simp only [mvC, unMv_mvD] at e
    exact List.mem_flatMap.mpr ⟨v, hv, List.mem_map.mpr ⟨w, List.mem_filter.mpr ⟨hw, decide_eq_true (Int.ofNat_inj.mp (PyData.int.inj e))⟩, rfl⟩⟩
  fknd := by
    show (l.flatMap fun a => (l.filter fun b => decide (a.y = b.x)).map fun b => (mvD a, mvD b)).Nodup
    refine List.pairwise_flatMap.mpr ⟨fun a _ => List.pairwise_map.mpr (List.Pairwise.imp (fun {x y} h e => h (mvD_inj (congrArg Prod.snd e))) (hl.nd.filter _)), List.Pairwise.imp (fun {a b} h => ?_) hl.nd⟩
    intro z hz1 z' hz2 e
    obtain ⟨_, _, rfl⟩ := List.mem_map.mp hz1
    obtain ⟨_, _, rfl⟩ := List.mem_map.mp hz2
    exact h (mvD_inj (congrArg Prod.fst e))
  fkl := by
    show (l.flatMap fun a => (l.filter fun b => decide (a.y = b.x)).map fun b => (mvD a, mvD b)).length < 100000
    rw [List.length_flatMap]
    have : ∀ k : List Mv, (k.map fun a => ((l.filter fun b => decide (a.y = b.x)).map fun b => (mvD a, mvD b)).length).sum ≤ k.length * 40 := by
      intro k
      induction k with
      | nil => simp
      | cons a k ih =>
        have h1 := List.length_filter_le (fun b => decide (a.y = b.x)) l
        rw [List.map_cons, List.sum_cons, List.length_map, List.length_cons]
        omega
    have := this l
    omega
  ths := {
    alike := fun d hd d' hd' => by
      obtain ⟨p, _, rfl⟩ := List.mem_map.mp hd
      obtain ⟨q, _, rfl⟩ := List.mem_map.mp hd'
      rfl
    kind := .inr fun d hd => by
      obtain ⟨p, _, rfl⟩ := List.mem_map.mp hd
      exact ⟨by simp, by simp⟩
    lay := fun d hd => by
      obtain ⟨p, _, rfl⟩ := List.mem_map.mp hd
      rfl
    dep := fun d hd => by
      obtain ⟨p, _, rfl⟩ := List.mem_map.mp hd
      simp [PyData.depth] }
  rs := fun k hk => {
    alike := fun d hd d' hd' => by
      obtain ⟨p, hp, rfl⟩ := List.mem_map.mp hd
      obtain ⟨q, hq, rfl⟩ := List.mem_map.mp hd'
      obtain ⟨v, _, e⟩ := List.mem_map.mp (hk p hp)
      obtain ⟨w, _, e2⟩ := List.mem_map.mp (hk q hq)
      rw [← e, ← e2]
      simp only [mvC, unMv_mvD]
      simp [PySem.W.alike, PySem.W.alikeAll, intsD, alike_ints, alike_mv]
    kind := .inl fun d hd => by
      obtain ⟨p, _, rfl⟩ := List.mem_map.mp hd
      exact ⟨_, _, rfl⟩
    lay := fun d hd => by
      obtain ⟨p, hp, rfl⟩ := List.mem_map.mp hd
      obtain ⟨v, _, e⟩ := List.mem_map.mp (hk p hp)
      rw [← e]
      simp [PyData.canLay0, PyData.canLayAll0, mvC, intsD, (isKs_ints _).2.2, (mvD_key v).2.2.1]
    dep := fun d hd => by
      obtain ⟨p, hp, rfl⟩ := List.mem_map.mp hd
      obtain ⟨v, _, e⟩ := List.mem_map.mp (hk p hp)
      rw [← e]
      simp only [PyData.depth, PyData.depthAll, mvC, intsD, (isKs_ints _).2.1, (mvD_key v).2.2.2]
      omega }
end K02

set_option Elab.async false
set_option linter.all false
set_option maxRecDepth 100000
set_option maxHeartbeats 4000000
namespace K02
open PySem PySem.Spec PyProof.Rows L2 DW WLD
theorem i_m0 {v : Mv} {Q : D → Prop} : fIx (mvD v) (.int 0) Q = Q (.int (v.x : Nat)) := fIx_getT (i := 0) rfl
theorem i_m1 {v : Mv} {Q : D → Prop} : fIx (mvD v) (.int 1) Q = Q (.int (v.y : Nat)) := fIx_getT (i := 1) rfl
theorem i_m2 {v : Mv} {Q : D → Prop} : fIx (mvD v) (.int 2) Q = Q (intsD v.im) := fIx_getT (i := 2) rfl
theorem put_snoc {α : Type} {S : List D} (hk : HK S) {l : List α} {k v : α → D} {b : α} (hin : ∀ a ∈ l, k a ∈ S) (hb : k b ∈ S) (nb : ∀ a ∈ l, k a ≠ k b) :
    dPut (l.map fun a => (k a, v a)) (k b) (v b) = (l ++ [b]).map fun a => (k a, v a) := by
  rw [dPut_new, List.map_append]
  · rfl
  · intro p hp
    obtain ⟨a, ha, rfl⟩ := List.mem_map.mp hp
    exact hk.isK (hin a ha)
  · exact hk.isK hb
  · intro p hp
    obtain ⟨a, ha, rfl⟩ := List.mem_map.mp hp
    exact nb a ha
theorem ok_map {α : Type} {S : List D} (hk : HK S) {l : List α} {k v : α → D} {b : D} (hin : ∀ a ∈ l, k a ∈ S) (hb : b ∈ S) : KOk (l.map fun a => (k a, v a)) b :=
  hk.ok (fun p hp => by obtain ⟨a, ha, rfl⟩ := List.mem_map.mp hp; exact hin a ha) hb
/-- two moves behind one another, as written -/
theorem w_com {a b c : Nat} {ρ : Rho} {u : Nat} {Q : D → Nat → Prop} {v w : Mv} (ha : ρ[a]? = some (some (.d (mvD v)))) (hb : ρ[b]? = some (some (.d (mvD w)))) (hc : c < ρ.length) (hbc : c ≠ b) (hin : ∀ e ∈ v.im, e < w.im.length) (hl : v.im.length ≤ 1000) (q : Q (mvD (comM v w)) u) :
    wTup (waCons (w2 fIx (wVar a) (wC (.int 0))) (waCons (w2 fIx (wVar b) (wC (.int 1))) (waCons (wCall fTupOf (waCons (wfD (wLc (wi1 (w2 fIx (wVar a) (wC (.int 2)))) (bName c) wTy (w2 fIx (w2 fIx (wVar b) (wC (.int 2))) (wVar c)) [c])) waNil)) waNil))) ρ u Q := by
  simp only [wTup, waCons, waNil, w2, wVar, wC, wCall, wfD, wLc, wi1]
  refine ⟨_, ha, rfl, ?_⟩
  simp only [SV.val]
  rw [i_m0]
  refine ⟨_, hb, rfl, ?_⟩
  simp only [SV.val]
  rw [i_m1]
  refine ⟨_, ha, rfl, ?_⟩
  simp only [SV.val]
  rw [i_m2]
  simp only [intsD, seqD, wipeR]
  refine ⟨by simp; omega, ?_⟩
  refine wComp_mapT (fun e : Nat => (PyData.int (e : Nat) : D)) (fun e => .int (w.im.getD e 0 : Nat)) v.im [] u (fun e he => ⟨_, rfl, fun u R r => ?_⟩) ?_
  · simp only [w2, wVar, wC]
    refine ⟨.d (mvD w), by rw [List.getElem?_set_ne hbc, List.getElem?_set_ne hbc]; exact hb, rfl, ?_⟩
    simp only [SV.val]
    rw [i_m2]
    refine ⟨.d (.int (e : Nat)), by rw [List.getElem?_set_self (by rw [List.length_set]; exact hc)], rfl, ?_⟩
    simp only [SV.val]
    have h := hin e he
    rw [intsD, fIx_getT (z := .int (w.im.getD e 0 : Nat))]
    · exact r
    · rw [List.getElem?_map, List.getElem?_eq_getElem h]
      simp [List.getD, h]
  simp only [List.nil_append, fTupOf]
  refine ⟨by simp, ?_⟩
  simp only [mvD, comM, List.map_map] at q
  exact q
def fkP (l1 l : List Mv) : List (Mv × Mv) := l1.flatMap fun a => (l.filter fun b => decide (a.y = b.x)).map fun b => (a, b)
theorem fkP_mem {l1 l : List Mv} {p : Mv × Mv} : p ∈ fkP l1 l ↔ p.1 ∈ l1 ∧ p.2 ∈ l ∧ p.1.y = p.2.x := by
  unfold fkP
  rw [List.mem_flatMap]
  constructor
  · rintro ⟨a, ha, h⟩
    obtain ⟨b, hb, rfl⟩ := List.mem_map.mp h
    obtain ⟨h1, h2⟩ := List.mem_filter.mp hb
    exact ⟨ha, h1, of_decide_eq_true h2⟩
  · rintro ⟨h1, h2, h3⟩
    exact ⟨p.1, h1, List.mem_map.mpr ⟨p.2, List.mem_filter.mpr ⟨h2, decide_eq_true h3⟩, rfl⟩⟩
theorem fkP_len (l : List Mv) : ∀ k : List Mv, (fkP k l).length ≤ k.length * l.length
  | [] => by simp [fkP]
  | a :: k => by
    have ih := fkP_len l k
    have h1 := List.length_filter_le (fun b => decide (a.y = b.x)) l
    unfold fkP at ih ⊢
    rw [List.flatMap_cons, List.length_append, List.length_map, List.length_cons, Nat.add_mul]
    omega
def kP (p : Mv × Mv) : D := .tuple [mvD p.1, mvD p.2]
def vP (p : Mv × Mv) : D := mvD (comM p.1 p.2)
theorem kP_inj {p q : Mv × Mv} (h : kP p = kP q) : p = q := by
  simp only [kP, PyData.tuple.injEq, List.cons.injEq, and_true] at h
  exact Prod.ext (mvD_inj h.1) (mvD_inj h.2)
theorem HK_kP (S : List (Mv × Mv)) : HK (S.map kP) := .inr fun d hd => by
  obtain ⟨p, _, rfl⟩ := List.mem_map.mp hd
  obtain ⟨a, b, _, _⟩ := mvD_key p.1
  obtain ⟨a2, b2, _, _⟩ := mvD_key p.2
  refine ⟨_, rfl, ?_, ?_⟩
  · rw [mvD_eq, mvD_eq]
    simp [isKs, isK, a, a2] at a a2 ⊢
    simp [isKs, isK, a, a2]
  · have h1 := (mvD_key p.1).2.2.2
    have h2 := (mvD_key p.2).2.2.2
    simp only [PyData.depthAll, h1, h2]
    omega
theorem wm_take {α : Type} {l : List α} {i : Nat} {x : α} (h : l[i]? = some x) : l.take (i + 1) = l.take i ++ [x] := by
  rw [List.take_add_one, h]; rfl
theorem wm_not {α : Type} {l : List α} (nd : l.Nodup) {i : Nat} {x : α} (h : l[i]? = some x) : x ∉ l.take i := fun m => by
  obtain ⟨j, hj, e⟩ := List.getElem_of_mem m
  rw [List.length_take] at hj
  have e1 : l[j]? = some x := by
    rw [← e, List.getElem_take]
    exact List.getElem?_eq_getElem (by omega)
  have := (List.getElem?_inj (by omega) nd).mp (e1.trans h.symm)
  omega
theorem sz_get {sz : List Nat} (hz : SzOk sz) {x : Nat} (h : x < sz.length) : 1 ≤ sz.getD x 0 ∧ sz.getD x 0 ≤ 3 := by
  have : sz.getD x 0 ∈ sz := by
    simp [List.getD, h]
  exact hz.2.2 _ this
end K02

set_option Elab.async false
set_option linter.all false
set_option maxRecDepth 100000
set_option maxHeartbeats 4000000
namespace K02
open PySem PySem.Spec PyProof.Rows L2 DW WLD
def twoS (i : Nat) (k : Nat → Nat) : List (Nat × Nat) := (List.range i).flatMap fun s => (List.range (k s)).map fun x => (s, x)
theorem mem_twoS {i : Nat} {k : Nat → Nat} {p : Nat × Nat} : p ∈ twoS i k ↔ p.1 < i ∧ p.2 < k p.1 := by
  unfold twoS
  rw [List.mem_flatMap]
  constructor
  · rintro ⟨s, hs, h⟩
    obtain ⟨x, hx, rfl⟩ := List.mem_map.mp h
    exact ⟨List.mem_range.mp hs, List.mem_range.mp hx⟩
  · rintro ⟨h1, h2⟩
    exact ⟨p.1, List.mem_range.mpr h1, List.mem_map.mpr ⟨p.2, List.mem_range.mpr h2, rfl⟩⟩
theorem twoS_succ (i : Nat) (k : Nat → Nat) : twoS (i + 1) k = twoS i k ++ (List.range (k i)).map fun x => (i, x) := by
  unfold twoS
  rw [List.range_succ, List.flatMap_append]
  simp
theorem twoS_nd (i : Nat) (k : Nat → Nat) : (twoS i k).Nodup := by
  refine List.pairwise_flatMap.mpr ⟨fun s _ => List.pairwise_map.mpr (List.Pairwise.imp (fun {a b} h e => h (congrArg Prod.snd e)) List.nodup_range), List.Pairwise.imp (fun {a b} h => ?_) List.nodup_range⟩
  intro x hx y hy e
  obtain ⟨_, _, rfl⟩ := List.mem_map.mp hx
  obtain ⟨_, _, rfl⟩ := List.mem_map.mp hy
  exact h (congrArg Prod.fst e)
theorem twoS_len (k : Nat → Nat) : (twoS 2 k).length = k 0 + k 1 := by
  rw [twoS_succ, twoS_succ]
  simp [twoS]
theorem fm_len {α β : Type} {f : α → List β} {B : Nat} : ∀ (l : List α), (∀ a ∈ l, (f a).length ≤ B) → (l.flatMap f).length ≤ l.length * B
  | [], _ => by simp
  | a :: l, h => by
    have h1 := h a List.mem_cons_self
    have h2 := fm_len l fun b hb => h b (List.mem_cons_of_mem _ hb)
    rw [List.flatMap_cons, List.length_append, List.length_cons, Nat.add_mul]
    omega
def rowS (V : Nat → Wd) (s f j : Nat) : List ((Nat × Nat) × (Nat × Nat)) := ((List.range j).filter fun g => decide (0 ≤ (V s).t f g)).map fun g => ((s, f), (s, g))
def fkS (V : Nat → Wd) (s j : Nat) : List ((Nat × Nat) × (Nat × Nat)) := (List.range j).flatMap fun f => rowS V s f (V s).m
def FK (V : Nat → Wd) (i : Nat) : List ((Nat × Nat) × (Nat × Nat)) := (List.range i).flatMap fun s => fkS V s (V s).m
theorem mem_rowS {V : Nat → Wd} {s f j : Nat} {p} : p ∈ rowS V s f j ↔ p.1 = (s, f) ∧ p.2.1 = s ∧ p.2.2 < j ∧ 0 ≤ (V s).t f p.2.2 := by
  unfold rowS
  rw [List.mem_map]
  constructor
  · rintro ⟨g, hg, rfl⟩
    obtain ⟨h1, h2⟩ := List.mem_filter.mp hg
    exact ⟨rfl, rfl, List.mem_range.mp h1, of_decide_eq_true h2⟩
  · rintro ⟨h1, h2, h3, h4⟩
    exact ⟨p.2.2, List.mem_filter.mpr ⟨List.mem_range.mpr h3, decide_eq_true h4⟩, Prod.ext h1.symm (Prod.ext h2.symm rfl)⟩
theorem mem_fkS {V : Nat → Wd} {s j : Nat} {p} : p ∈ fkS V s j ↔ p.1.1 = s ∧ p.2.1 = s ∧ p.1.2 < j ∧ p.2.2 < (V s).m ∧ 0 ≤ (V s).t p.1.2 p.2.2 := by
  unfold fkS
  rw [List.mem_flatMap]
  constructor
  · rintro ⟨f, hf, h⟩
    obtain ⟨h1, h2, h3, h4⟩ := mem_rowS.mp h
    rw [h1]
    exact ⟨rfl, h2, List.mem_range.mp hf, h3, h4⟩
  · rintro ⟨h1, h2, h3, h4, h5⟩
    exact ⟨p.1.2, List.mem_range.mpr h3, mem_rowS.mpr ⟨Prod.ext h1 rfl, h2, h4, h5⟩⟩
theorem mem_FK {V : Nat → Wd} {i : Nat} {p} : p ∈ FK V i ↔ p.1.1 < i ∧ p.2.1 = p.1.1 ∧ p.1.2 < (V p.1.1).m ∧ p.2.2 < (V p.1.1).m ∧ 0 ≤ (V p.1.1).t p.1.2 p.2.2 := by
  unfold FK
  rw [List.mem_flatMap]
  constructor
  · rintro ⟨s, hs, h⟩
    obtain ⟨h1, h2, h3, h4, h5⟩ := mem_fkS.mp h
    rw [h1]
    exact ⟨List.mem_range.mp hs, h2, h3, h4, h5⟩
  · rintro ⟨h1, h2, h3, h4, h5⟩
    exact ⟨p.1.1, List.mem_range.mpr h1, mem_fkS.mpr ⟨rfl, h2, h3, h4, h5⟩⟩
theorem FK_nd (V : Nat → Wd) (i : Nat) : (FK V i).Nodup := by
  refine List.pairwise_flatMap.mpr ⟨fun s _ => List.pairwise_flatMap.mpr ⟨fun f _ => List.pairwise_map.mpr (List.Pairwise.imp (fun {a b} h e => h (congrArg (fun p => p.2.2) e)) (List.nodup_range.filter _)), List.Pairwise.imp (fun {a b} h => ?_) List.nodup_range⟩, List.Pairwise.imp (fun {a b} h => ?_) List.nodup_range⟩
  · intro x hx y hy e
    have h1 := (mem_rowS.mp hx).1
    have h2 := (mem_rowS.mp hy).1
    rw [e, h2] at h1
    exact h (congrArg Prod.snd h1).symm
  · intro x hx y hy e
    have h1 := (mem_fkS.mp hx).1
    have h2 := (mem_fkS.mp hy).1
    rw [e, h2] at h1
    exact h h1.symm
theorem rowS_len {V : Nat → Wd} {s f j : Nat} : (rowS V s f j).length ≤ j := by
  unfold rowS
  rw [List.length_map]
  have := List.length_filter_le (fun g => decide (0 ≤ (V s).t f g)) (List.range j)
  rwa [List.length_range] at this
theorem fkS_len {V : Nat → Wd} {s j : Nat} : (fkS V s j).length ≤ j * (V s).m := by
  have := fm_len (f := fun f => rowS V s f (V s).m) (B := (V s).m) (List.range j) fun f _ => rowS_len
  rwa [List.length_range] at this
theorem FK_len {V : Nat → Wd} {i : Nat} (h : ∀ s, (V s).m ≤ 40) : (FK V i).length ≤ i * 1600 := by
  have := fm_len (f := fun s => fkS V s (V s).m) (B := 1600) (List.range i) fun s _ => by
    have a := fkS_len (V := V) (s := s) (j := (V s).m)
    have b : (V s).m * (V s).m ≤ 40 * 40 := Nat.mul_le_mul (h s) (h s)
    omega
  rwa [List.length_range] at this
theorem HK_prs (l : List (Nat × Nat)) : HK (l.map prN) := .inr fun d hd => by
  obtain ⟨p, _, rfl⟩ := List.mem_map.mp hd
  exact ⟨_, rfl, by simp [isKs, isK], by simp [PyData.depthAll, PyData.depth]⟩
/-- two worlds beside one another -/
def smC (V : Nat → Wd) : NC where
  th := (twoS 2 fun s => (V s).n).map prN
  ks := (twoS 2 fun s => (V s).m).map prN
  src := fun d => prN ((unPr d).1, (V (unPr d).1).src (unPr d).2)
  tgt := fun d => prN ((unPr d).1, (V (unPr d).1).tgt (unPr d).2)
  nam := id
  st := id
  fo := fun a b => prN ((unPr a).1, (V (unPr a).1).c (unPr a).2 (unPr b).2)
  fk := (FK V 2).map fun p => (prN p.1, prN p.2)
theorem smC_ok {V : Nat → Wd} (hV : ∀ s, IsW (V s)) (hm : ∀ s, (V s).m ≤ 40) : NCOk (smC V) where
  tnd := List.pairwise_map.mpr (List.Pairwise.imp (fun {a b} h e => h (prN_inj e)) (twoS_nd _ _))
  knd := List.pairwise_map.mpr (List.Pairwise.imp (fun {a b} h e => h (prN_inj e)) (twoS_nd _ _))
  st_in := fun x hx => by
    obtain ⟨p, hp, rfl⟩ := List.mem_map.mp hx
    obtain ⟨h1, h2⟩ := mem_twoS.mp hp
    have h3 := (hV p.1).still p.2 h2
    have h4 := (hV p.1).nm
    refine ⟨List.mem_map.mpr ⟨p, mem_twoS.mpr ⟨h1, by omega⟩, rfl⟩, ?_, ?_⟩
    · simp only [smC, id, unPr_prN, h3.1]
    · simp only [smC, id, unPr_prN, h3.2]
  ends := fun k hk => by
    obtain ⟨p, hp, rfl⟩ := List.mem_map.mp hk
    obtain ⟨h1, h2⟩ := mem_twoS.mp hp
    have h3 := (hV p.1).ends p.2 h2
    simp only [smC, unPr_prN]
    exact ⟨List.mem_map.mpr ⟨(p.1, (V p.1).src p.2), mem_twoS.mpr ⟨h1, h3.1⟩, rfl⟩, List.mem_map.mpr ⟨(p.1, (V p.1).tgt p.2), mem_twoS.mpr ⟨h1, h3.2⟩, rfl⟩⟩
  fo_in := fun a ha b hb e => by
    obtain ⟨p, hp, rfl⟩ := List.mem_map.mp ha
    obtain ⟨q, hq, rfl⟩ := List.mem_map.mp hb
    obtain ⟨h1, h2⟩ := mem_twoS.mp hp
    obtain ⟨h3, h4⟩ := mem_twoS.mp hq
    simp only [smC, unPr_prN] at e ⊢
    have e' := prN_inj e
    have es : p.1 = q.1 := (Prod.mk.inj e').1
    have et : (V p.1).tgt p.2 = (V q.1).src q.2 := (Prod.mk.inj e').2
    rw [← es] at et h4 ⊢
    obtain ⟨y1, y2, y3, y4⟩ := (hV p.1).yes p.2 q.2 h2 h4 et
    exact ⟨List.mem_map.mpr ⟨(p.1, (V p.1).c p.2 q.2), mem_twoS.mpr ⟨h1, y2⟩, rfl⟩, by rw [y3], by rw [y4]⟩
  unit := fun k hk => by
    obtain ⟨p, hp, rfl⟩ := List.mem_map.mp hk
    obtain ⟨h1, h2⟩ := mem_twoS.mp hp
    have h3 := (hV p.1).unit p.2 h2
    refine ⟨?_, ?_⟩
    · simp only [smC, id, unPr_prN, h3.1]
    · simp only [smC, id, unPr_prN, h3.2]
  assoc := fun a ha b hb c hc e1 e2 => by
    obtain ⟨p, hp, rfl⟩ := List.mem_map.mp ha
    obtain ⟨q, hq, rfl⟩ := List.mem_map.mp hb
    obtain ⟨r, hr, rfl⟩ := List.mem_map.mp hc
    obtain ⟨h1, h2⟩ := mem_twoS.mp hp
    obtain ⟨h3, h4⟩ := mem_twoS.mp hq
    obtain ⟨h5, h6⟩ := mem_twoS.mp hr
    simp only [smC, unPr_prN] at e1 e2 ⊢
    have a1 := prN_inj e1
    have a2 := prN_inj e2
    have es : p.1 = q.1 := (Prod.mk.inj a1).1
    have es2 : q.1 = r.1 := (Prod.mk.inj a2).1
    have et : (V p.1).tgt p.2 = (V q.1).src q.2 := (Prod.mk.inj a1).2
    have et2 : (V q.1).tgt q.2 = (V r.1).src r.2 := (Prod.mk.inj a2).2
    rw [← es2, ← es] at et2 h6
    rw [← es] at et h4 ⊢
    rw [(hV p.1).assoc p.2 q.2 r.2 h2 h4 h6 et et2]
  thk := HK_prs _
  ksk := HK_prs _
  ksd := fun k hk => by
    obtain ⟨p, _, rfl⟩ := List.mem_map.mp hk
    simp [prN, PyData.depth, PyData.depthAll]
  tlen := by
    show ((twoS 2 fun s => (V s).n).map prN).length ≤ 100
    rw [List.length_map, twoS_len]
    have := (hV 0).nm
    have := (hV 1).nm
    have := hm 0
    have := hm 1
    omega
  klen := by
    show ((twoS 2 fun s => (V s).m).map prN).length ≤ 100
    rw [List.length_map, twoS_len]
    have := hm 0
    have := hm 1
    omega
  fkin := fun p hp => by
    obtain ⟨z, hz, rfl⟩ := List.mem_map.mp hp
    obtain ⟨h1, h2, h3, h4, h5⟩ := mem_FK.mp hz
    have e := ((hV z.1.1).t_iff h3 h4).mp h5
    refine ⟨List.mem_map.mpr ⟨z.1, mem_twoS.mpr ⟨h1, h3⟩, rfl⟩, List.mem_map.mpr ⟨z.2, mem_twoS.mpr ⟨by omega, by rw [h2]; exact h4⟩, rfl⟩, ?_⟩
    simp only [smC, unPr_prN, h2, e]
  fkall := fun a ha b hb e => by
    obtain ⟨p, hp, rfl⟩ := List.mem_map.mp ha
    obtain ⟨q, hq, rfl⟩ := List.mem_map.mp hb
    obtain ⟨h1, h2⟩ := mem_twoS.mp hp
    obtain ⟨h3, h4⟩ := mem_twoS.mp hq
    simp only [smC, unPr_prN] at e
    have e' := prN_inj e
    have es : p.1 = q.1 := (Prod.mk.inj e').1
    have et : (V p.1).tgt p.2 = (V q.1).src q.2 := (Prod.mk.inj e').2
    rw [← es] at et h4
    exact List.mem_map.mpr ⟨(p, q), mem_FK.mpr ⟨h1, es.symm, h2, h4, ((hV p.1).t_iff h2 h4).mpr et⟩, rfl⟩
  fknd := List.pairwise_map.mpr (List.Pairwise.imp (fun {a b} h e => h (Prod.ext (prN_inj (congrArg Prod.fst e)) (prN_inj (congrArg Prod.snd e)))) (FK_nd _ _))
  fkl := by
    show ((FK V 2).map _).length < 100000
    rw [List.length_map]
    have := FK_len (i := 2) hm
    omega
  ths := srt_prs _
  rs := fun k hk => {
    alike := fun d hd d' hd' => by
      obtain ⟨p, hp, rfl⟩ := List.mem_map.mp hd
      obtain ⟨q, hq, rfl⟩ := List.mem_map.mp hd'
      obtain ⟨v, _, e⟩ := List.mem_map.mp (hk p hp)
      obtain ⟨w, _, e2⟩ := List.mem_map.mp (hk q hq)
      rw [← e, ← e2]
      simp [smC, prN, PySem.W.alike, PySem.W.alikeAll]
    kind := .inl fun d hd => by
      obtain ⟨p, _, rfl⟩ := List.mem_map.mp hd
      exact ⟨_, _, rfl⟩
    lay := fun d hd => by
      obtain ⟨p, hp, rfl⟩ := List.mem_map.mp hd
      obtain ⟨v, _, e⟩ := List.mem_map.mp (hk p hp)
      rw [← e]
      simp [PyData.canLay0, PyData.canLayAll0, smC, prN]
    dep := fun d hd => by
      obtain ⟨p, hp, rfl⟩ := List.mem_map.mp hd
      obtain ⟨v, _, e⟩ := List.mem_map.mp (hk p hp)
      rw [← e]
      simp [PyData.depth, PyData.depthAll, smC, prN] }
end K02

set_option Elab.async false
set_option linter.all false
set_option maxRecDepth 100000
set_option maxHeartbeats 4000000
namespace K02
open PySem PySem.Spec PyProof.Rows L2 DW WLD
theorem put_pr {l : List (Nat × Nat)} {v : Nat × Nat → D} {b : Nat × Nat} (nb : b ∉ l) : dPut (l.map fun p => (prN p, v p)) (prN b) (v b) = (l ++ [b]).map (fun p => (prN p, v p)) ∧ KOk (l.map fun p => (prN p, v p)) (prN b) :=
  have h1 : ∀ a ∈ l, prN a ∈ (l ++ [b]).map prN := fun a ha => List.mem_map.mpr ⟨a, List.mem_append_left _ ha, rfl⟩
  have h2 : prN b ∈ (l ++ [b]).map prN := List.mem_map.mpr ⟨b, List.mem_append_right _ (List.mem_singleton.mpr rfl), rfl⟩
  ⟨put_snoc (HK_prs (l ++ [b])) h1 h2 fun a ha e => nb (by rw [← prN_inj e]; exact ha), ok_map (HK_prs (l ++ [b])) h1 h2⟩
def kQ (z : (Nat × Nat) × (Nat × Nat)) : D := .tuple [prN z.1, prN z.2]
theorem kQ_inj {z w : (Nat × Nat) × (Nat × Nat)} (h : kQ z = kQ w) : z = w := by
  simp only [kQ, PyData.tuple.injEq, List.cons.injEq, and_true] at h
  exact Prod.ext (prN_inj h.1) (prN_inj h.2)
theorem HK_kQ (l : List ((Nat × Nat) × (Nat × Nat))) : HK (l.map kQ) := .inr fun d hd => by
  obtain ⟨p, _, rfl⟩ := List.mem_map.mp hd
  exact ⟨_, rfl, by simp [isKs, isK, prN], by simp [PyData.depthAll, PyData.depth, prN]⟩
theorem put_pq {l : List ((Nat × Nat) × (Nat × Nat))} {v : (Nat × Nat) × (Nat × Nat) → D} {b : (Nat × Nat) × (Nat × Nat)} (nb : b ∉ l) : dPut (l.map fun p => (kQ p, v p)) (kQ b) (v b) = (l ++ [b]).map (fun p => (kQ p, v p)) ∧ KOk (l.map fun p => (kQ p, v p)) (kQ b) :=
  have h1 : ∀ a ∈ l, kQ a ∈ (l ++ [b]).map kQ := fun a ha => List.mem_map.mpr ⟨a, List.mem_append_left _ ha, rfl⟩
  have h2 : kQ b ∈ (l ++ [b]).map kQ := List.mem_map.mpr ⟨b, List.mem_append_right _ (List.mem_singleton.mpr rfl), rfl⟩
  ⟨put_snoc (HK_kQ (l ++ [b])) h1 h2 fun a ha e => nb (by rw [← kQ_inj e]; exact ha), ok_map (HK_kQ (l ++ [b])) h1 h2⟩
def arV (V : Nat → Wd) (p : Nat × Nat) : D := .tuple [prN (p.1, (V p.1).src p.2), prN (p.1, (V p.1).tgt p.2), prN p]
def foV (V : Nat → Wd) (z : (Nat × Nat) × (Nat × Nat)) : D := prN (z.1.1, (V z.1.1).c z.1.2 z.2.2)
theorem rowS_succ {V : Nat → Wd} {s f g : Nat} : rowS V s f (g + 1) = rowS V s f g ++ if 0 ≤ (V s).t f g then [((s, f), (s, g))] else [] := by
  unfold rowS
  rw [List.range_succ, List.filter_append, List.map_append]
  congr 1
  by_cases h : 0 ≤ (V s).t f g <;> simp [h]
theorem fkS_succ {V : Nat → Wd} {s j : Nat} : fkS V s (j + 1) = fkS V s j ++ rowS V s j (V s).m := by
  unfold fkS
  rw [List.range_succ, List.flatMap_append]
  simp
theorem FK_succ {V : Nat → Wd} {i : Nat} : FK V (i + 1) = FK V i ++ fkS V i (V i).m := by
  unfold FK
  rw [List.range_succ, List.flatMap_append]
  simp
theorem ext_pr (L : List (Nat × Nat)) (i j : Nat) : L ++ (List.range (j + 1)).map (fun x => (i, x)) = (L ++ (List.range j).map fun x => (i, x)) ++ [(i, j)] := by
  rw [List.range_succ, List.map_append, ← List.append_assoc]; rfl
theorem not_ext {k : Nat → Nat} {i j : Nat} : (i, j) ∉ twoS i k ++ (List.range j).map fun x => (i, x) := fun h => by
  rcases List.mem_append.mp h with h | h
  · have := (mem_twoS.mp h).1
    simp only at this
    omega
  · obtain ⟨x, hx, e⟩ := List.mem_map.mp h
    have := List.mem_range.mp hx
    have := (Prod.mk.inj e).2
    omega
theorem ext_len {V : Nat → Wd} {i j : Nat} {k : Nat → Nat} (h : ∀ s, k s ≤ 40) (hi : i ≤ 2) (hj : j ≤ 40) : (twoS i k ++ (List.range j).map fun x => (i, x)).length < 100000 := by
  have := fm_len (f := fun s => (List.range (k s)).map fun x => (s, x)) (B := 40) (List.range i) fun s _ => by simp; exact h s
  rw [List.length_append, List.length_map, List.length_range]
  rw [List.length_range] at this
  unfold twoS
  omega
end K02

set_option Elab.async false
set_option linter.all false
set_option maxRecDepth 100000
set_option maxHeartbeats 4000000
namespace K02
open PySem PySem.Spec PyProof.Rows L2 DW WLD
theorem cut_to (xs : List D) (k : Nat) (h : k ≤ xs.length) : DW.cutD xs none (some (k : Int)) = xs.take k := by
  unfold DW.cutD
  rw [HT.sIx_none, HT.sIx_nat, Nat.min_eq_left h, List.drop_zero, Nat.sub_zero]
theorem cut_all (xs : List D) : DW.cutD xs none none = xs := by
  unfold DW.cutD
  rw [HT.sIx_none, HT.sIx_none, List.drop_zero, Nat.sub_zero, List.take_length]
theorem sh_mvD {v : Mv} : Sh 2 (mvD v) := Sh.tup (n := 1) fun d hd => by
  simp only [List.mem_cons, List.not_mem_nil, or_false] at hd
  rcases hd with e | e | e
  · rw [e]; exact .int
  · rw [e]; exact .int
  · rw [e]; exact Sh.tup (n := 0) fun d hd => by
      obtain ⟨e, _, rfl⟩ := List.mem_map.mp hd
      exact .int
theorem fIn_mv {n : Bool} {v : Mv} {l : List Mv} {Q : D → Prop} : fIn n (mvD v) (.list (l.map mvD)) Q = Q (.bool (if n then !decide (v ∈ l) else decide (v ∈ l))) :=
  fIn_sh (sh_mvD.mono (by omega)) (fun d hd => by obtain ⟨q, _, rfl⟩ := List.mem_map.mp hd; exact sh_mvD.mono (by omega))
    ⟨fun h => List.mem_map.mpr ⟨v, of_decide_eq_true h, rfl⟩, fun h => decide_eq_true (by obtain ⟨q, hq, e⟩ := List.mem_map.mp h; rw [← mvD_inj e]; exact hq)⟩
def idsM (sz : List Nat) : List Mv := (List.range sz.length).map (idM sz)
structure CM (sz : List Nat) (l F : List Mv) : Prop where
  nd : F.Nodup
  mv : ∀ v ∈ F, IsMv sz v
  id : ∀ x, x < sz.length → idM sz x ∈ F
  em : l = [] → F = idsM sz
def Dn (F : List Mv) (a b : Mv) : Prop := a.y = b.x → comM a b ∈ F
theorem idM_com {sz : List Nat} {x : Nat} : comM (idM sz x) (idM sz x) = idM sz x := by
  simp only [comM, idM, Mv.mk.injEq, true_and]
  conv => rhs; rw [← List.map_id (List.range (sz.getD x 0))]
  refine List.map_congr_left fun e he => ?_
  have := List.mem_range.mp he
  simp [List.getD] at this ⊢
  simp [this]
theorem CM.add {sz : List Nat} {l F : List Mv} (h : CM sz l F) {a b : Mv} (ha : a ∈ F) (hb : b ∈ F) (e : a.y = b.x) (n : comM a b ∉ F) : CM sz l (F ++ [comM a b]) where
  nd := List.nodup_append.mpr ⟨h.nd, by simp, fun x hx y hy e => n (by rw [← List.mem_singleton.mp hy, ← e]; exact hx)⟩
  mv := fun v hv => (List.mem_append.mp hv).elim (h.mv v) fun z => by rw [List.mem_singleton.mp z]; exact comM_is (h.mv a ha) (h.mv b hb) e
  id := fun x hx => List.mem_append_left _ (h.id x hx)
  em := fun z => by
    have f := h.em z
    rw [f] at ha hb n
    obtain ⟨i, _, rfl⟩ := List.mem_map.mp ha
    obtain ⟨j, _, rfl⟩ := List.mem_map.mp hb
    have e : i = j := e
    subst e
    rw [idM_com] at n
    exact absurd ha n
/-- what the first two lines find -/
def stM (sz : List Nat) (l : List Mv) : List Mv := idsM sz ++ (l.zipIdx.filter fun p => decide (p.1 ∉ idsM sz) && decide (p.1 ∉ l.take p.2)).map Prod.fst
theorem zip_get {l : List Mv} {p : Mv × Nat} (h : p ∈ l.zipIdx) : l[p.2]? = some p.1 := by
  obtain ⟨i, hi⟩ := List.mem_iff_getElem?.mp h
  rw [List.getElem?_zipIdx] at hi
  obtain ⟨a, ha, rfl⟩ := Option.map_eq_some_iff.mp hi
  simpa using ha
theorem idsM_nd (sz : List Nat) : (idsM sz).Nodup := List.pairwise_map.mpr (List.Pairwise.imp (fun {a b} h e => h (congrArg Mv.x e)) List.nodup_range)
theorem stM_ok {sz : List Nat} {l : List Mv} (hl : ∀ v ∈ l, IsMv sz v) : CM sz l (stM sz l) where
  nd := by
    refine List.nodup_append.mpr ⟨idsM_nd sz, ?_, fun a ha b hb e => ?_⟩
    · have h0 : l.zipIdx.Pairwise fun a b => a.2 ≠ b.2 := by
        have : (l.zipIdx.map Prod.snd).Nodup := by rw [List.zipIdx_map_snd]; exact List.nodup_range'
        exact List.pairwise_map.mp this
      refine List.pairwise_map.mpr (List.Pairwise.imp_of_mem (fun {a b} ha hb h e => ?_) (h0.filter _))
      obtain ⟨a1, a2⟩ := List.mem_filter.mp ha
      obtain ⟨b1, b2⟩ := List.mem_filter.mp hb
      simp only [Bool.and_eq_true, decide_eq_true_eq] at a2 b2
      have g1 := zip_get a1
      have g2 := zip_get b1
      rcases Nat.lt_or_gt_of_ne h with h | h
      · refine b2.2 (List.mem_iff_getElem?.mpr ⟨a.2, ?_⟩)
        rw [List.getElem?_take_of_lt h, g1, e]
      · refine a2.2 (List.mem_iff_getElem?.mpr ⟨b.2, ?_⟩)
        rw [List.getElem?_take_of_lt h, g2, e]
    · obtain ⟨p, hp, rfl⟩ := List.mem_map.mp hb
      obtain ⟨_, a2⟩ := List.mem_filter.mp hp
      simp only [Bool.and_eq_true, decide_eq_true_eq] at a2
      exact a2.1 (by rw [← e]; exact ha)
  mv := fun v hv => by
    rcases List.mem_append.mp hv with h | h
    · obtain ⟨i, hi, rfl⟩ := List.mem_map.mp h
      exact idM_is (List.mem_range.mp hi)
    · obtain ⟨p, hp, rfl⟩ := List.mem_map.mp h
      exact hl _ (List.mem_of_getElem? (zip_get (List.mem_filter.mp hp).1))
  id := fun x hx => List.mem_append_left _ (List.mem_map.mpr ⟨x, List.mem_range.mpr hx, rfl⟩)
  em := fun e => by subst e; simp [stM]
theorem stM_len {sz : List Nat} {l : List Mv} : (stM sz l).length ≤ sz.length + l.length := by
  unfold stM
  rw [List.length_append, List.length_map]
  have := List.length_filter_le (fun p : Mv × Nat => decide (p.1 ∉ idsM sz) && decide (p.1 ∉ l.take p.2)) l.zipIdx
  rw [List.length_zipIdx] at this
  have e : (idsM sz).length = sz.length := by simp [idsM]
  omega
/-- one pair looked at -/
theorem CM.step {sz : List Nat} {l F : List Mv} (h : CM sz l F) {a b : Mv} (ha : a ∈ F) (hb : b ∈ F) : ∃ F', CM sz l F' ∧ (∃ t, F' = F ++ t) ∧ F'.length ≤ F.length + 1 ∧ Dn F' a b ∧ F' = (if a.y = b.x ∧ comM a b ∉ F then F ++ [comM a b] else F) := by
  by_cases e : a.y = b.x
  · by_cases n : comM a b ∈ F
    · exact ⟨F, h, ⟨[], by simp⟩, by omega, fun _ => n, by simp [n]⟩
    · exact ⟨_, h.add ha hb e n, ⟨_, rfl⟩, by simp, fun _ => List.mem_append_right _ (List.mem_singleton.mpr rfl), by simp [e, n]⟩
  · exact ⟨F, h, ⟨[], by simp⟩, by omega, fun z => absurd z e, by simp [e]⟩
theorem Dn.mono {F F' : List Mv} (h : ∃ t, F' = F ++ t) {a b : Mv} (d : Dn F a b) : Dn F' a b := fun e => by
  obtain ⟨t, rfl⟩ := h
  exact List.mem_append_left _ (d e)
end K02

set_option Elab.async false
set_option linter.all false
set_option maxRecDepth 100000
set_option maxHeartbeats 4000000
namespace K02
open PySem PySem.Spec PyProof.Rows L2 DW WLD
theorem enum_mv (l : List Mv) : enumD (l.map mvD) = l.zipIdx.map fun p => .tuple [.int (p.2 : Nat), mvD p.1] := by
  unfold enumD
  rw [List.zipIdx_map, List.map_map]
  rfl
end K02

set_option Elab.async false
set_option linter.all false
set_option maxRecDepth 100000
set_option maxHeartbeats 4000000
namespace K02
open PySem PySem.Spec PyProof.Rows L2 DW WLD
theorem wSeq_mid {A B : WS} {F : DE} {ρ : Rho} {u : Nat} (P : Rho → Nat → Prop) (hA : ∀ F' : DE, F'.rt = F.rt → (∀ ρ u, P ρ u → F'.nx ρ u) → A F' ρ u) (hB : ∀ ρ u, P ρ u → B F ρ u) : wSeq A B F ρ u := hA _ rfl hB
theorem wComp_inv {b : WB} {wt : WT} {we : WE} {ρ : Rho} {Q : List D → Nat → Prop} : ∀ (xs : List D) (I : Nat → List D → Nat → Prop) (acc : List D) (u : Nat),
    (∀ j x acc u (R : List D → Nat → Prop), xs[j]? = some x → I j acc u → (∀ acc u, I (j + 1) acc u → R acc u) → ∃ ρ', b x ρ = some ρ' ∧ wt ρ' u fun t u1 => if t = true then we ρ' u1 fun y u2 => R (acc ++ [y]) u2 else R acc u1) →
    (∀ acc u, I xs.length acc u → Q acc u) → I 0 acc u → wComp b wt we ρ xs acc u Q
  | [], I, acc, u, h, hn, i0 => hn acc u i0
  | x :: xs, I, acc, u, h, hn, i0 =>
    h 0 x acc u (fun acc u => wComp b wt we ρ xs acc u Q) rfl i0 fun acc u i1 => wComp_inv xs (fun j => I (j + 1)) acc u (fun j y acc u R e ii k => h (j + 1) y acc u R (by simpa using e) ii k) (fun acc u q => hn acc u (by simpa using q)) i1
theorem x_draw {u b : Nat} {d : D} {Q : D → Nat → Prop} (e : d = .int (b : Nat)) (h0 : 0 < b) (h1 : b < 1073741824) (hu : u < 1000000000) (q : ∀ r : Nat, r < b → Q (.int (r : Nat)) (u + 1)) : W__law_draw u [mD, d] Q := by
  subst e
  refine ⟨b, rfl, by omega, by omega, by omega, fun r r0 r1 => ?_⟩
  have := q r.toNat (by omega)
  rwa [show ((r.toNat : Nat) : Int) = r by omega] at this
/-- pairs of things below n, one of them at most written twice -/
structure Nr (n : Nat) (N C : List (Nat × Nat)) : Prop where
  nd : C.Nodup
  sub : ∀ p ∈ C, p ∈ N
  len : N.length ≤ C.length + 1
  lt : ∀ p ∈ N, p.1 < n ∧ p.2 < n ∧ p.1 ≠ p.2
theorem nd_len {n : Nat} (hn : n ≤ 7) {C : List (Nat × Nat)} (nd : C.Nodup) (lt : ∀ p ∈ C, p.1 < n ∧ p.2 < n) : C.length ≤ 49 := by
  have h1 : (C.map fun p => p.1 * 7 + p.2).Nodup := List.pairwise_map.mpr (List.Pairwise.imp_of_mem (fun {a b} ha hb h e => h (by
    obtain ⟨a1, a2⟩ := lt a ha
    obtain ⟨b1, b2⟩ := lt b hb
    exact Prod.ext (by omega) (by omega))) nd)
  have h2 := nat_nodup_len _ (List.range 49) h1 fun x hx => by
    obtain ⟨p, hp, rfl⟩ := List.mem_map.mp hx
    obtain ⟨a1, a2⟩ := lt p hp
    exact List.mem_range.mpr (by omega)
  simpa using h2
theorem ord_bound {n things : Nat} (ht : n ≤ things) (hn : things ≤ 7) {C : List (Nat × Nat)} (nd : C.Nodup) (lt : ∀ p ∈ C, p.1 < n ∧ p.2 < n ∧ p.1 ≠ p.2) : n + C.length ≤ min 60 (things * things) := by
  have dn : (C ++ (List.range n).map fun x => (x, x)).Nodup := List.nodup_append.mpr ⟨nd, List.pairwise_map.mpr (List.Pairwise.imp (fun {a b} h e => h (congrArg Prod.fst e)) List.nodup_range), fun a ha b hb e => by
    obtain ⟨x, _, rfl⟩ := List.mem_map.mp hb
    rw [e] at ha
    exact (lt _ ha).2.2 rfl⟩
  have dl : ∀ p ∈ C ++ (List.range n).map fun x => (x, x), p.1 < n ∧ p.2 < n := fun p hp => by
    rcases List.mem_append.mp hp with h | h
    · exact ⟨(lt p h).1, (lt p h).2.1⟩
    · obtain ⟨x, hx, rfl⟩ := List.mem_map.mp h
      exact ⟨List.mem_range.mp hx, List.mem_range.mp hx⟩
  have key : (C ++ (List.range n).map fun x => (x, x)).length ≤ n * n := by
    generalize (C ++ (List.range n).map fun x => (x, x)) = D at dn dl
    have hc : n = 0 ∨ n = 1 ∨ n = 2 ∨ n = 3 ∨ n = 4 ∨ n = 5 ∨ n = 6 ∨ n = 7 := by omega
    have h1 : (D.map fun p => p.1 * n + p.2).Nodup := List.pairwise_map.mpr (List.Pairwise.imp_of_mem (fun {a b} ha hb h e => h (by
      obtain ⟨a1, a2⟩ := dl a ha
      obtain ⟨b1, b2⟩ := dl b hb
      rcases hc with rfl | rfl | rfl | rfl | rfl | rfl | rfl | rfl <;> exact Prod.ext (by omega) (by omega))) dn)
    have h2 := nat_nodup_len _ (List.range (n * n)) h1 fun x hx => by
      obtain ⟨p, hp, rfl⟩ := List.mem_map.mp hx
      obtain ⟨a1, a2⟩ := dl p hp
      refine List.mem_range.mpr ?_
      rcases hc with rfl | rfl | rfl | rfl | rfl | rfl | rfl | rfl <;> omega
    simpa using h2
  rw [List.length_append, List.length_map, List.length_range] at key
  have h3 := Nat.mul_le_mul ht ht
  have h4 : things * things ≤ 7 * 7 := Nat.mul_le_mul hn hn
  omega
theorem Nr.bound {n : Nat} {N C : List (Nat × Nat)} (h : Nr n N C) (hn : n ≤ 7) : N.length ≤ 50 := by
  have := nd_len hn h.nd fun p hp => ⟨(h.lt p (h.sub p hp)).1, (h.lt p (h.sub p hp)).2.1⟩
  have := h.len
  omega
theorem Nr.add {n : Nat} {N C T : List (Nat × Nat)} (h : Nr n N C) (tn : T.Nodup) (t : ∀ p ∈ T, p ∉ N ∧ p.1 < n ∧ p.2 < n ∧ p.1 ≠ p.2) : Nr n (N ++ T) (C ++ T) where
  nd := List.nodup_append.mpr ⟨h.nd, tn, fun a ha b hb e => (t b hb).1 (by rw [← e]; exact h.sub a ha)⟩
  sub := fun p hp => List.mem_append.mpr ((List.mem_append.mp hp).imp (h.sub p) id)
  len := by have := h.len; rw [List.length_append, List.length_append]; omega
  lt := fun p hp => (List.mem_append.mp hp).elim (h.lt p) fun z => (t p z).2
def Thr (N : List (Nat × Nat)) (z : Nat) : Prop := ∀ x w y, w < z → (x, w) ∈ N → (w, y) ∈ N → x ≠ y → (x, y) ∈ N
theorem thr_step {n z : Nat} {N M C : List (Nat × Nat)} (hN : Nr n N C) (ht : Thr N z) (hM : ∀ p, p ∈ M ↔ p ∈ N ∨ (p.1 < n ∧ p.2 < n ∧ p.1 ≠ p.2 ∧ (p.1, z) ∈ N ∧ (z, p.2) ∈ N)) : Thr M (z + 1) := by
  have up : ∀ x y, x ≠ y → (x, z) ∈ N → (z, y) ∈ N → (x, y) ∈ M := fun x y ne h1 h2 => (hM (x, y)).mpr (.inr ⟨(hN.lt _ h1).1, (hN.lt _ h2).2.1, ne, h1, h2⟩)
  have keep : ∀ {p}, p ∈ N → p ∈ M := fun h => (hM _).mpr (.inl h)
  have nz : (z, z) ∉ N := fun h => (hN.lt _ h).2.2 rfl
  intro x w y hw h1 h2 ne
  by_cases e : w = z
  · subst e
    have a : (x, w) ∈ N := by
      rcases (hM _).mp h1 with h | ⟨_, _, _, _, h⟩
      · exact h
      · exact absurd h nz
    have b : (w, y) ∈ N := by
      rcases (hM _).mp h2 with h | ⟨_, _, _, h, _⟩
      · exact h
      · exact absurd h nz
    exact up x y ne a b
  · have hw : w < z := by omega
    rcases (hM _).mp h1 with a | ⟨_, _, _, a1, a2⟩ <;> rcases (hM _).mp h2 with b | ⟨_, _, _, b1, b2⟩
    · exact keep (ht x w y hw a b ne)
    · simp only at b1 b2
      by_cases q : x = z
      · rw [q]; exact keep b2
      · exact up x y ne (ht x w z hw a b1 q) b2
    · simp only at a1 a2
      by_cases q : z = y
      · rw [← q]; exact keep a1
      · exact up x y ne a1 (ht z w y hw a2 b q)
    · exact up x y ne a1 b2
theorem un_cast {qs : List (Int × Int)} {N : List (Nat × Nat)} (h : ∀ p, p ∈ qs ↔ p ∈ N.map fun p => ((p.1 : Int), (p.2 : Int))) (nd : qs.Nodup) : ∃ qn : List (Nat × Nat), qs = qn.map (fun p => ((p.1 : Int), (p.2 : Int))) ∧ qn.Nodup ∧ ∀ p, p ∈ qn ↔ p ∈ N := by
  have back : ∀ p ∈ qs, ((p.1.toNat : Int), (p.2.toNat : Int)) = p := fun p hp => by
    obtain ⟨a, _, rfl⟩ := List.mem_map.mp ((h p).mp hp)
    simp
  have e : qs = (qs.map fun p => (p.1.toNat, p.2.toNat)).map fun p : Nat × Nat => ((p.1 : Int), (p.2 : Int)) := by
    rw [List.map_map]
    conv => lhs; rw [← List.map_id qs]
    exact List.map_congr_left fun p hp => (back p hp).symm
  refine ⟨qs.map fun p => (p.1.toNat, p.2.toNat), e, ?_, fun p => ?_⟩
  · rw [e] at nd
    exact List.Pairwise.imp (fun {a b} h e => h (by rw [e])) (List.pairwise_map.mp nd)
  · constructor
    · intro hp
      obtain ⟨a, ha, rfl⟩ := List.mem_map.mp hp
      obtain ⟨b, hb, rfl⟩ := List.mem_map.mp ((h a).mp ha)
      simpa using hb
    · intro hp
      exact List.mem_map.mpr ⟨_, (h _).mpr (List.mem_map.mpr ⟨p, hp, rfl⟩), by simp⟩
end K02

set_option Elab.async false
set_option linter.all false
set_option maxRecDepth 100000
set_option maxHeartbeats 2000000
namespace DW
open PySem PySem.Spec PyProof.Rows L2
/-! ### running a meaning: expressions by rewriting from the head, statements one by one -/
section
variable {u : Nat} {ρ : Rho} {l : List (Option SV)} {a : Option SV}
def boolK (d : D) (K : Bool → Prop) : Prop := ∃ b, d = .bool b ∧ K b
def intK (d : D) (K : Int → Prop) : Prop := ∃ i, d = .int i ∧ K i
theorem z_bool {b : Bool} {K : Bool → Prop} : boolK (.bool b) K = K b := propext ⟨fun ⟨_, e, q⟩ => by cases e; exact q, fun q => ⟨_, rfl, q⟩⟩
theorem z_int {b : Int} {K : Int → Prop} : intK (.int b) K = K b := propext ⟨fun ⟨_, e, q⟩ => by cases e; exact q, fun q => ⟨_, rfl, q⟩⟩
theorem z_varD0 {x : D} {Q : D → Nat → Prop} : wVarD 0 (some (SV.d x) :: l) u Q = Q x u := propext ⟨fun ⟨_, e, q⟩ => by cases e; exact q, fun q => ⟨_, rfl, q⟩⟩
theorem z_varDs {i : Nat} {Q : D → Nat → Prop} : wVarD (i + 1) (a :: l) u Q = wVarD i l u Q := rfl
theorem z_var0 {x : D} {Q : D → Nat → Prop} : wVar 0 (some (SV.d x) :: l) u Q = Q x u := propext ⟨fun ⟨_, e, _, q⟩ => by cases e; exact q, fun q => ⟨_, rfl, rfl, q⟩⟩
theorem z_varo {x : List D} {Q : D → Nat → Prop} : wVar 0 (some (SV.own x) :: l) u Q = Q (.list x) u := propext ⟨fun ⟨_, e, _, q⟩ => by cases e; exact q, fun q => ⟨_, rfl, rfl, q⟩⟩
theorem z_vars {i : Nat} {Q : D → Nat → Prop} : wVar (i + 1) (a :: l) u Q = wVar i l u Q := rfl
theorem z_c {d : D} {Q : D → Nat → Prop} : wC d ρ u Q = Q d u := rfl
theorem z_2 {f : D → D → (D → Prop) → Prop} {wa wb : WE} {Q : D → Nat → Prop} : w2 f wa wb ρ u Q = wa ρ u fun c u1 => wb ρ u1 fun d u2 => f c d fun z => Q z u2 := rfl
theorem z_3 {f g : D → D → (D → Prop) → Prop} {wa wb wc : WE} {Q : D → Nat → Prop} : w3 f g wa wb wc ρ u Q = wa ρ u fun c u1 => wb ρ u1 fun d u2 => f c d fun z => boolK z fun b => if b = true then wc ρ u2 fun e u3 => g d e fun y => Q y u3 else Q (.bool false) u2 := rfl
theorem z_tst {w : WE} {Q : Bool → Nat → Prop} : wTst w ρ u Q = w ρ u fun d u1 => boolK d fun b => Q b u1 := rfl
theorem z_tand {wa wb : WT} {Q : Bool → Nat → Prop} : wtAnd wa wb ρ u Q = wa ρ u fun b u1 => if b = true then wb ρ u1 Q else Q false u1 := rfl
theorem z_tor {wa wb : WT} {Q : Bool → Nat → Prop} : wtOr wa wb ρ u Q = wa ρ u fun b u1 => if b = true then Q true u1 else wb ρ u1 Q := rfl
theorem z_tnot {wa : WT} {Q : Bool → Nat → Prop} : wtNot wa ρ u Q = wa ρ u fun b u1 => Q (!b) u1 := rfl
theorem z_and {wa wb : WE} {Q : D → Nat → Prop} : wAnd wa wb ρ u Q = wa ρ u fun c u1 => boolK c fun b => if b = true then wb ρ u1 Q else Q (.bool false) u1 := rfl
theorem z_or {wa wb : WE} {Q : D → Nat → Prop} : wOr wa wb ρ u Q = wa ρ u fun c u1 => boolK c fun b => if b = true then Q (.bool true) u1 else wb ρ u1 Q := rfl
theorem z_not {wa : WE} {Q : D → Nat → Prop} : wNot wa ρ u Q = wa ρ u fun c u1 => boolK c fun b => Q (.bool (!b)) u1 := rfl
theorem z_isN {neg : Bool} {w : WE} {Q : D → Nat → Prop} : wIsN neg w ρ u Q = w ρ u fun d u1 => Q (.bool (if neg then !isNon d else isNon d)) u1 := rfl
theorem z_neg {w : WE} {Q : D → Nat → Prop} : wNeg w ρ u Q = w ρ u fun d u1 => intK d fun i => Q (.int (-i)) u1 := rfl
theorem z_nil {Q : List D → Nat → Prop} : waNil ρ u Q = Q [] u := rfl
theorem z_cons {w : WE} {ws : WA} {Q : List D → Nat → Prop} : waCons w ws ρ u Q = w ρ u fun d u1 => ws ρ u1 fun ds u2 => Q (d :: ds) u2 := rfl
def shortK (ds : List D) (P : Prop) : Prop := ds.length ≤ 100000 ∧ P
theorem z_sh0 {P : Prop} : shortK [] P = P := propext ⟨fun h => h.2, fun h => ⟨by simp, h⟩⟩
theorem z_sh1 {a : D} {P : Prop} : shortK [a] P = P := propext ⟨fun h => h.2, fun h => ⟨by simp, h⟩⟩
theorem z_sh2 {a b : D} {P : Prop} : shortK [a, b] P = P := propext ⟨fun h => h.2, fun h => ⟨by simp, h⟩⟩
theorem z_sh3 {a b c : D} {P : Prop} : shortK [a, b, c] P = P := propext ⟨fun h => h.2, fun h => ⟨by simp, h⟩⟩
theorem z_sh4 {a b c d : D} {P : Prop} : shortK [a, b, c, d] P = P := propext ⟨fun h => h.2, fun h => ⟨by simp, h⟩⟩
theorem z_sh5 {a b c d e : D} {P : Prop} : shortK [a, b, c, d, e] P = P := propext ⟨fun h => h.2, fun h => ⟨by simp, h⟩⟩
theorem z_tup {ws : WA} {Q : D → Nat → Prop} : wTup ws ρ u Q = ws ρ u fun ds u1 => shortK ds (Q (.tuple ds) u1) := rfl
theorem z_lst {ws : WA} {Q : List D → Nat → Prop} : wLst ws ρ u Q = ws ρ u fun ds u1 => shortK ds (Q ds u1) := rfl
theorem z_fD {w : WA} {Q : D → Nat → Prop} : wfD w ρ u Q = w ρ u fun ds u1 => Q (.list ds) u1 := rfl
theorem z_if {wc : WT} {wa wb : WE} {Q : D → Nat → Prop} : wIf wc wa wb ρ u Q = wc ρ u fun b u1 => if b = true then wa ρ u1 Q else wb ρ u1 Q := rfl
theorem z_call {f : List D → (D → Prop) → Prop} {ws : WA} {Q : D → Nat → Prop} : wCall f ws ρ u Q = ws ρ u fun ds u1 => f ds fun z => Q z u1 := rfl
theorem z_fn {W : WF} {ws : WA} {Q : D → Nat → Prop} : wFn W ws ρ u Q = ws ρ u fun ds u1 => W u1 ds Q := rfl
theorem z_lc {wi : WA} {b : WB} {wt : WT} {we : WE} {vs : List Nat} {Q : List D → Nat → Prop} : wLc wi b wt we vs ρ u Q = wi ρ u fun ds u1 => ds.length < 100000 ∧ wComp b wt we (wipeR ρ vs) ds [] u1 Q := rfl
theorem z_i1 {w : WE} {Q : List D → Nat → Prop} : wi1 w ρ u Q = w ρ u fun d u1 => seqD d fun ds => Q ds u1 := rfl
theorem z_iE {w : WE} {Q : List D → Nat → Prop} : wiE w ρ u Q = w ρ u fun d u1 => seqD d fun ds => Q (enumD ds) u1 := rfl
theorem z_seqL {xs : List D} {Q : List D → Prop} : seqD (.list xs) Q = Q xs := rfl
theorem z_seqT {xs : List D} {Q : List D → Prop} : seqD (.tuple xs) Q = Q xs := rfl
def rgK (j : Int) (P : List D → Prop) : Prop := big62 j ∧ P (rgD 0 j)
theorem z_rgK {n : Nat} {P : List D → Prop} (h : n ≤ 1000) : rgK (n : Int) P = P ((List.range n).map fun i => .int (i : Nat)) := propext ⟨fun q => by have := q.2; rwa [rgD_map] at this, fun q => ⟨⟨by omega, by omega⟩, by rw [rgD_map]; exact q⟩⟩
theorem z_iR {w : WE} {Q : List D → Nat → Prop} : wiR1 w ρ u Q = w ρ u fun d u1 => intK d fun j => rgK j fun ds => Q ds u1 := rfl
def dicK (d : D) (K : List (D × D) → Prop) : Prop := ∃ kvs, d = xD kvs ∧ K kvs
theorem z_dic {kvs : List (D × D)} {K : List (D × D) → Prop} : dicK (xD kvs) K = K kvs := propext ⟨fun ⟨_, e, q⟩ => by cases e; exact q, fun q => ⟨_, rfl, q⟩⟩
theorem z_diD {w : WE} {Q : List (D × D) → Nat → Prop} : wDiD w ρ u Q = w ρ u fun d u1 => dicK d fun kvs => Q kvs u1 := rfl
def dinK (kvs : List (D × D)) (k : D) (K : Bool → Prop) : Prop := KOk kvs k ∧ K (dGet kvs k).isSome
theorem z_dIn {w : WE} {wd : WDi} {g : Bool → Bool} {Q : D → Nat → Prop} : wDIn g w wd ρ u Q = w ρ u fun k u1 => wd ρ u1 fun kvs u2 => dinK kvs k fun b => Q (.bool (g b)) u2 := rfl
theorem z_iDic {w : WE} {Q : List D → Nat → Prop} : wiDic w ρ u Q = w ρ u fun d u1 => dicK d fun kvs => Q (kvs.map Prod.fst) u1 := rfl
theorem z_isB {neg a b : Bool} {Q : D → Prop} : fIsB neg (.bool a) (.bool b) Q = Q (.bool (if neg then !decide (a = b) else decide (a = b))) := rfl
theorem z_fnSw {W : WF} {ws : WA} {Q : D → Nat → Prop} : wFnSw W ws ρ u Q = ws ρ u fun ds u1 => W u1 ds.reverse Q := rfl
theorem z_lenT {xs : List D} {Q : D → Prop} : fLen [.tuple xs] Q = Q (.int (xs.length : Nat)) := rfl
theorem z_lenL {xs : List D} {Q : D → Prop} : fLen [.list xs] Q = Q (.int (xs.length : Nat)) := rfl
theorem z_tupT {xs : List D} {Q : D → Prop} : fTupOf [.tuple xs] Q = Q (.tuple xs) := rfl
theorem z_tupL {xs : List D} {Q : D → Prop} : fTupOf [.list xs] Q = Q (.tuple xs) := rfl
theorem z_iteT {α : Sort _} {P R : α} : (if true = true then P else R) = P := if_pos rfl
theorem z_iteF {α : Sort _} {P R : α} : (if false = true then P else R) = R := if_neg (by decide)
theorem z_lt {a b : Int} {Q : D → Prop} : fLt (.int a) (.int b) Q = Q (.bool (decide (a < b))) := rfl
theorem z_le {a b : Int} {Q : D → Prop} : fLe (.int a) (.int b) Q = Q (.bool (decide (a ≤ b))) := rfl
theorem z_gt {a b : Int} {Q : D → Prop} : fGt (.int a) (.int b) Q = Q (.bool (decide (b < a))) := rfl
theorem z_ge {a b : Int} {Q : D → Prop} : fGe (.int a) (.int b) Q = Q (.bool (decide (b ≤ a))) := rfl
theorem z_sub {a b : Int} {Q : D → Prop} : fSub (.int a) (.int b) Q = Q (.int (a - b)) := rfl
theorem z_addI {a b : Int} {Q : D → Prop} : fAdd (.int a) (.int b) Q = Q (.int (a + b)) := rfl
end
def lstI (c : D) (K : List Int → Prop) : Prop := ∃ ns : List Int, c = .list (ns.map .int) ∧ K ns
theorem mapI_inj : ∀ {a b : List Int}, a.map (PyData.int : Int → D) = b.map .int → a = b
  | [], [], _ => rfl
  | [], _ :: _, e => by simp at e
  | _ :: _, [], e => by simp at e
  | x :: a, y :: b, e => by
    simp only [List.map_cons, List.cons.injEq, PyData.int.injEq] at e
    rw [e.1, mapI_inj e.2]
theorem z_lstI {ns : List Int} {K : List Int → Prop} : lstI (.list (ns.map .int)) K = K ns := propext ⟨fun ⟨ms, e, q⟩ => by rw [mapI_inj (PyData.list.inj e)]; exact q, fun q => ⟨_, rfl, q⟩⟩
theorem z_count {wa wb : WE} {Q : D → Nat → Prop} : wCount wa wb ρ u Q = wa ρ u fun c u1 => lstI c fun ns => wb ρ u1 fun d u2 => intK d fun k => Q (.int (ns.count k : Nat)) u2 := rfl
def lrK (n : Int) (P : List D → Prop) : Prop := RgOk 0 n ∧ P (rgD 0 n)
theorem z_lrg {w : WE} {Q : List D → Nat → Prop} : wListRg (wr1 w) ρ u Q = w ρ u fun d u1 => intK d fun n => lrK n fun ds => Q ds u1 :=
  propext ⟨fun h => by
    have e : (fun (d : D) (u1 : Nat) => ∃ n, d = .int n ∧ (RgOk 0 n ∧ Q (rgD 0 n) u1)) = fun d u1 => intK d fun n => lrK n fun ds => Q ds u1 := rfl
    rw [← e]; exact h, fun h => h⟩
theorem z_trg {w : WE} {Q : D → Nat → Prop} : wTupRg (wr1 w) ρ u Q = w ρ u fun d u1 => intK d fun n => lrK n fun ds => Q (.tuple ds) u1 := rfl
def ssK (d : D) (K : List Int → Prop) : Prop := ∃ ns : List Int, d = .list (ns.map .int) ∧ ns.length < 64 ∧ ∀ ms : List Int, ms.Pairwise (· < ·) → (∀ k, k ∈ ms ↔ k ∈ ns) → K ms
theorem z_ssI {w : WE} {Q : List D → Nat → Prop} : wSortSetI w ρ u Q = w ρ u fun d u1 => ssK d fun ms => Q (ms.map .int) u1 := rfl
def srtK (d : D) (K : List D → Prop) : Prop := ∃ ds, d = .list ds ∧ SrtOk ds ∧ K (dSort ds)
theorem z_sort {w : WE} {Q : List D → Nat → Prop} : wSort w ρ u Q = w ρ u fun d u1 => srtK d fun ds => Q ds u1 := rfl
theorem z_addF {wa wb : WE} {Q : List D → Nat → Prop} : wAddF wa wb ρ u Q = wa ρ u fun c u1 => wb ρ u1 fun d u2 => fAddL c d fun z => Q z u2 := rfl
/-- the length of the set of pairs: told when it is that of the list -/
def lspK (d : D) (K : Nat → Prop) : Prop := ∃ ps : List (Int × Int), d = .list (ps.map DW.prD) ∧ ps.length < 64 ∧ ∀ n : Nat, (n = ps.length ↔ ps.Nodup) → K n
theorem z_lsP {w : WE} {Q : D → Nat → Prop} : wLenSetP w ρ u Q = w ρ u fun d u1 => lspK d fun n => Q (.int (n : Nat)) u1 := rfl
theorem t_and {a b : Bool} {R : Bool → Nat → Prop} {u : Nat} : (if a = true then R b u else R false u) = R (a && b) u := by cases a <;> rfl
theorem t_or {a b : Bool} {R : Bool → Nat → Prop} {u : Nat} : (if a = true then R true u else R b u) = R (a || b) u := by cases a <;> rfl
theorem t_andD {a b : Bool} {R : D → Nat → Prop} {u : Nat} : (if a = true then R (.bool b) u else R (.bool false) u) = R (.bool (a && b)) u := by cases a <;> rfl
theorem t_orD {a b : Bool} {R : D → Nat → Prop} {u : Nat} : (if a = true then R (.bool true) u else R (.bool b) u) = R (.bool (a || b)) u := by cases a <;> rfl
/-! statements -/
section
variable {u : Nat} {ρ ρ' : Rho} {F : DE} {d : D} {ds : List D} {w : WE} {wl : WA} {wc : WT} {a b : WS} {bb : WB} {i j : Nat}
theorem s_seq (h : a { F with nx := b F } ρ u) : wSeq a b F ρ u := h
theorem s_nil (h : F.nx ρ u) : wNil F ρ u := h
theorem s_setD (h : ∀ Q : D → Nat → Prop, Q d u → w ρ u Q) (k : F.nx (ρ.set i (some (.d d))) u) : wSetD i w F ρ u := h _ k
theorem s_setF (h : ∀ Q : List D → Nat → Prop, Q ds u → wl ρ u Q) (k : F.nx (ρ.set i (some (.own ds))) u) : wSetF i wl F ρ u := h _ k
theorem s_ret (h : ∀ Q : D → Nat → Prop, Q d u → w ρ u Q) (k : F.rt d u) : wRet w F ρ u := h _ k
theorem s_if {t : Bool} (h : ∀ Q : Bool → Nat → Prop, Q t u → wc ρ u Q) (k : if t = true then a F ρ u else b F ρ u) : wIfS wc a b F ρ u := h _ k
theorem s_ifT (h : ∀ Q : Bool → Nat → Prop, Q true u → wc ρ u Q) (k : a F ρ u) : wIfS wc a b F ρ u := h _ (by rw [if_pos rfl]; exact k)
theorem s_ifF (h : ∀ Q : Bool → Nat → Prop, Q false u → wc ρ u Q) (k : b F ρ u) : wIfS wc a b F ρ u := h _ (by rw [if_neg (by decide)]; exact k)
theorem s_unp (h : ∀ Q : D → Nat → Prop, Q d u → w ρ u Q) (e : bb d ρ = some ρ') (k : F.nx ρ' u) : wUnp bb w F ρ u := h _ ⟨ρ', e, k⟩
theorem s_par {c e : D} (h : ∀ Q : List D → Nat → Prop, Q [c, e] u → wl ρ u Q) (k : F.nx ((ρ.set i (some (.d c))).set j (some (.d e))) u) : wPar i j wl F ρ u := h _ ⟨c, e, rfl, k⟩
theorem s_app {xs : List D} (e : ρ[i]? = some (some (SV.own xs))) (h : ∀ Q : D → Nat → Prop, Q d u → w ρ u Q) (hl : xs.length < 100000) (k : F.nx (ρ.set i (some (.own (xs ++ [d])))) u) : wApp i w F ρ u := ⟨xs, e, h _ ⟨hl, k⟩⟩
theorem s_for {wi : WA} (h : ∀ Q : List D → Nat → Prop, Q ds u → wi ρ u Q) (k : wLoop bb b F ds ρ u) : wFor wi bb b F ρ u := h _ k
theorem s_forG {wi : WA} (h : wi ρ u fun ds u1 => wLoop bb b F ds ρ u1) : wFor wi bb b F ρ u := h
theorem s_ifG (h : wc ρ u fun t u1 => if t = true then a F ρ u1 else b F ρ u1) : wIfS wc a b F ρ u := h
theorem s_setG (h : w ρ u fun d u1 => F.nx (ρ.set i (some (.d d))) u1) : wSetD i w F ρ u := h
theorem s_setFG (h : wl ρ u fun ds u1 => F.nx (ρ.set i (some (.own ds))) u1) : wSetF i wl F ρ u := h
theorem s_unpG (h : w ρ u fun d u1 => ∃ ρ', bb d ρ = some ρ' ∧ F.nx ρ' u1) : wUnp bb w F ρ u := h
theorem s_parG (h : wl ρ u fun ds u1 => ∃ c d, ds = [c, d] ∧ F.nx ((ρ.set i (some (.d c))).set j (some (.d d))) u1) : wPar i j wl F ρ u := h
theorem s_retG (h : w ρ u fun d u1 => F.rt d u1) : wRet w F ρ u := h
theorem s_frz {xs : List D} (e : ρ[i]? = some (some (SV.own xs))) (k : a F (ρ.set i (some (.d (.list xs)))) u) : wFrz i a F ρ u := ⟨xs, e, k⟩
theorem s_frzD {kvs : List (D × D)} (e : ρ[i]? = some (some (SV.dic kvs))) (k : a F (ρ.set i (some (.d (xD kvs)))) u) : wFrzD i a F ρ u := ⟨kvs, e, k⟩
end
/-! comprehensions -/
section
variable {α : Type} {u : Nat} {ρ : Rho} {b : WB} {wt : WT} {we : WE} {Q : List D → Nat → Prop}
theorem c_filt {enc : α → D} {p : α → Bool} {f : α → D} {xs : List α} (hl : xs.length < 100000)
    (h : ∀ x ∈ xs, ∃ ρ', b (enc x) ρ = some ρ' ∧ (∀ u (R : Bool → Nat → Prop), R (p x) u → wt ρ' u R) ∧ (p x = true → ∀ u (R : D → Nat → Prop), R (f x) u → we ρ' u R))
    (q : Q ((xs.filter p).map f) u) : (xs.map enc).length < 100000 ∧ wComp b wt we ρ (xs.map enc) [] u Q :=
  ⟨by rw [List.length_map]; exact hl, wComp_filtT enc p f xs [] u h (by simpa using q)⟩
theorem c_map {enc : α → D} {f : α → D} {xs : List α} (hl : xs.length < 100000)
    (h : ∀ x ∈ xs, ∃ ρ', b (enc x) ρ = some ρ' ∧ ∀ u (R : D → Nat → Prop), R (f x) u → we ρ' u R)
    (q : Q (xs.map f) u) : (xs.map enc).length < 100000 ∧ wComp b wTy we ρ (xs.map enc) [] u Q :=
  ⟨by rw [List.length_map]; exact hl, wComp_mapT enc f xs [] u h (by simpa using q)⟩
end
/-- with draws in the test: some of them -/
theorem wComp_sub {α : Type} {b : WB} {wt : WT} {we : WE} {ρ : Rho} {Q : List D → Nat → Prop} (enc : α → D) (f : α → D) (c B : Nat) : ∀ (xs : List α) (acc : List D) (u : Nat),
    (∀ x ∈ xs, ∃ ρ', b (enc x) ρ = some ρ' ∧ (∀ v (R : Bool → Nat → Prop), v + c ≤ B → (∀ t v', v' ≤ v + c → R t v') → wt ρ' v R) ∧ ∀ v (R : D → Nat → Prop), R (f x) v → we ρ' v R) → u + xs.length * c ≤ B →
    (∀ (ys : List α) (u' : Nat), ys.Sublist xs → u' ≤ u + xs.length * c → Q (acc ++ ys.map f) u') → wComp b wt we ρ (xs.map enc) acc u Q
  | [], acc, u, _, _, q => by
    have := q [] u (List.Sublist.refl _) (by simp)
    simpa using this
  | x :: xs, acc, u, h, hB, q => by
    obtain ⟨ρ', e, ht, he⟩ := h x List.mem_cons_self
    have hm : (x :: xs).length * c = xs.length * c + c := by simp [Nat.succ_mul]
    rw [hm] at hB q
    refine ⟨ρ', e, ht u _ (by omega) fun t v hv => ?_⟩
    have hr : ∀ y ∈ xs, _ := fun y hy => h y (List.mem_cons_of_mem _ hy)
    cases t with
    | true =>
      rw [if_pos rfl]
      refine he v _ (wComp_sub enc f c B xs _ v hr (by omega) fun ys u' hs hu => ?_)
      have := q (x :: ys) u' (hs.cons_cons x) (by omega)
      simpa using this
    | false =>
      rw [if_neg (by simp)]
      exact wComp_sub enc f c B xs _ v hr (by omega) fun ys u' hs hu => q ys u' (hs.cons x) (by omega)
/-! loops -/
/-- a list of one's own grows by g of each item -/
theorem loop_app {α : Type} {enc : α → D} {g : α → List D} {I : List D → Rho → Prop} {b : WB} {body : WS} {F : DE} {u : Nat} : ∀ (xs : List α) (acc : List D) (ρ : Rho)
    (h : ∀ x ∈ xs, ∀ acc' r ρ F', acc ++ xs.flatMap g = acc' ++ (g x ++ r) → I acc' ρ → F'.rt = F.rt → F'.ex = F.ex → (∀ ρ, I (acc' ++ g x) ρ → F'.nx ρ u) → (∀ ρ, I (acc' ++ g x) ρ → F'.ct ρ u) → ∃ ρ', b (enc x) ρ = some ρ' ∧ body F' ρ' u)
    (hn : ∀ ρ, I (acc ++ xs.flatMap g) ρ → F.nx ρ u), I acc ρ → wLoop b body F (xs.map enc) ρ u
  | [], acc, ρ, h, hn, i0 => hn ρ (by simpa using i0)
  | x :: xs, acc, ρ, h, hn, i0 => by
    have e0 : acc ++ (x :: xs).flatMap g = acc ++ (g x ++ xs.flatMap g) := by rw [List.flatMap_cons]
    have next : ∀ ρ, I (acc ++ g x) ρ → wLoop b body F (xs.map enc) ρ u := fun ρ i1 =>
      loop_app xs (acc ++ g x) ρ (fun y hy acc' r ρ F' e => h y (List.mem_cons_of_mem _ hy) acc' r ρ F' (by rw [e0, ← List.append_assoc]; exact e)) (fun ρ i => hn ρ (by rw [e0, ← List.append_assoc]; exact i)) i1
    obtain ⟨ρ', e, hb⟩ := h x List.mem_cons_self acc (xs.flatMap g) ρ { nx := wLoop b body F (xs.map enc), rt := F.rt, bk := F.nx, ct := wLoop b body F (xs.map enc), ex := F.ex } e0 i0 rfl rfl next next
    exact ⟨ρ', e, hb⟩
/-- a search: each item goes on, or hands back False -/
theorem loop_all {α : Type} {enc : α → D} {p : α → Bool} {I : Rho → Prop} {b : WB} {body : WS} {F : DE} {u : Nat} : ∀ (xs : List α) (ρ : Rho)
    (h : ∀ x ∈ xs, ∀ ρ F', I ρ → F'.rt = F.rt → F'.ex = F.ex → (p x = true → ∀ ρ, I ρ → F'.nx ρ u) → (p x = true → ∀ ρ, I ρ → F'.ct ρ u) → (p x = false → F'.rt (.bool false) u) → ∃ ρ', b (enc x) ρ = some ρ' ∧ body F' ρ' u)
    (hn : (∀ x ∈ xs, p x = true) → ∀ ρ, I ρ → F.nx ρ u) (hf : (∃ x ∈ xs, p x = false) → F.rt (.bool false) u), I ρ → wLoop b body F (xs.map enc) ρ u
  | [], ρ, h, hn, hf, i0 => hn (fun _ h => nomatch h) ρ i0
  | x :: xs, ρ, h, hn, hf, i0 => by
    have next : p x = true → ∀ ρ, I ρ → wLoop b body F (xs.map enc) ρ u := fun px ρ i1 =>
      loop_all xs ρ (fun y hy => h y (List.mem_cons_of_mem _ hy)) (fun ha => hn fun y hy => (List.mem_cons.mp hy).elim (fun e => by rw [e]; exact px) (ha y)) (fun ⟨y, hy, e⟩ => hf ⟨y, List.mem_cons_of_mem _ hy, e⟩) i1
    obtain ⟨ρ', e, hb⟩ := h x List.mem_cons_self ρ { nx := wLoop b body F (xs.map enc), rt := F.rt, bk := F.nx, ct := wLoop b body F (xs.map enc), ex := F.ex } i0 rfl rfl next next (fun px => hf ⟨x, List.mem_cons_self, px⟩)
    exact ⟨ρ', e, hb⟩
/-- a search: each item goes on, or hands back r -/
theorem loop_ret {α : Type} {enc : α → D} {p : α → Bool} {I : Rho → Prop} {b : WB} {body : WS} {F : DE} {u : Nat} {r : D} : ∀ (xs : List α) (ρ : Rho)
    (h : ∀ x ∈ xs, ∀ ρ F', I ρ → F'.rt = F.rt → F'.ex = F.ex → (p x = true → ∀ ρ, I ρ → F'.nx ρ u) → (p x = true → ∀ ρ, I ρ → F'.ct ρ u) → (p x = false → F'.rt r u) → ∃ ρ', b (enc x) ρ = some ρ' ∧ body F' ρ' u)
    (hn : (∀ x ∈ xs, p x = true) → ∀ ρ, I ρ → F.nx ρ u) (hf : (∃ x ∈ xs, p x = false) → F.rt r u), I ρ → wLoop b body F (xs.map enc) ρ u
  | [], ρ, h, hn, hf, i0 => hn (fun _ h => nomatch h) ρ i0
  | x :: xs, ρ, h, hn, hf, i0 => by
    have next : p x = true → ∀ ρ, I ρ → wLoop b body F (xs.map enc) ρ u := fun px ρ i1 =>
      loop_ret xs ρ (fun y hy => h y (List.mem_cons_of_mem _ hy)) (fun ha => hn fun y hy => (List.mem_cons.mp hy).elim (fun e => by rw [e]; exact px) (ha y)) (fun ⟨y, hy, e⟩ => hf ⟨y, List.mem_cons_of_mem _ hy, e⟩) i1
    obtain ⟨ρ', e, hb⟩ := h x List.mem_cons_self ρ { nx := wLoop b body F (xs.map enc), rt := F.rt, bk := F.nx, ct := wLoop b body F (xs.map enc), ex := F.ex } i0 rfl rfl next next (fun px => hf ⟨x, List.mem_cons_self, px⟩)
    exact ⟨ρ', e, hb⟩
end DW

set_option Elab.async false
set_option linter.all false
set_option maxRecDepth 100000
set_option maxHeartbeats 4000000
namespace K02
open PySem PySem.Spec PyProof.Rows L2 DW WLD
theorem wMid {A : WS} {F : DE} {ρ : Rho} {u : Nat} (P : Rho → Nat → Prop) (hA : ∀ F' : DE, F'.rt = F.rt → (∀ ρ u, P ρ u → F'.nx ρ u) → A F' ρ u) (hB : ∀ ρ u, P ρ u → F.nx ρ u) : A F ρ u := hA F rfl hB
end K02

set_option Elab.async false
set_option linter.all false
set_option maxRecDepth 100000
set_option maxHeartbeats 4000000
namespace K02
open PySem PySem.Spec PyProof.Rows L2 DW WLD
theorem cut_init (xs : List D) (h : 0 < xs.length) : DW.cutD xs none (some (-1)) = xs.take (xs.length - 1) := by
  unfold DW.cutD
  have e : HT.sIx xs.length xs.length (some (-1)) = xs.length - 1 := by
    show (if (-1 : Int) < 0 then ((-1 : Int) + (xs.length : Int)).toNat else min (-1 : Int).toNat xs.length) = _
    rw [if_pos (by omega)]
    omega
  rw [HT.sIx_none, e, List.drop_zero, Nat.sub_zero]
end K02

set_option Elab.async false
set_option linter.all false
set_option maxRecDepth 100000
set_option maxHeartbeats 4000000
namespace K02
open PySem PySem.Spec PyProof.Rows L2 DW WLD
/-! rings -/
theorem ringW_m {k : Nat} : (ringW k).m = k := by simp [Wd.m, ringW]
theorem ringW_is {k : Nat} (hk : 0 < k) : IsW (ringW k) := by
  have hm : (ringW k).m = k := by simp [Wd.m, ringW]
  have hs : ∀ f, (ringW k).src f = 0 ∧ (ringW k).tgt f = 0 := fun f => by
    simp only [Wd.src, Wd.tgt, ringW, List.getD]
    by_cases h : f < k
    · simp [h]
    · simp [h]
  have ht : ∀ f g, f < k → g < k → (ringW k).t f g = ((f + g) % k : Nat) := fun f g hf hg => by
    simp [Wd.t, ringW, List.getD, hf, hg]
  have hc : ∀ f g, f < k → g < k → (ringW k).c f g = (f + g) % k := fun f g hf hg => by unfold Wd.c; rw [ht f g hf hg]; exact Int.toNat_natCast _
  refine ⟨by rw [hm]; exact hk, fun j hj => ?_, fun f hf => ⟨by rw [(hs f).1]; exact Nat.one_pos, by rw [(hs f).2]; exact Nat.one_pos⟩, ?_, fun f g hf hg h => absurd ((hs f).2.trans (hs g).1.symm) h, fun f g hf hg _ => ?_, fun f hf => ?_, fun f g h hf hg hh _ _ => ?_⟩
  · have : j = 0 := by have : j < 1 := hj; omega
    subst this
    exact hs 0
  · rw [hm]
    refine ⟨by simp [ringW], fun r hr => ?_⟩
    simp only [ringW, List.mem_map] at hr
    obtain ⟨a, _, rfl⟩ := hr
    simp
  · rw [hm] at hf hg ⊢
    rw [hc f g hf hg, ht f g hf hg]
    exact ⟨rfl, Nat.mod_lt _ hk, by rw [(hs _).1, (hs _).1], by rw [(hs _).2, (hs _).2]⟩
  · rw [hm] at hf
    rw [(hs f).1, (hs f).2, hc 0 f hk hf, hc f 0 hf hk, Nat.zero_add, Nat.add_zero]
    exact ⟨Nat.mod_eq_of_lt hf, Nat.mod_eq_of_lt hf⟩
  · rw [hm] at hf hg hh
    rw [hc f g hf hg, hc g h hg hh, hc _ h (Nat.mod_lt _ hk) hh, hc f _ hf (Nat.mod_lt _ hk)]
    rw [Nat.mod_add_mod, Nat.add_mod_mod, Nat.add_assoc]
theorem ringW_loops (k : Nat) : loopsW ((List.range k).map fun a => (List.range k).map fun b => (a + b) % k) = ringW k := by
  simp only [loopsW, ringW, List.map_map, List.map_const', Wd.mk.injEq, true_and]
  refine ⟨by simp [Function.comp_def, List.map_const'], ?_⟩
  simp [Function.comp_def]
end K02

set_option Elab.async false
set_option linter.all false
set_option maxRecDepth 100000
set_option maxHeartbeats 4000000
namespace K02
open PySem PySem.Spec PyProof.Rows L2 DW WLD
end K02

set_option Elab.async false
set_option linter.all false
set_option maxRecDepth 100000
set_option maxHeartbeats 4000000
namespace K02
open PySem PySem.Spec PyProof.Rows L2 DW WLD
theorem _root_.WLD.IsW.c_still {W : Wd} (hW : IsW W) {f g : Nat} (hf : f < W.m) (hg : g < W.m) (h : 0 ≤ W.t f g) (h2 : W.t f g < W.n) : W.tgt f = W.src g ∧ W.tgt g = W.src f ∧ W.c f g = W.src f := by
  have e := (hW.t_iff hf hg).mp h
  obtain ⟨e1, e2, e3, e4⟩ := hW.yes f g hf hg e
  have hc : W.c f g < W.n := by rw [e1] at h2; omega
  obtain ⟨s1, s2⟩ := hW.still _ hc
  refine ⟨e, by rw [← e4, s2, ← e3, s1], by rw [← e3, s1]⟩
def backP (W : Wd) (f g : Nat) : Bool := decide (W.src g = W.tgt f ∧ W.tgt g = W.src f ∧ W.c f g = W.src f ∧ W.c g f = W.tgt f)
theorem backP_iff {W : Wd} (hW : IsW W) {f g : Nat} (hf : f < W.m) (hg : g < W.m) : backP W f g = true ↔ (0 ≤ W.t f g ∧ W.t f g < W.n) ∧ (0 ≤ W.t g f ∧ W.t g f < W.n) := by
  unfold backP
  rw [decide_eq_true_eq]
  constructor
  · rintro ⟨h1, h2, h3, h4⟩
    have a := (hW.yes f g hf hg h1.symm).1
    have b := (hW.yes g f hg hf h2).1
    have c := (hW.ends f hf)
    rw [a, b, h3, h4]
    omega
  · rintro ⟨⟨h1, h2⟩, ⟨h3, h4⟩⟩
    obtain ⟨a1, a2, a3⟩ := hW.c_still hf hg h1 h2
    obtain ⟨b1, b2, b3⟩ := hW.c_still hg hf h3 h4
    exact ⟨a1.symm, a2, a3, by rw [b3, a1]⟩
theorem back_some {W : Wd} {f g : Nat} (h : back? W f = some g) : g < W.m ∧ backP W f g = true := by
  unfold back? at h
  exact ⟨List.mem_range.mp (List.mem_of_find?_eq_some h), List.find?_some h⟩
theorem back_none {W : Wd} {f : Nat} (h : back? W f = none) : ∀ g, g < W.m → backP W f g = false := fun g hg => by
  unfold back? at h
  have := List.find?_eq_none.mp h g (List.mem_range.mpr hg)
  cases e : backP W f g with
  | false => rfl
  | true => exact absurd e this
theorem range_find {p : Nat → Bool} {m i : Nat} (hi : i < m) (hp : p i = true) (hb : ∀ j, j < i → p j = false) : (List.range m).find? p = some i := find_range p hi hp hb
end K02

set_option Elab.async false
set_option linter.all false
set_option maxRecDepth 100000
set_option maxHeartbeats 4000000
namespace K02
open PySem PySem.Spec PyProof.Rows L2 DW WLD
theorem fEq_nil {n : Bool} {l : List Nat} {Q : D → Prop} : fEq n (.list (l.map fun g => .int (g : Nat))) (.list []) Q = Q (.bool (if n then !decide (l = []) else decide (l = []))) :=
  fEq_sh ((Sh.lst (n := 0) fun d hd => by obtain ⟨g, _, rfl⟩ := List.mem_map.mp hd; exact .int).mono (by omega)) ((Sh.lst (n := 0) (by simp)).mono (by omega)) ⟨fun h => by rw [of_decide_eq_true h]; rfl, fun h => decide_eq_true (by simpa using h)⟩
theorem x_between {u : Nat} {W : Wd} {x y : Nat} {Q : D → Nat → Prop} (hW : IsW W) (hm : W.m ≤ 40) (q : Q (.list (((List.range W.m).filter fun f => decide (W.src f = x ∧ W.tgt f = y)).map fun f => .int (f : Nat))) u) : W__law_between u [wdD W, .int (x : Nat), .int (y : Nat)] Q := ⟨W, x, y, hW, hm, rfl, q⟩
theorem filter_head {p : Nat → Bool} {l : List Nat} : (l.filter p).head? = l.find? p := by
  rw [List.head?_filter]
end K02

set_option Elab.async false
set_option linter.all false
set_option maxRecDepth 100000
set_option maxHeartbeats 4000000
namespace K02
open PySem PySem.Spec PyProof.Rows L2 DW WLD
theorem tu_data {W : Wd} : wdD (tu W) = .tuple [.int (W.n : Nat), .tuple (W.es.map fun p => prN (p.2, p.1)), .tuple ((List.range W.m).map fun f => .tuple ((List.range W.m).map fun g => .int (W.t g f)))] := by
  simp only [wdD, tu, List.map_map, rowI, Function.comp_def]
end K02

set_option Elab.async false
set_option linter.all false
set_option maxRecDepth 100000
set_option maxHeartbeats 4000000
namespace K02
open PySem PySem.Spec PyProof.Rows L2 DW WLD
theorem tu_m {W : Wd} : (tu W).m = W.m := by simp [Wd.m, tu]
theorem tu_src {W : Wd} (f : Nat) : (tu W).src f = W.tgt f ∧ (tu W).tgt f = W.src f := by
  simp only [Wd.src, Wd.tgt, tu, List.getD, List.getElem?_map]
  cases W.es[f]? <;> simp
theorem tu_t {W : Wd} {f g : Nat} (hf : f < W.m) (hg : g < W.m) : (tu W).t f g = W.t g f := by
  simp [Wd.t, tu, List.getD, hf, hg]
theorem tu_c {W : Wd} {f g : Nat} (hf : f < W.m) (hg : g < W.m) : (tu W).c f g = W.c g f := by
  unfold Wd.c
  rw [tu_t hf hg]
theorem tu_is {W : Wd} (hW : IsW W) : IsW (tu W) := by
  have sm : ∀ k, k < W.n → k < W.m := fun k h => Nat.lt_of_lt_of_le h hW.nm
  refine ⟨by rw [tu_m]; exact hW.nm, fun k hk => ?_, fun f hf => ?_, ?_, fun f g hf hg h => ?_, fun f g hf hg h => ?_, fun f hf => ?_, fun f g h hf hg hh q1 q2 => ?_⟩
  · rw [(tu_src k).1, (tu_src k).2]
    exact ⟨(hW.still k hk).2, (hW.still k hk).1⟩
  · rw [tu_m] at hf
    rw [(tu_src f).1, (tu_src f).2]
    exact ⟨(hW.ends f hf).2, (hW.ends f hf).1⟩
  · rw [tu_m]
    refine ⟨by simp [tu], fun r hr => ?_⟩
    simp only [tu, List.mem_map] at hr
    obtain ⟨a, _, rfl⟩ := hr
    simp
  · rw [tu_m] at hf hg
    rw [(tu_src f).2, (tu_src g).1] at h
    rw [tu_t hf hg]
    exact hW.no g f hg hf (Ne.symm h)
  · rw [tu_m] at hf hg ⊢
    rw [(tu_src f).2, (tu_src g).1] at h
    obtain ⟨a, b, c, d⟩ := hW.yes g f hg hf h.symm
    rw [tu_t hf hg, tu_c hf hg]
    exact ⟨a, b, by rw [(tu_src _).1, (tu_src f).1, d], by rw [(tu_src _).2, (tu_src g).2, c]⟩
  · rw [tu_m] at hf
    have e := hW.ends f hf
    rw [(tu_src f).1, (tu_src f).2, tu_c (sm _ e.2) hf, tu_c hf (sm _ e.1)]
    exact ⟨(hW.unit f hf).2, (hW.unit f hf).1⟩
  · rw [tu_m] at hf hg hh
    rw [(tu_src f).2, (tu_src g).1] at q1
    rw [(tu_src g).2, (tu_src h).1] at q2
    have a := (hW.yes g f hg hf q1.symm).2.1
    have b := (hW.yes h g hh hg q2.symm).2.1
    rw [tu_c hf hg, tu_c hg hh, tu_c a hh, tu_c hf b]
    exact (hW.assoc h g f hh hg hf q2.symm q1.symm).symm
end K02

set_option Elab.async false
set_option linter.all false
set_option maxRecDepth 100000
set_option maxHeartbeats 4000000
namespace K02
open PySem PySem.Spec PyProof.Rows L2 DW WLD
theorem x_unlike {u : Nat} {ns : List Int} {Q : D → Nat → Prop} (h : ns.length < 64) (q : Q (.bool (decide (distinct ns = ns.length))) u) : W_are_all_unlike u [.list (ns.map .int)] Q := ⟨ns, h, rfl, q⟩
end K02

set_option Elab.async false
set_option linter.all false
set_option maxRecDepth 100000
set_option maxHeartbeats 4000000
namespace K02
open PySem PySem.Spec PyProof.Rows L2 DW WLD
/-! what may be told as a text -/
structure RO (n w : Nat) (d : D) : Prop where
  a : d.canLay0 = true
  b : d.depth ≤ n
  c : d.weight ≤ w
  e : d.intsShort 13 = true
  f : d.showable = true
theorem RO.mono {n n' w w' : Nat} {d : D} (h : RO n w d) (h1 : n ≤ n') (h2 : w ≤ w') : RO n' w' d := ⟨h.a, Nat.le_trans h.b h1, Nat.le_trans h.c h2, h.e, h.f⟩
theorem RO.ok {d : D} (h : RO 64 1048576 d) : reprOk d = true := by
  unfold reprOk PyData.layable0
  rw [h.a, h.e, h.f, decide_eq_true h.b, decide_eq_true (show d.weight ≤ 2 ^ 20 from h.c)]
  rfl
theorem ro_all {n w : Nat} : ∀ {xs : List D}, (∀ x ∈ xs, RO n w x) → PyData.canLayAll0 xs = true ∧ PyData.depthAll xs ≤ n ∧ PyData.weightAll xs ≤ xs.length * (w + 1) ∧ PyData.intsShortAll 13 xs = true ∧ PyData.showableAll xs = true
  | [], _ => by simp [PyData.canLayAll0, PyData.depthAll, PyData.weightAll, PyData.intsShortAll, PyData.showableAll]
  | x :: xs, h => by
    obtain ⟨a, b, c, e, f⟩ := h x List.mem_cons_self
    obtain ⟨a2, b2, c2, e2, f2⟩ := ro_all (xs := xs) fun y hy => h y (List.mem_cons_of_mem _ hy)
    refine ⟨by simp [PyData.canLayAll0, a, a2], by simp [PyData.depthAll]; omega, ?_, by simp [PyData.intsShortAll, e, e2], by simp [PyData.showableAll, f, f2]⟩
    simp only [PyData.weightAll, List.length_cons, Nat.succ_mul]
    omega
theorem RO.lst {n w : Nat} {xs : List D} (h : ∀ x ∈ xs, RO n w x) : RO (n + 1) (xs.length * (w + 1)) (.list xs) := by
  obtain ⟨a, b, c, e, f⟩ := ro_all h
  exact ⟨by simpa [PyData.canLay0] using a, by simp [PyData.depth]; exact b, by simpa [PyData.weight] using c, by simpa [PyData.intsShort] using e, by simpa [PyData.showable] using f⟩
theorem ro_small : ∀ e : Nat, e < 48 → (PyData.int (e : Nat)).weight ≤ 10 ∧ (PyData.int (e : Nat)).intsShort 13 = true ∧ (PyData.int (e : Nat)).showable = true := by decide +kernel
theorem RO.num {e : Nat} (h : e < 48) : RO 0 10 (.int (e : Nat)) := ⟨rfl, Nat.le_refl 0, (ro_small e h).1, (ro_small e h).2.1, (ro_small e h).2.2⟩
theorem RO.bool {b : Bool} : RO 0 10 (.bool b) := by cases b <;> exact ⟨rfl, by decide, by decide +kernel, rfl, rfl⟩
theorem RO.none : RO 0 10 (.none : D) := ⟨rfl, by decide, by decide +kernel, rfl, rfl⟩
theorem RO.onD {o : Option Nat} (h : ∀ g, o = some g → g < 48) : RO 0 10 (onD o) := by
  cases o with
  | none => exact RO.none
  | some g => exact RO.num (h g rfl)
theorem like_same {u : Nat} {a b : D} {Q : D → Nat → Prop} (e : a = b) (h : reprOk a = true) (q : Q (.bool true) u) : W__law_like u [a, b] Q := by
  subst e
  exact ⟨a, a, rfl, h, h, by simpa using q⟩
theorem ro_lst {xs : List D} (hl : xs.length ≤ 10) (h : ∀ x ∈ xs, RO 0 10 x) : reprOk (.list xs) = true := ((RO.lst h).mono (by omega) (by omega)).ok
/-! arrows that may be cancelled -/
theorem inj_of {α β : Type} {f : α → β} : ∀ {l : List α}, (l.map f).Nodup → ∀ {a b : α}, a ∈ l → b ∈ l → f a = f b → a = b
  | [], _, a, b, ha, _, _ => (nomatch ha)
  | x :: l, nd, a, b, ha, hb, e => by
    rw [List.map_cons, List.nodup_cons] at nd
    rcases List.mem_cons.mp ha with h1 | h1 <;> rcases List.mem_cons.mp hb with h2 | h2
    · rw [h1, h2]
    · subst h1; exact absurd (List.mem_map.mpr ⟨b, h2, e.symm⟩) nd.1
    · subst h2; exact absurd (List.mem_map.mpr ⟨a, h1, e⟩) nd.1
    · exact inj_of nd.2 h1 h2 e
theorem sure_iff {W : Wd} (hW : IsW W) {f : Nat} (hf : f < W.m) : sure W f = true ↔ ∀ g h, g < W.m → h < W.m → W.tgt g = W.src f → W.tgt h = W.src f → W.c g f = W.c h f → g = h := by
  unfold sure
  rw [decide_eq_true_eq, distinct_iff]
  unfold sureL
  constructor
  · intro nd g h hg hh eg eh e
    refine inj_of nd (List.mem_filter.mpr ⟨List.mem_range.mpr hg, decide_eq_true eg⟩) (List.mem_filter.mpr ⟨List.mem_range.mpr hh, decide_eq_true eh⟩) ?_
    rw [(hW.yes g f hg hf eg).1, (hW.yes h f hh hf eh).1, e]
  · intro H
    refine List.pairwise_map.mpr (List.Pairwise.imp_of_mem (fun {a b} ha hb h e => h ?_) (List.nodup_range.filter _))
    obtain ⟨a1, a2⟩ := List.mem_filter.mp ha
    obtain ⟨b1, b2⟩ := List.mem_filter.mp hb
    have a1 := List.mem_range.mp a1
    have b1 := List.mem_range.mp b1
    have a2 := of_decide_eq_true a2
    have b2 := of_decide_eq_true b2
    exact H a b a1 b1 a2 b2 (by unfold Wd.c; rw [e])
theorem wide_iff {W : Wd} (hW : IsW W) {f : Nat} (hf : f < W.m) : wide W f = true ↔ ∀ g h, g < W.m → h < W.m → W.tgt f = W.src g → W.tgt f = W.src h → W.c f g = W.c f h → g = h := by
  unfold wide
  rw [decide_eq_true_eq, distinct_iff]
  unfold wideL
  constructor
  · intro nd g h hg hh eg eh e
    refine inj_of nd (List.mem_filter.mpr ⟨List.mem_range.mpr hg, decide_eq_true eg⟩) (List.mem_filter.mpr ⟨List.mem_range.mpr hh, decide_eq_true eh⟩) ?_
    rw [(hW.yes f g hf hg eg).1, (hW.yes f h hf hh eh).1, e]
  · intro H
    refine List.pairwise_map.mpr (List.Pairwise.imp_of_mem (fun {a b} ha hb h e => h ?_) (List.nodup_range.filter _))
    obtain ⟨a1, a2⟩ := List.mem_filter.mp ha
    obtain ⟨b1, b2⟩ := List.mem_filter.mp hb
    have a1 := List.mem_range.mp a1
    have b1 := List.mem_range.mp b1
    have a2 := of_decide_eq_true a2
    have b2 := of_decide_eq_true b2
    exact H a b a1 b1 a2 b2 (by unfold Wd.c; rw [e])
def BP (W : Wd) (f g : Nat) : Prop := W.src g = W.tgt f ∧ W.tgt g = W.src f ∧ W.c f g = W.src f ∧ W.c g f = W.tgt f
theorem bp {W : Wd} {f g : Nat} : backP W f g = true ↔ BP W f g := by unfold backP BP; rw [decide_eq_true_eq]
theorem BP.symm {W : Wd} {f g : Nat} (h : BP W f g) : BP W g f := ⟨h.2.1.symm, h.1.symm, by rw [h.1]; exact h.2.2.2, by rw [h.2.1]; exact h.2.2.1⟩
section
variable {W : Wd} (hW : IsW W) {f g h b d : Nat}
theorem BP.uniq (hW : IsW W) (hf : f < W.m) (hg : g < W.m) (hh : h < W.m) (a : BP W f g) (c : BP W f h) : g = h := by
  have u1 := (hW.unit g hg).2
  have as := hW.assoc g f h hg hf hh a.2.1 c.1.symm
  rw [a.2.2.2, c.2.2.1, ← a.2.1, u1, ← c.1] at as
  rw [(hW.unit h hh).1] at as
  exact as.symm
theorem BP.sure (hW : IsW W) (hf : f < W.m) (hb : b < W.m) (a : BP W f b) : sure W f = true := by
  refine (sure_iff hW hf).mpr fun g h hg hh eg eh e => ?_
  have a1 := hW.assoc g f b hg hf hb eg a.1.symm
  have a2 := hW.assoc h f b hh hf hb eh a.1.symm
  rw [a.2.2.1, ← eg, (hW.unit g hg).2, e] at a1
  rw [a.2.2.1, ← eh, (hW.unit h hh).2] at a2
  exact a1.symm.trans a2
theorem BP.wide (hW : IsW W) (hf : f < W.m) (hb : b < W.m) (a : BP W f b) : wide W f = true := by
  refine (wide_iff hW hf).mpr fun g h hg hh eg eh e => ?_
  have a1 := hW.assoc b f g hb hf hg a.2.1 eg
  have a2 := hW.assoc b f h hb hf hh a.2.1 eh
  rw [a.2.2.2, eg, (hW.unit g hg).1, e] at a1
  rw [a.2.2.2, eh, (hW.unit h hh).1] at a2
  exact a1.trans a2.symm
theorem split_bp (hW : IsW W) (hf : f < W.m) (hg : g < W.m) (s : K02.sure W f = true) (e1 : W.src g = W.tgt f) (e2 : W.tgt g = W.src f) (e3 : W.c g f = W.tgt f) : BP W f g := by
  refine ⟨e1, e2, ?_, e3⟩
  obtain ⟨y1, y2, y3, y4⟩ := hW.yes f g hf hg e1.symm
  have s1 := (hW.ends f hf).1
  obtain ⟨t1, t2⟩ := hW.still _ s1
  have sm : W.src f < W.m := Nat.lt_of_lt_of_le s1 hW.nm
  refine (sure_iff hW hf).mp s _ _ y2 sm (by rw [y4, e2]) t2 ?_
  rw [hW.assoc f g f hf hg hf e1.symm e2, e3, (hW.unit f hf).2, (hW.unit f hf).1]
theorem share_bp (hW : IsW W) (hf : f < W.m) (hg : g < W.m) (s : K02.wide W f = true) (e1 : W.src g = W.tgt f) (e2 : W.tgt g = W.src f) (e3 : W.c f g = W.src f) : BP W f g := by
  refine ⟨e1, e2, e3, ?_⟩
  obtain ⟨y1, y2, y3, y4⟩ := hW.yes g f hg hf e2
  have s1 := (hW.ends f hf).2
  obtain ⟨t1, t2⟩ := hW.still _ s1
  have sm : W.tgt f < W.m := Nat.lt_of_lt_of_le s1 hW.nm
  refine (wide_iff hW hf).mp s _ _ y2 sm (by rw [y3, e1]) t1.symm ?_
  rw [← hW.assoc f g f hf hg hf e1.symm e2, e3, (hW.unit f hf).1, (hW.unit f hf).2]
end
theorem back?_of {W : Wd} (hW : IsW W) {f g : Nat} (hf : f < W.m) (hg : g < W.m) (a : BP W f g) : back? W f = some g := by
  cases e : back? W f with
  | none => exact absurd (bp.mpr a) (by rw [back_none e g hg]; exact Bool.false_ne_true)
  | some h =>
    obtain ⟨h1, h2⟩ := back_some e
    rw [BP.uniq hW hf h1 hg (bp.mp h2) a]
theorem find_same {p q : Nat → Bool} : ∀ {l : List Nat}, (∀ x ∈ l, p x = q x) → l.find? p = l.find? q
  | [], _ => rfl
  | x :: l, h => by
    rw [List.find?_cons, List.find?_cons, h x List.mem_cons_self, find_same fun y hy => h y (List.mem_cons_of_mem _ hy)]
theorem tu_back {W : Wd} {f : Nat} (hf : f < W.m) : back? (tu W) f = back? W f := by
  unfold back?
  rw [tu_m]
  refine find_same fun g hg => ?_
  have hg := List.mem_range.mp hg
  rw [(tu_src g).1, (tu_src g).2, (tu_src f).1, (tu_src f).2, tu_c hf hg, tu_c hg hf]
  refine decide_eq_decide.mpr ⟨?_, ?_⟩
  · rintro ⟨a, b, c, d⟩; exact ⟨b, a, d, c⟩
  · rintro ⟨a, b, c, d⟩; exact ⟨b, a, d, c⟩
theorem tu_sure {W : Wd} {f : Nat} (hf : f < W.m) : sure (tu W) f = wide W f := by
  have : sureL (tu W) f = wideL W f := by
    unfold sureL wideL
    rw [tu_m]
    have e : ((List.range W.m).filter fun g => decide ((tu W).tgt g = (tu W).src f)) = (List.range W.m).filter fun g => decide (W.tgt f = W.src g) := List.filter_congr fun g _ => by
      rw [(tu_src g).2, (tu_src f).1]
      exact decide_eq_decide.mpr ⟨Eq.symm, Eq.symm⟩
    rw [e]
    refine List.map_congr_left fun g hg => ?_
    exact tu_t (List.mem_range.mp (List.mem_filter.mp hg).1) hf
  unfold sure wide
  rw [this]
theorem tu_wide {W : Wd} {f : Nat} (hf : f < W.m) : wide (tu W) f = sure W f := by
  have : wideL (tu W) f = sureL W f := by
    unfold sureL wideL
    rw [tu_m]
    have e : ((List.range W.m).filter fun g => decide ((tu W).tgt f = (tu W).src g)) = (List.range W.m).filter fun g => decide (W.tgt g = W.src f) := List.filter_congr fun g _ => by
      rw [(tu_src f).2, (tu_src g).1]
      exact decide_eq_decide.mpr ⟨Eq.symm, Eq.symm⟩
    rw [e]
    refine List.map_congr_left fun g hg => ?_
    exact tu_t hf (List.mem_range.mp (List.mem_filter.mp hg).1)
  unfold sure wide
  rw [this]
theorem tu_idle {W : Wd} {f : Nat} (hf : f < W.m) : idle (tu W) f = idle W f := by
  unfold idle
  rw [tu_t hf hf]
end K02

set_option Elab.async false
set_option linter.all false
set_option maxRecDepth 100000
set_option maxHeartbeats 4000000
namespace K02
open PySem PySem.Spec PyProof.Rows L2 DW WLD
theorem ob_law_of : ∀ u ds Qd, W__law_of u ds Qd → ds.length = 2 ∧ w__law_of { nx := fun _ u' => Qd .none u', rt := Qd } (startR ["m", "some"] ds) u := by
  rintro u ds Qd ⟨xs, h0, hl, hds, hu, q⟩
  have hp : 0 < xs.length := List.length_pos_iff.mpr h0
  rcases hds with rfl | rfl <;> refine ⟨rfl, ?_⟩
  · simp only [w__law_of, startR]
    simp only [wRet, w2, wVar, wFn, waCons, waNil, wVarD, wCall]
    refine ⟨_, rfl, rfl, _, rfl, _, rfl, rfl, ?_⟩
    simp only [SV.val, fLen_list]
    refine x_draw (b := xs.length) rfl hp (by omega) (by omega) fun r hr => ?_
    have e : xs[r]? = some xs[r] := List.getElem?_eq_getElem hr
    rw [fIx_getL e]
    exact q _ (List.getElem_mem hr)
  · simp only [w__law_of, startR]
    simp only [wRet, w2, wVar, wFn, waCons, waNil, wVarD, wCall]
    refine ⟨_, rfl, rfl, _, rfl, _, rfl, rfl, ?_⟩
    simp only [SV.val, fLen]
    refine x_draw (b := xs.length) rfl hp (by omega) (by omega) fun r hr => ?_
    have e : xs[r]? = some xs[r] := List.getElem?_eq_getElem hr
    rw [fIx_getT e]
    exact q _ (List.getElem_mem hr)
theorem RO.tup {n w : Nat} {xs : List D} (h : ∀ x ∈ xs, RO n w x) : RO (n + 1) (xs.length * (w + 1)) (.tuple xs) := by
  obtain ⟨a, b, c, e, f⟩ := ro_all h
  exact ⟨by simpa [PyData.canLay0] using a, by simp [PyData.depth]; exact b, by simpa [PyData.weight] using c, by simpa [PyData.intsShort] using e, by simpa [PyData.showable] using f⟩
theorem ro_tupN {L : List Nat} (hl : L.length ≤ 40) (h : ∀ x ∈ L, x < 48) : RO 1 440 (tupN L) := (RO.tup (n := 0) (w := 10) fun x hx => by
  obtain ⟨e, he, rfl⟩ := List.mem_map.mp hx
  exact RO.num (h e he)).mono (Nat.le_refl _) (by rw [List.length_map]; omega)
theorem ro_bools {α : Type} {L : List α} {B : α → Bool} (hl : L.length ≤ 40) : RO 1 440 (.list (L.map fun x => (.bool (B x) : D))) := (RO.lst (n := 0) (w := 10) fun x hx => by
  obtain ⟨e, he, rfl⟩ := List.mem_map.mp hx
  exact RO.bool).mono (Nat.le_refl _) (by rw [List.length_map]; omega)
theorem r_ix {m i : Nat} {F : Nat → D} {Q : D → Prop} (h : i < m) : fIx (.list ((List.range m).map F)) (.int (i : Nat)) Q = Q (F i) := fIx_getL (by rw [List.getElem?_map, List.getElem?_range h]; rfl)
theorem fLen_scr {ns : List Int} {Q : D → Prop} (q : Q (.int (ns.length : Nat))) : fLen [sD ns] Q := ⟨ns, rfl, q⟩
theorem rg_get {n i : Nat} {x : D} (h : (rgD 0 (n : Int))[i]? = some x) : i < n ∧ x = .int (i : Nat) := by
  rw [rgD_get] at h
  by_cases hi : i < n
  · rw [if_pos hi] at h; exact ⟨hi, (Option.some.inj h).symm⟩
  · rw [if_neg hi] at h; cases h
/-- max(a, min(len(script), b)) -/
theorem turns (n a b : Nat) : ∃ k : Nat, (if (if (b : Int) < (n : Int) then (b : Int) else (n : Int)) > (a : Int) then (if (b : Int) < (n : Int) then (b : Int) else (n : Int)) else (a : Int)) = (k : Int) ∧ k ≤ max a b := by
  by_cases h : (b : Int) < (n : Int)
  · rw [if_pos h]
    by_cases h2 : (b : Int) > (a : Int)
    · rw [if_pos h2]; exact ⟨b, rfl, by omega⟩
    · rw [if_neg h2]; exact ⟨a, rfl, by omega⟩
  · rw [if_neg h]
    by_cases h2 : (n : Int) > (a : Int)
    · rw [if_pos h2]; exact ⟨n, rfl, by omega⟩
    · rw [if_neg h2]; exact ⟨a, rfl, by omega⟩
end K02

set_option Elab.async false
set_option linter.all false
set_option maxRecDepth 100000
set_option maxHeartbeats 4000000
namespace K02
open PySem PySem.Spec PyProof.Rows L2 DW WLD
/-! running: words, ways, webs -/
def slB (c : D) (i j : Int) (K : D → Prop) : Prop := match c with
  | .list xs => K (.list (DW.cutD xs (some i) (some j)))
  | .tuple xs => K (.tuple (DW.cutD xs (some i) (some j)))
  | _ => False
def slT (c d : D) (K : D → Prop) : Prop := ∃ i, d = .int i ∧ match c with
  | .list xs => K (.list (DW.cutD xs none (some i)))
  | .tuple xs => K (.tuple (DW.cutD xs none (some i)))
  | _ => False
def slF (c d : D) (K : D → Prop) : Prop := ∃ i, d = .int i ∧ match c with
  | .list xs => K (.list (DW.cutD xs (some i) none))
  | .tuple xs => K (.tuple (DW.cutD xs (some i) none))
  | _ => False
theorem wz_slTo {we w : WE} {ρ : Rho} {u : Nat} {Q : D → Nat → Prop} : wSl we woN (woS w) ρ u Q = we ρ u fun c u1 => w ρ u1 fun d u2 => slT c d fun z => Q z u2 := rfl
theorem wz_slFrom {we w : WE} {ρ : Rho} {u : Nat} {Q : D → Nat → Prop} : wSl we (woS w) woN ρ u Q = we ρ u fun c u1 => w ρ u1 fun d u2 => slF c d fun z => Q z u2 := rfl
theorem wz_slB {we w w2 : WE} {ρ : Rho} {u : Nat} {Q : D → Nat → Prop} : wSl we (woS w) (woS w2) ρ u Q = we ρ u fun c u1 => w ρ u1 fun d u2 => intK d fun i => w2 ρ u2 fun e u3 => intK e fun j => slB c i j fun z => Q z u3 := rfl
theorem ct_take {xs : List D} {k : Nat} : DW.cutD xs none (some (k : Int)) = xs.take k := by
  unfold DW.cutD
  rw [HT.sIx_none, HT.sIx_nat, List.drop_zero, Nat.sub_zero]
  by_cases h : k ≤ xs.length
  · rw [Nat.min_eq_left h]
  · rw [Nat.min_eq_right (by omega), List.take_length, List.take_of_length_le (by omega)]
theorem ct_drop {xs : List D} {k : Nat} : DW.cutD xs (some (k : Int)) none = xs.drop k := by
  unfold DW.cutD
  rw [HT.sIx_none, HT.sIx_nat]
  by_cases h : k ≤ xs.length
  · rw [Nat.min_eq_left h, List.take_of_length_le (by rw [List.length_drop]; omega)]
  · rw [Nat.min_eq_right (by omega), List.drop_length, List.drop_eq_nil_of_le (by omega)]; simp
theorem ct_both {xs : List D} {k j : Nat} : DW.cutD xs (some (k : Int)) (some (j : Int)) = (xs.drop k).take (j - k) := by
  unfold DW.cutD
  rw [HT.sIx_nat, HT.sIx_nat]
  by_cases h : k ≤ xs.length
  · rw [Nat.min_eq_left h]
    by_cases h2 : j ≤ xs.length
    · rw [Nat.min_eq_left h2]
    · rw [Nat.min_eq_right (by omega), List.take_of_length_le (by rw [List.length_drop]; omega), List.take_of_length_le (by rw [List.length_drop]; omega)]
  · rw [Nat.min_eq_right (show xs.length ≤ k by omega), List.drop_length, List.drop_eq_nil_of_le (show xs.length ≤ k by omega)]; simp
theorem wz_toT {L : List Nat} {k : Nat} {K : D → Prop} : slT (tupN L) (.int (k : Nat)) K = K (tupN (L.take k)) := by
  have e : (tupN (L.take k) : D) = .tuple (DW.cutD (L.map fun e => .int (e : Nat)) none (some (k : Int))) := by rw [ct_take]; unfold tupN; rw [List.map_take]
  rw [e]
  exact propext ⟨fun ⟨i, h, q⟩ => by cases h; exact q, fun q => ⟨_, rfl, q⟩⟩
theorem wz_frT {L : List Nat} {k : Nat} {K : D → Prop} : slF (tupN L) (.int (k : Nat)) K = K (tupN (L.drop k)) := by
  have e : (tupN (L.drop k) : D) = .tuple (DW.cutD (L.map fun e => .int (e : Nat)) (some (k : Int)) none) := by rw [ct_drop]; unfold tupN; rw [List.map_drop]
  rw [e]
  exact propext ⟨fun ⟨i, h, q⟩ => by cases h; exact q, fun q => ⟨_, rfl, q⟩⟩
theorem wz_bT {L : List Nat} {k j : Nat} {K : D → Prop} : slB (tupN L) (k : Int) (j : Int) K = K (tupN ((L.drop k).take (j - k))) := by
  have e : (tupN ((L.drop k).take (j - k)) : D) = .tuple (DW.cutD (L.map fun e => .int (e : Nat)) (some (k : Int)) (some (j : Int))) := by rw [ct_both]; unfold tupN; rw [List.map_take, List.map_drop]
  rw [e]
  rfl
theorem wz_tn {L : List Nat} {Q : List D → Prop} : seqD (tupN L) Q = Q (L.map fun e => .int (e : Nat)) := rfl
theorem wz_lenN {L : List Nat} {Q : D → Prop} : fLen [tupN L] Q = Q (.int (L.length : Nat)) := by
  show Q (.int ((L.map fun e => (.int (e : Nat) : D)).length : Nat)) = _
  rw [List.length_map]
theorem wz_lenL {L : List Nat} {Q : D → Prop} : fLen [lstN L] Q = Q (.int (L.length : Nat)) := by
  show Q (.int ((L.map fun e => (.int (e : Nat) : D)).length : Nat)) = _
  rw [List.length_map]
theorem wz_ixT {L : List Nat} {i : Nat} {Q : D → Prop} (h : i < L.length) : fIx (tupN L) (.int (i : Nat)) Q = Q (.int (L.getD i 0 : Nat)) := fIx_getT (by
  rw [List.getElem?_map, List.getElem?_eq_getElem h]
  simp [List.getD, h])
theorem wz_ixL {L : List Nat} {i : Nat} {Q : D → Prop} (h : i < L.length) : fIx (lstN L) (.int (i : Nat)) Q = Q (.int (lsI L i : Nat)) := fIx_getL (by
  unfold lsI
  rw [List.getElem?_map, List.getElem?_eq_getElem h]
  simp [List.getD, h])
theorem wz_pq {p : List Nat × List Nat} {s : Nat} {Q : D → Prop} (h : s < 2) : fIx (pqD p) (.int (s : Nat)) Q = Q (tupN (sdE p s)) := fIx_getT (by
  have : s = 0 ∨ s = 1 := by omega
  rcases this with rfl | rfl <;> rfl)
theorem wz_pq1 {p : List Nat × List Nat} {s : Nat} {Q : D → Prop} (h : s < 2) : fIx (pqD p) (.int (1 - (s : Int))) Q = Q (tupN (sdE p (1 - s))) := by
  rw [show (1 - (s : Int)) = ((1 - s : Nat) : Int) by omega]
  exact wz_pq (by omega)
theorem wz_eqT {n : Bool} {L M : List Nat} {Q : D → Prop} : fEq n (tupN L) (tupN M) Q = Q (.bool (if n then !decide (L = M) else decide (L = M))) :=
  fEq_sh ((Sh.tup (n := 0) sh_nats).mono (by omega)) ((Sh.tup (n := 0) sh_nats).mono (by omega)) ⟨fun h => by rw [of_decide_eq_true h], fun h => decide_eq_true (by
    have h2 := PyData.tuple.inj h
    refine List.map_inj_right (f := fun e : Nat => (.int (e : Nat) : D)) (fun x y e => Int.ofNat_inj.mp (PyData.int.inj e)) |>.mp h2)⟩
theorem wz_tru {w : WE} {ρ : Rho} {u : Nat} {Q : Bool → Nat → Prop} : wtTru w ρ u Q = w ρ u fun d u1 => fTru d fun b => Q b u1 := rfl
theorem wz_truN {L : List Nat} {Q : Bool → Prop} : fTru (tupN L) Q = Q (!L.isEmpty) := by
  show Q (!(L.map fun e => (.int (e : Nat) : D)).isEmpty) = _
  rw [List.isEmpty_map]
theorem wz_truL {α : Type} {f : α → D} {L : List α} {Q : Bool → Prop} : fTru (.list (L.map f)) Q = Q (!L.isEmpty) := by
  show Q (!(L.map f).isEmpty) = _
  rw [List.isEmpty_map]
theorem wz_wa0 {w : Wy} {Q : D → Prop} : fIx (waD w) (.int 0) Q = Q (.int (w.x : Nat)) := fIx_getT (i := 0) rfl
theorem wz_wa1 {w : Wy} {Q : D → Prop} : fIx (waD w) (.int 1) Q = Q (tupN w.l) := fIx_getT (i := 1) rfl
theorem wz_wb0 {W : Wb} {Q : D → Prop} : fIx (wbD W) (.int 0) Q = Q (.int (W.n : Nat)) := fIx_getT (i := 0) rfl
theorem wz_wb1 {W : Wb} {Q : D → Prop} : fIx (wbD W) (.int 1) Q = Q (.tuple (W.rs.map prN)) := fIx_getT (i := 1) rfl
theorem wz_rs {W : Wb} {r : Nat} {Q : D → Prop} (h : r < W.rs.length) : fIx (.tuple (W.rs.map prN)) (.int (r : Nat)) Q = Q (prN (W.rs.getD r (0, 0))) := fIx_getT (by
  rw [List.getElem?_map, List.getElem?_eq_getElem h, List.getD_eq_getElem?_getD, List.getElem?_eq_getElem h]
  rfl)
theorem wz_dc {wi : WA} {b : WB} {wt : WT} {wk wv : WE} {vs : List Nat} {ρ : Rho} {u : Nat} {Q : D → Nat → Prop} : wDc wi b wt wk wv vs ρ u Q = wi ρ u fun ds u1 => ds.length < 100000 ∧ wDComp b wt wk wv (wipeR ρ vs) ds [] u1 fun kvs u2 => Q (xD kvs) u2 := rfl
theorem wz_items {w : WE} {ρ : Rho} {u : Nat} {Q : List D → Nat → Prop} : wiItems w ρ u Q = w ρ u fun d u1 => dicK d fun kvs => Q (kvs.map itemD) u1 := rfl
def dgK (kvs : List (D × D)) (k : D) (K : D → Prop) : Prop := KOk kvs k ∧ ∃ d, dGet kvs k = some d ∧ K d
theorem wz_dGet {wd : WDi} {wk : WE} {ρ : Rho} {u : Nat} {Q : D → Nat → Prop} : wDGet wd wk ρ u Q = wd ρ u fun kvs u1 => wk ρ u1 fun k u2 => dgK kvs k fun d => Q d u2 := propext ⟨fun h => h, fun h => h⟩
theorem wz_min2 {a b : Nat} {Q : D → Prop} : fMin2 [.int (a : Nat), .int (b : Nat)] Q = Q (.int (min a b : Nat)) := by
  show Q (.int (if (b : Int) < (a : Int) then (b : Int) else (a : Int))) = _
  congr 2
  split <;> omega
theorem wz_max2 {a b : Nat} {Q : D → Prop} : fMax2 [.int (a : Nat), .int (b : Nat)] Q = Q (.int (max a b : Nat)) := by
  show Q (.int (if (b : Int) > (a : Int) then (b : Int) else (a : Int))) = _
  congr 2
  split <;> omega
theorem wz_tof {L : List Nat} {Q : D → Prop} : fTupOf [.list (L.map fun e => .int (e : Nat))] Q = Q (tupN L) := rfl
theorem wz_lenLs {α : Type} {f : α → D} {L : List α} {Q : D → Prop} : fLen [.list (L.map f)] Q = Q (.int (L.length : Nat)) := by
  show Q (.int ((L.map f).length : Nat)) = _
  rw [List.length_map]
theorem wz_lenI {α : Type} {f : α → D} {L : List α} {Q : D → Prop} : fLen [.tuple (L.map f)] Q = Q (.int (L.length : Nat)) := by
  show Q (.int ((L.map f).length : Nat)) = _
  rw [List.length_map]
theorem fIx_last {L : List Nat} {r : Nat} {Q : D → Prop} (q : Q (.int (r : Nat))) : fIx (tupN (L ++ [r])) (.int (-1)) Q := by
  refine ⟨.int (r : Nat), ?_, q⟩
  unfold atI ixN
  simp only [List.map_append, List.length_append, List.length_map, List.map_cons, List.map_nil, List.length_cons, List.length_nil]
  rw [if_neg (by omega), if_pos (by omega)]
  have : ((-1 : Int) + ((L.length + (0 + 1) : Nat) : Int)).toNat = L.length := by omega
  rw [this]
  simp
theorem addTT {L M : List Nat} {Q : D → Prop} (h : L.length + M.length ≤ 100000) (q : Q (tupN (L ++ M))) : fAdd (tupN L) (tupN M) Q := by
  refine ⟨by simpa using h, ?_⟩
  unfold tupN at q
  rwa [List.map_append] at q
theorem enL {α : Type} {f : α → D} {A : List α} {z : α} : enumD (A.map f) = (List.range A.length).map fun i => (.tuple [.int (i : Nat), f (A.getD i z)] : D) := by
  refine List.ext_getElem? fun i => ?_
  rw [enumD_get, List.getElem?_map, List.getElem?_map]
  by_cases h : i < A.length
  · rw [List.getElem?_eq_getElem h, List.getElem?_range h]
    simp only [Option.map_some]
    rw [List.getD_eq_getElem?_getD, List.getElem?_eq_getElem h]
    rfl
  · rw [List.getElem?_eq_none (by omega), List.getElem?_eq_none (by simpa using h)]
    rfl
theorem bW {i j : Nat} {ρ : Rho} {w : Wy} : bTup (bCons (bName i) (bCons (bName j) bNil)) (waD w) ρ = some ((ρ.set i (some (.d (.int (w.x : Nat))))).set j (some (.d (tupN w.l)))) := rfl
theorem rg2 : rgD 0 2 = (List.range 2).map fun i => (.int (i : Nat) : D) := rgD_map (n := 2)
local macro_rules | `(tactic| walk_at "x") => `(tactic| try simp (disch := first | assumption | omega) only [↓z_varD0, ↓wz_slTo, ↓wz_slFrom, ↓wz_slB, ↓wz_toT, ↓wz_frT, ↓wz_bT, ↓wz_tn, ↓wz_lenN, ↓wz_lenL, ↓wz_lenLs, ↓wz_lenI, ↓wz_ixT, ↓wz_ixL, ↓wz_pq, ↓wz_pq1, ↓wz_eqT, ↓wz_tru, ↓wz_truN, ↓wz_wa0, ↓wz_wa1, ↓wz_wb0, ↓wz_wb1, ↓wz_rs, ↓wz_dc, ↓wz_items, ↓wz_dGet, ↓wz_min2, ↓wz_max2, ↓wz_tof,  ↓z_varDs, ↓z_var0, ↓z_varo, ↓z_vars, ↓z_c, ↓z_2, ↓z_3, ↓z_tst, ↓z_tand, ↓z_tor, ↓z_tnot, ↓z_and, ↓z_or, ↓z_not, ↓z_isN, ↓z_neg, ↓z_nil, ↓z_cons, ↓z_tup, ↓z_lst, ↓z_sh0, ↓z_sh1, ↓z_sh2, ↓z_sh3, ↓z_sh4, ↓z_sh5, ↓z_fD, ↓z_if, ↓z_call, ↓z_fn, ↓z_lc, ↓z_i1, ↓z_iE, ↓z_seqL, ↓z_seqT, ↓z_iR, ↓z_rgK, ↓z_int, ↓z_bool, ↓z_lenT, ↓z_lenL, ↓z_tupT, ↓z_tupL, ↓z_iteT, ↓z_iteF, ↓z_lt, ↓z_le, ↓z_gt, ↓z_ge, ↓z_sub, ↓z_lrg, ↓z_trg, ↓z_ssI, ↓z_sort, ↓z_addF, ↓z_dic, ↓z_diD, ↓z_dIn, ↓z_iDic, ↓z_isB, ↓z_fnSw, ↓id_eq, ↓z_count, ↓z_lstI, ↓z_lsP, ↓z_addI, ↓i_w0, ↓i_w1, ↓i_w2, ↓i_es, ↓i_tb, ↓i_row, ↓i_p0, ↓i_p1, ↓fEq_int, ↓fEq_bool, ↓fEq_pr, ↓wipeR, ↓List.set_cons_zero, ↓List.set_cons_succ, t_and, t_or, t_andD, t_orD, Int.ofNat_inj, Int.ofNat_le, Int.ofNat_lt])
local macro_rules | `(tactic| walk_at "e") => `(tactic| (intro Q q; walk_at "x"; exact q))
local macro_rules | `(tactic| walk_at "r") => `(tactic| (intro u R r; walk_at "x"; exact r))
local macro_rules | `(tactic| walk_at "s") => `(tactic| simp only [startR, List.map_cons, List.map_nil, List.length_cons, List.length_nil, List.cons_append, List.nil_append, Nat.reduceAdd, Nat.reduceSub, Nat.zero_add, List.reduceReplicate])
local macro_rules | `(tactic| walk_at "d") => `(tactic| (try dsimp only [List.set_cons_zero, List.set_cons_succ]))

theorem ob_put_together : ∀ u ds Qd, W_put_together u ds Qd → ds.length = 3 ∧ w_put_together { nx := fun _ u' => Qd .none u', rt := Qd } (startR ["least", "one", "other", "low", "high", "part"] ds) u := by
  rintro u ds Qd ⟨L, a, b, hL, rfl, q⟩
  refine ⟨rfl, ?_⟩
  simp only [w_put_together]; walk_at "s"
  refine s_seq (s_unp (d := .tuple [.int (min a b : Nat), .int (max a b : Nat)]) (by walk_at "e") rfl ?_)
  walk_at "d"
  refine s_ret (d := lstN (L.map fun x => if x = max a b then min a b else x)) (fun Q q => ?_) q
  walk_at "x"
  show (L.map _).length < _ ∧ _
  refine c_map (enc := fun e : Nat => (.int (e : Nat) : D)) (f := fun x => .int (if x = max a b then min a b else x : Nat)) (by omega) (fun x hx => ⟨_, rfl, fun u R r => ?_⟩) ?_
  · walk_at "x"
    by_cases h : x = max a b
    · rw [if_pos (decide_eq_true h)]
      rwa [if_pos h] at r
    · rw [if_neg (by simpa using h)]
      rwa [if_neg h] at r
  · walk_at "x"
    unfold lstN at q
    rw [List.map_map] at q
    exact q
theorem ob_replaced : ∀ u ds Qd, W_replaced u ds Qd → ds.length = 4 ∧ w_replaced { nx := fun _ u' => Qd .none u', rt := Qd } (startR ["word", "place", "old", "new", "behind"] ds) u := by
  rintro u ds Qd ⟨l, p, s, v, hl, hs, hv, hp, rfl, q⟩
  refine ⟨rfl, ?_⟩
  simp only [w_replaced]; walk_at "s"
  refine s_seq (s_setD (d := .int ((p + s.length : Nat) : Int)) (fun Q q => ?_) ?_)
  · walk_at "x"
    exact q
  walk_at "d"
  refine s_seq (s_if (t := !decide ((l.drop p).take s.length = s)) (fun Q q => ?_) ?_)
  · walk_at "x"
    rw [show p + s.length - p = s.length by omega]
    exact q
  unfold rp at q
  by_cases h : (l.drop p).take s.length = s
  · rw [if_pos h] at q
    rw [if_neg (by simp [h])]
    refine s_nil ?_
    walk_at "d"
    refine s_ret (fun Q q => ?_) q
    walk_at "x"
    refine addTT (by rw [List.length_take]; omega) ?_
    walk_at "x"
    refine addTT (by rw [List.length_append, List.length_take, List.length_drop]; omega) ?_
    exact q
  · rw [if_neg h] at q
    rw [if_pos (by simp [h])]
    exact s_ret (by walk_at "e") q
theorem sum_len {E : Eqs} {l : List Nat} (h : ShortE E l) : (SL E l).length ≤ 12800 := by
  obtain ⟨h1, h2, _⟩ := h
  have b0 : ∀ k s, (blkS E l k s).length ≤ l.length := fun k s => by
    have := fm_len (f := fun p => oneS E l k s p) (B := 1) (List.range l.length) fun p _ => by
      unfold oneS
      split <;> simp
    rw [List.length_range] at this
    unfold blkS
    omega
  have b1 : ∀ k, ((List.range 2).flatMap fun s => blkS E l k s).length ≤ 2 * l.length := fun k => by
    have := fm_len (f := fun s => blkS E l k s) (B := l.length) (List.range 2) fun s _ => b0 k s
    rwa [List.length_range] at this
  have := fm_len (f := fun k => (List.range 2).flatMap fun s => blkS E l k s) (B := 2 * l.length) (List.range E.length) fun k _ => b1 k
  rw [List.length_range] at this
  have h3 : E.length * (2 * l.length) ≤ 64 * 200 := Nat.mul_le_mul h1 (by omega)
  unfold SL
  omega
theorem sl_map {E : Eqs} {l : List Nat} {f : St4 → D} : (SL E l).map f = (List.range E.length).flatMap fun k => (List.range 2).flatMap fun s => (List.range l.length).flatMap fun p => (oneS E l k s p).map f := by
  unfold SL blkS
  simp only [List.map_flatMap]
theorem ob_steps_from : ∀ u ds Qd, W_steps_from u ds Qd → ds.length = 2 ∧ w_steps_from { nx := fun _ u' => Qd .none u', rt := Qd } (startR ["equals", "word", "found", "k", "pair", "sense", "place", "more"] ds) u := by
  rintro u ds Qd ⟨E, l, hs, rfl, q⟩
  refine ⟨rfl, ?_⟩
  have tot := sum_len hs
  have hl := hs.2.1
  have hE8 := hs.1
  simp only [w_steps_from]; walk_at "s"
  refine s_seq (s_setF (by walk_at "e") ?_)
  walk_at "d"
  refine s_seq (s_for (ds := enumD (E.map pqD)) (by walk_at "e") ?_)
  rw [enL (z := (([], []) : List Nat × List Nat))]
  rw [← List.length_map (f := snD), sl_map] at tot
  rw [sl_map] at q
  let I : List D → Rho → Prop := fun acc ρ => ∃ s3 s4 s5 s6 s7, ρ = [some (.d (eqD E)), some (.d (tupN l)), some (.own acc), s3, s4, s5, s6, s7]
  refine loop_app (g := fun k => (List.range 2).flatMap fun s => (List.range l.length).flatMap fun p => (oneS E l k s p).map snD) (I := I) _ [] _ (fun k hk acc r ρ F1 e hI h1 h2 n1 n2 => ?_) (fun ρ hI => ?_) ⟨_, _, _, _, _, rfl⟩
  · obtain ⟨s3, s4, s5, s6, s7, rfl⟩ := hI
    have hk := List.mem_range.mp hk
    have lb1 := congrArg List.length e
    rw [List.nil_append, List.length_append, List.length_append] at lb1
    have hp := hs.2.2 (E.getD k ([], [])) (by rw [List.getD_eq_getElem?_getD, List.getElem?_eq_getElem hk]; exact List.getElem_mem hk)
    have sdl : ∀ s, (sdE (E.getD k ([], [])) s).length ≤ 100 := fun s => by unfold sdE; split <;> omega
    refine ⟨_, rfl, ?_⟩
    walk_at "d"
    refine s_forG ?_
    walk_at "x"
    refine ⟨(big_nat (n := 2) (by omega)).2, ?_⟩
    rw [rg2]
    let I2 : List D → Rho → Prop := fun acc ρ => ∃ s5 s6 s7, ρ = [some (.d (eqD E)), some (.d (tupN l)), some (.own acc), some (.d (.int (k : Nat))), some (.d (pqD (E.getD k ([], [])))), s5, s6, s7]
    refine loop_app (g := fun s => (List.range l.length).flatMap fun p => (oneS E l k s p).map snD) (I := I2) _ acc _ (fun s hs2 acc2 r2 ρ F2 e2 hI h3 h4 m1 m2 => ?_) (fun ρ hI => ?_) ⟨_, _, _, rfl⟩
    · obtain ⟨s5, s6, s7, rfl⟩ := hI
      have hs2 := List.mem_range.mp hs2
      have lb2 := congrArg List.length e2
      rw [List.length_append, List.length_append, List.length_append] at lb2
      refine ⟨_, rfl, ?_⟩
      walk_at "d"
      refine s_for (ds := (List.range l.length).map fun i => .int (i : Nat)) (by walk_at "e") ?_
      let I3 : List D → Rho → Prop := fun acc ρ => ∃ s6 s7, ρ = [some (.d (eqD E)), some (.d (tupN l)), some (.own acc), some (.d (.int (k : Nat))), some (.d (pqD (E.getD k ([], [])))), some (.d (.int (s : Nat))), s6, s7]
      refine loop_app (g := fun p => (oneS E l k s p).map snD) (I := I3) _ acc2 _ (fun p hp2 acc3 r3 ρ F3 e3 hI h5 h6 l1 l2 => ?_) (fun ρ hI => ?_) ⟨_, _, rfl⟩
      · obtain ⟨s6, s7, rfl⟩ := hI
        have hp2 := List.mem_range.mp hp2
        have lb3 := congrArg List.length e3
        rw [List.length_append, List.length_append, List.length_append] at lb3
        refine ⟨_, rfl, ?_⟩
        walk_at "d"
        refine s_seq (s_setG ?_)
        walk_at "x"
        refine ⟨l, p, _, _, hl, sdl s, sdl (1 - s), by omega, rfl, ?_⟩
        walk_at "d"
        unfold oneS at l1
        cases hr : rp l p (sdE (E.getD k ([], [])) s) (sdE (E.getD k ([], [])) (1 - s)) with
        | none =>
          rw [hr] at l1
          refine s_ifF (by walk_at "e") (s_nil ?_)
          refine l1 _ ⟨some (.d (.int (p : Nat))), some (.d .none), ?_⟩
          simp only [List.map_nil, List.append_nil]
        | some z =>
          rw [hr] at l1
          refine s_ifT (by walk_at "e") ?_
          refine s_app (d := snD (p, k, s, z)) rfl (by walk_at "e") (by omega) ?_
          walk_at "d"
          exact l1 _ ⟨_, _, rfl⟩
      · exact m1 _ (let ⟨s6, s7, e⟩ := hI; ⟨_, _, _, e⟩)
    · exact n1 _ (let ⟨s5, s6, s7, e⟩ := hI; ⟨_, _, _, _, _, e⟩)
  · obtain ⟨s3, s4, s5, s6, s7, rfl⟩ := hI
    walk_at "d"
    refine s_ret (fun Q q => ?_) q
    walk_at "x"
    exact q
theorem e_nil {W : Wb} {x : Nat} : W.e ⟨x, []⟩ = x := rfl
theorem e_snoc {W : Wb} {x r : Nat} {l : List Nat} (h : IsWy W ⟨x, l ++ [r]⟩) : r < W.rs.length ∧ W.e ⟨x, l ++ [r]⟩ = (W.rs.getD r (0, 0)).2 ∧ IsWy W ⟨x, l⟩ ∧ (W.rs.getD r (0, 0)).1 = W.e ⟨x, l⟩ := by
  obtain ⟨hx, y, hy⟩ := h
  simp only at hx hy
  rw [go_app] at hy
  cases q : W.go x l with
  | none => rw [q] at hy; cases hy
  | some m =>
    rw [q] at hy
    have hy' := hy
    simp only [Option.bind_some, Wb.go] at hy
    cases q2 : W.rs[r]? with
    | none => rw [q2] at hy; cases hy
    | some e =>
      rw [q2] at hy
      simp only at hy
      by_cases q3 : e.1 = m
      · rw [if_pos q3] at hy
        cases hy
        have hr : r < W.rs.length := (List.getElem?_eq_some_iff.mp q2).1
        have er : W.rs.getD r (0, 0) = e := by rw [List.getD_eq_getElem?_getD, q2]; rfl
        refine ⟨hr, ?_, ⟨hx, m, q⟩, ?_⟩
        · unfold Wb.e
          simp only
          rw [go_app, q, hy', er]
          rfl
        · unfold Wb.e
          simp only
          rw [q, er, q3]
          rfl
      · rw [if_neg q3] at hy; cases hy
theorem ob_end_of : ∀ u ds Qd, W_end_of u ds Qd → ds.length = 2 ∧ w_end_of { nx := fun _ u' => Qd .none u', rt := Qd } (startR ["web", "way", "x", "word"] ds) u := by
  rintro u ds Qd ⟨W, ⟨x, l⟩, hW, hw, rfl, q⟩
  refine ⟨rfl, ?_⟩
  simp only [w_end_of]; walk_at "s"
  refine s_seq (s_unp (d := waD ⟨x, l⟩) (by walk_at "e") bW ?_)
  walk_at "d"
  refine s_ret (fun Q q => ?_) q
  walk_at "x"
  rcases List.eq_nil_or_concat l with rfl | ⟨a, r, rfl⟩
  · walk_at "x"
    exact q
  · rw [List.concat_eq_append] at hw q ⊢
    obtain ⟨hr, e1, _, _⟩ := e_snoc hw
    rw [if_pos (by simp)]
    refine fIx_last ?_
    walk_at "x"
    rw [e1] at q
    exact q
theorem kid_way {W : Wb} {w k : Wy} (hw : IsWy W w) (h : k ∈ kids W w) : IsWy W k ∧ ∃ r, k = ⟨w.x, w.l ++ [r]⟩ := by
  unfold kids at h
  obtain ⟨r, hr, rfl⟩ := List.mem_map.mp h
  obtain ⟨h1, h2⟩ := List.mem_filter.mp hr
  have h1 := List.mem_range.mp h1
  have h2 := of_decide_eq_true h2
  refine ⟨⟨hw.1, (W.rs.getD r (0, 0)).2, ?_⟩, r, rfl⟩
  obtain ⟨hx, y, hy⟩ := hw
  have e : W.e w = y := by unfold Wb.e; rw [hy]; rfl
  show W.go w.x (w.l ++ [r]) = _
  rw [go_app, hy]
  have er : W.rs[r]? = some (W.rs.getD r (0, 0)) := by rw [List.getD_eq_getElem?_getD, List.getElem?_eq_getElem h1]; rfl
  simp only [Option.bind_some, Wb.go, er]
  rw [if_pos (by rw [h2, e])]
theorem kid_nd {W : Wb} {w : Wy} : (kids W w).Nodup := List.pairwise_map.mpr (List.Pairwise.imp (fun {a b} h e => h (by
  have := (Wy.mk.inj e).2
  exact List.singleton_inj.mp (List.append_cancel_left this))) (List.nodup_range.filter _))
theorem kid_mem {W : Wb} {x r : Nat} {l : List Nat} (h : IsWy W ⟨x, l ++ [r]⟩) : (⟨x, l ++ [r]⟩ : Wy) ∈ kids W ⟨x, l⟩ := by
  obtain ⟨h1, _, _, h4⟩ := e_snoc h
  exact List.mem_map.mpr ⟨r, List.mem_filter.mpr ⟨List.mem_range.mpr h1, decide_eq_true h4⟩, rfl⟩
theorem kid_len {W : Wb} (hW : WbOk W) {w : Wy} : (kids W w).length ≤ 8 := by
  unfold kids
  rw [List.length_map]
  have := List.length_filter_le (fun r => decide ((W.rs.getD r (0, 0)).1 = W.e w)) (List.range W.rs.length)
  rw [List.length_range] at this
  have := hW.r8
  omega
theorem ob_gone_on : ∀ u ds Qd, W_gone_on u ds Qd → ds.length = 2 ∧ w_gone_on { nx := fun _ u' => Qd .none u', rt := Qd } (startR ["web", "way", "at", "x", "word", "r", "road"] ds) u := by
  rintro u ds Qd ⟨W, w, hW, hw, rfl, q⟩
  refine ⟨rfl, ?_⟩
  have r8 := hW.r8
  have sh := (hw.short hW).1
  simp only [w_gone_on]; walk_at "s"
  refine s_seq (s_unp (d := waD w) (by walk_at "e") bW ?_)
  walk_at "d"
  refine s_seq (s_setG ?_)
  walk_at "x"
  refine ⟨W, w, hW, hw, rfl, ?_⟩
  walk_at "d"
  refine s_ret (fun Q q => ?_) q
  walk_at "x"
  rw [enL (z := ((0, 0) : Nat × Nat))]
  refine c_filt (p := fun r => decide ((W.rs.getD r (0, 0)).1 = W.e w)) (f := fun r => waD ⟨w.x, w.l ++ [r]⟩) (by rw [List.length_range]; omega) (fun r hr => ⟨_, rfl, fun u R rr => ?_, fun _ u R rr => ?_⟩) ?_
  · walk_at "x"
    exact rr
  · walk_at "x"
    refine addTT (M := [r]) (by simp; omega) ?_
    walk_at "x"
    exact rr
  · unfold kids at q
    rw [List.map_map] at q
    exact q
/-- F are found, T wait -/
structure SInv (W : Wb) (F T : List Wy) : Prop where
  nd : (F ++ T).Nodup
  way : ∀ w ∈ F ++ T, IsWy W w
  par : ∀ x l r, (⟨x, l ++ [r]⟩ : Wy) ∈ F ++ T → (⟨x, l⟩ : Wy) ∈ F
  root : ∀ x, x < W.n → (⟨x, []⟩ : Wy) ∈ F ++ T
  kid : ∀ w ∈ F, ∀ k ∈ kids W w, k ∈ F ++ T
theorem SInv.start (W : Wb) : SInv W [] ((List.range W.n).map fun x => ⟨x, []⟩) where
  nd := List.pairwise_map.mpr (List.Pairwise.imp (fun {a b} h e => h (Wy.mk.inj e).1) List.nodup_range)
  way := fun w hw => by
    obtain ⟨x, hx, rfl⟩ := List.mem_map.mp hw
    exact ⟨List.mem_range.mp hx, x, rfl⟩
  par := fun x l r h => by
    obtain ⟨y, _, e⟩ := List.mem_map.mp h
    have := (Wy.mk.inj e).2
    exact absurd this.symm (by simp)
  root := fun x hx => List.mem_map.mpr ⟨x, List.mem_range.mpr hx, rfl⟩
  kid := fun w hw => nomatch hw
theorem SInv.next {W : Wb} {F T0 T : List Wy} {w : Wy} (h : SInv W F T0) (p : T0.Perm (w :: T)) : SInv W (F ++ [w]) (T ++ kids W w) := by
  have perm : (F ++ [w] ++ (T ++ kids W w)).Perm ((F ++ T0) ++ kids W w) := by
    rw [← List.append_assoc]
    refine List.Perm.append_right _ ?_
    rw [List.append_assoc]
    exact List.Perm.append_left _ p.symm
  have hw : w ∈ T0 := p.mem_iff.mpr List.mem_cons_self
  have hww : IsWy W w := h.way w (List.mem_append_right _ hw)
  have nF : w ∉ F := fun hf => (List.nodup_append.mp h.nd).2.2 w hf w hw rfl
  have mem : ∀ {z}, z ∈ F ++ [w] ++ (T ++ kids W w) ↔ z ∈ (F ++ T0) ++ kids W w := fun {z} => perm.mem_iff
  refine ⟨perm.nodup_iff.mpr (List.nodup_append.mpr ⟨h.nd, kid_nd, fun a ha b hb e => ?_⟩), fun z hz => ?_, fun x l r hz => ?_, fun x hx => mem.mpr (List.mem_append_left _ (h.root x hx)), fun z hz k hk => ?_⟩
  · obtain ⟨_, r, e2⟩ := kid_way hww hb
    rw [e, e2] at ha
    exact nF (h.par _ _ _ ha)
  · rcases List.mem_append.mp (mem.mp hz) with q | q
    · exact h.way z q
    · exact (kid_way hww q).1
  · rcases List.mem_append.mp (mem.mp hz) with q | q
    · exact List.mem_append_left _ (h.par _ _ _ q)
    · obtain ⟨_, r', e2⟩ := kid_way hww q
      have e3 := Wy.mk.inj e2
      have e4 := List.append_inj' e3.2 rfl
      refine List.mem_append_right _ (List.mem_singleton.mpr ?_)
      rw [e3.1, e4.1]
  · rcases List.mem_append.mp hz with q | q
    · exact mem.mpr (List.mem_append_left _ (h.kid z q k hk))
    · rw [List.mem_singleton] at q
      rw [q] at hk
      exact mem.mpr (List.mem_append_right _ hk)
theorem SInv.all {W : Wb} {F : List Wy} (h : SInv W F []) : ∀ w, IsWy W w → w ∈ F := by
  have key : ∀ (n : Nat) (l : List Nat) (x : Nat), l.length = n → IsWy W ⟨x, l⟩ → (⟨x, l⟩ : Wy) ∈ F := by
    intro n
    induction n with
    | zero =>
      intro l x e hw
      rw [List.length_eq_zero_iff.mp e]
      have := h.root x hw.1
      rwa [List.append_nil] at this
    | succ n ih =>
      intro l x e hw
      rcases List.eq_nil_or_concat l with rfl | ⟨a, r, rfl⟩
      · cases e
      · rw [List.concat_eq_append] at e hw ⊢
        rw [List.length_append, List.length_singleton] at e
        have := h.kid _ (ih a x (by omega) (e_snoc hw).2.2.1) _ (kid_mem hw)
        rwa [List.append_nil] at this
  exact fun w hw => key _ w.l w.x rfl hw
theorem sh_wy {W : Wb} {w : Wy} : Sh 2 (wyD W w) := Sh.tup (n := 1) fun d hd => by
  simp only [List.mem_cons, List.not_mem_nil, or_false] at hd
  rcases hd with e | e | e | e <;> rw [e]
  · exact .int
  · exact .int
  · exact .int
  · exact Sh.tup (n := 0) sh_nats
theorem srt_wy {W : Wb} {A : List Wy} : SrtOk (A.map (wyD W)) where
  alike := fun d hd d' hd' => by
    obtain ⟨a, _, rfl⟩ := List.mem_map.mp hd
    obtain ⟨b, _, rfl⟩ := List.mem_map.mp hd'
    simp only [wyD, tupN, PySem.W.alike, PySem.W.alikeAll, Bool.and_true, Bool.true_and]
    exact alk_ints _ _
  kind := .inl fun d hd => by
    obtain ⟨p, _, rfl⟩ := List.mem_map.mp hd
    exact ⟨_, _, rfl⟩
  lay := fun d hd => by
    obtain ⟨p, _, rfl⟩ := List.mem_map.mp hd
    exact (sh_wy (W := W) (w := p)).2.1
  dep := fun d hd => by
    obtain ⟨p, _, rfl⟩ := List.mem_map.mp hd
    exact Nat.le_trans (sh_wy (W := W) (w := p)).2.2 (by omega)
def unWy : D → Wy
  | .tuple [.int x, _, _, .tuple l] => ⟨x.toNat, l.map fun d => match d with | .int i => i.toNat | _ => 0⟩
  | _ => ⟨0, []⟩
theorem unWy_wy {W : Wb} (w : Wy) : unWy (wyD W w) = w := by
  cases w
  simp [unWy, wyD, tupN, Function.comp_def]
theorem sort_wy {W : Wb} (A : List Wy) : ∃ A' : List Wy, A'.Perm A ∧ dSort (A.map (wyD W)) = A'.map (wyD W) ∧ (A'.map (wyD W)).Pairwise fun a b => dLe a b = true := by
  obtain ⟨A', h1, h2⟩ := perm_map_inv (f := wyD W) (g := unWy) (dSort_perm (A.map (wyD W))) fun a _ => unWy_wy a
  exact ⟨A', h1, h2, by rw [← h2]; exact dSort_sorted _⟩
theorem wz_wy0 {W : Wb} {w : Wy} {Q : D → Prop} : fIx (wyD W w) (.int 0) Q = Q (.int (w.x : Nat)) := fIx_getT (i := 0) rfl
theorem wz_wy1 {W : Wb} {w : Wy} {Q : D → Prop} : fIx (wyD W w) (.int 1) Q = Q (.int (W.e w : Nat)) := fIx_getT (i := 1) rfl
theorem wz_wy2 {W : Wb} {w : Wy} {Q : D → Prop} : fIx (wyD W w) (.int 2) Q = Q (.int (w.l.length : Nat)) := fIx_getT (i := 2) rfl
theorem wz_wy3 {W : Wb} {w : Wy} {Q : D → Prop} : fIx (wyD W w) (.int 3) Q = Q (tupN w.l) := fIx_getT (i := 3) rfl
theorem ob_ways : ∀ u ds Qd, W_ways u ds Qd → ds.length = 1 ∧ w_ways { nx := fun _ u' => Qd .none u', rt := Qd } (startR ["web", "found", "waiting", "ordered", "way", "x", "row"] ds) u := by
  rintro u ds Qd ⟨W, hW, hC, rfl, q⟩
  refine ⟨rfl, ?_⟩
  have n6 := hW.n6
  have hWn : W.n ≤ 1000 := by omega
  simp only [w_ways]; walk_at "s"
  refine s_seq (s_setF (by walk_at "e") ?_)
  walk_at "d"
  refine s_seq (s_setF (ds := ((List.range W.n).map fun x => (⟨x, []⟩ : Wy)).map waD) (fun Q q => ?_) ?_)
  · walk_at "x"
    rw [List.map_map] at q
    exact c_map (by simp; omega) (fun x hx => ⟨_, rfl, by walk_at "r"⟩) q
  walk_at "d"
  refine s_seq ?_
  let I : Nat → Rho → Nat → Prop := fun m ρ u' => u' = u ∧ ∃ (F T : List Wy) (s4 s5 s6 : Option SV), F.length + m = 200 ∧ SInv W F T ∧ ρ = [some (.d (wbD W)), some (.own (F.map waD)), some (.own (T.map waD)), none, s4, s5, s6]
  refine ⟨I, ⟨200, rfl, [], _, _, _, _, rfl, SInv.start W, rfl⟩, ?_⟩
  rintro m ρ u' ⟨rfl, F, T, s4, s5, s6, hm, hS, rfl⟩
  walk_at "x"
  rcases List.eq_nil_or_concat T with rfl | ⟨T', w, rfl⟩
  · rw [wz_truL]
    simp only [List.isEmpty_nil, Bool.not_true, Bool.false_eq_true, if_false]
    refine s_frz (xs := F.map waD) rfl ?_
    walk_at "d"
    refine s_seq (s_setG ?_)
    walk_at "x"
    refine c_map (f := fun w => wyD W w) (by omega) (fun w hw => ⟨_, rfl, fun u R r => ?_⟩) ?_
    · have hww := hS.way w (List.mem_append_left _ hw)
      walk_at "x"
      refine ⟨W, w, hW, hww, rfl, ?_⟩
      walk_at "x"
      exact r
    refine ⟨_, rfl, srt_wy, ?_⟩
    obtain ⟨A, h1, h2, h3⟩ := sort_wy (W := W) F
    rw [h2]
    walk_at "d"
    refine s_retG ?_
    walk_at "x"
    refine c_map (f := fun w => waD w) (by rw [h1.length_eq]; omega) (fun w hw => ⟨_, rfl, fun u R r => ?_⟩) ?_
    · simp only [↓z_tup, ↓z_cons, ↓z_nil, ↓z_2, ↓z_var0, ↓z_vars, ↓z_c, ↓wz_wy0, ↓wz_wy3, ↓z_sh2]
      walk_at "x"
      simp only [↓wz_wy0, ↓wz_wy3]
      exact r
    walk_at "x"
    exact q A ⟨h1.nodup_iff.mpr (by have := hS.nd; rwa [List.append_nil] at this), fun w => ⟨fun h => hS.way w (List.mem_append_left _ (h1.mem_iff.mp h)), fun h => h1.mem_iff.mpr (hS.all w h)⟩, h3⟩
  · rw [List.concat_eq_append] at hS ⊢
    rw [wz_truL]
    simp only [show (T' ++ [w]).isEmpty = false by simp, Bool.not_false, if_true]
    have hw : IsWy W w := hS.way w (by simp)
    have hn := hS.next (w := w) (T := T') (List.perm_append_comm)
    have cnt : (F ++ [w]).length ≤ 200 := hC _ (by have := hn.nd; exact (List.nodup_append.mp this).1) fun v hv => hn.way v (List.mem_append_left _ hv)
    rw [List.length_append, List.length_singleton] at cnt
    refine s_seq ?_
    refine ⟨T'.map waD, waD w, by simp, ?_⟩
    walk_at "d"
    refine s_seq (s_app (d := waD w) rfl (by walk_at "e") (by rw [List.length_map]; omega) ?_)
    walk_at "d"
    refine s_seq (s_ifF (fun Q q => ?_) (s_nil ?_))
    · walk_at "x"
      simp only [List.length_append, List.length_map, List.length_singleton]
      rw [show decide ((200 : Int) < ((F.length + 1 : Nat) : Int)) = false from decide_eq_false (by omega)]
      walk_at "x"
      exact q
    walk_at "d"
    refine ⟨T'.map waD, rfl, ?_⟩
    walk_at "x"
    refine ⟨W, w, hW, hw, rfl, ?_⟩
    have kl := kid_len hW (w := w)
    have tl : T'.length ≤ 200 := by
      have := hC T' (by
        have := hn.nd
        exact (List.nodup_append.mp (List.nodup_append.mp this).2.1).1) fun v hv => hn.way v (by simp [hv])
      exact this
    refine ⟨_, rfl, by rw [List.length_map, List.length_map]; omega, m - 1, by omega, rfl, F ++ [w], T' ++ kids W w, some (.d (waD w)), s5, s6, by rw [List.length_append, List.length_singleton]; omega, hn, ?_⟩
    walk_at "d"
    simp only [List.map_append, List.map_cons, List.map_nil]
end K02

set_option Elab.async false
set_option linter.all false
set_option maxRecDepth 100000
set_option maxHeartbeats 4000000
namespace K02
open PySem PySem.Spec PyProof.Rows L2 DW WLD
local macro_rules | `(tactic| walk_at "x") => `(tactic| try simp (disch := first | assumption | omega) only [↓z_varD0, ↓wz_slTo, ↓wz_slFrom, ↓wz_slB, ↓wz_toT, ↓wz_frT, ↓wz_bT, ↓wz_tn, ↓wz_lenN, ↓wz_lenL, ↓wz_lenLs, ↓wz_lenI, ↓wz_ixT, ↓wz_ixL, ↓wz_pq, ↓wz_pq1, ↓wz_eqT, ↓wz_tru, ↓wz_truN, ↓wz_wa0, ↓wz_wa1, ↓wz_wb0, ↓wz_wb1, ↓wz_rs, ↓wz_dc, ↓wz_items, ↓wz_dGet, ↓wz_min2, ↓wz_max2, ↓wz_tof, ↓wz_truL, ↓wz_wy0, ↓wz_wy1, ↓wz_wy2, ↓wz_wy3,  ↓z_varDs, ↓z_var0, ↓z_varo, ↓z_vars, ↓z_c, ↓z_2, ↓z_3, ↓z_tst, ↓z_tand, ↓z_tor, ↓z_tnot, ↓z_and, ↓z_or, ↓z_not, ↓z_isN, ↓z_neg, ↓z_nil, ↓z_cons, ↓z_tup, ↓z_lst, ↓z_sh0, ↓z_sh1, ↓z_sh2, ↓z_sh3, ↓z_sh4, ↓z_sh5, ↓z_fD, ↓z_if, ↓z_call, ↓z_fn, ↓z_lc, ↓z_i1, ↓z_iE, ↓z_seqL, ↓z_seqT, ↓z_iR, ↓z_rgK, ↓z_int, ↓z_bool, ↓z_lenT, ↓z_lenL, ↓z_tupT, ↓z_tupL, ↓z_iteT, ↓z_iteF, ↓z_lt, ↓z_le, ↓z_gt, ↓z_ge, ↓z_sub, ↓z_lrg, ↓z_trg, ↓z_ssI, ↓z_sort, ↓z_addF, ↓z_dic, ↓z_diD, ↓z_dIn, ↓z_iDic, ↓z_isB, ↓z_fnSw, ↓id_eq, ↓z_count, ↓z_lstI, ↓z_lsP, ↓z_addI, ↓i_w0, ↓i_w1, ↓i_w2, ↓i_es, ↓i_tb, ↓i_row, ↓i_p0, ↓i_p1, ↓fEq_int, ↓fEq_bool, ↓fEq_pr, ↓wipeR, ↓List.set_cons_zero, ↓List.set_cons_succ, t_and, t_or, t_andD, t_orD, Int.ofNat_inj, Int.ofNat_le, Int.ofNat_lt])
local macro_rules | `(tactic| walk_at "e") => `(tactic| (intro Q q; walk_at "x"; exact q))
local macro_rules | `(tactic| walk_at "r") => `(tactic| (intro u R r; walk_at "x"; exact r))
local macro_rules | `(tactic| walk_at "s") => `(tactic| simp only [startR, List.map_cons, List.map_nil, List.length_cons, List.length_nil, List.cons_append, List.nil_append, Nat.reduceAdd, Nat.reduceSub, Nat.zero_add, List.reduceReplicate])
local macro_rules | `(tactic| walk_at "d") => `(tactic| (try dsimp only [List.set_cons_zero, List.set_cons_succ]))

theorem HK_wa (A : List Wy) : HK (A.map waD) := .inr fun d hd => by
  obtain ⟨w, _, rfl⟩ := List.mem_map.mp hd
  refine ⟨_, rfl, ?_, ?_⟩
  · have : ∀ L : List Nat, isKs (L.map fun e => (.int (e : Nat) : D)) = true := fun L => by
      induction L with
      | nil => rfl
      | cons x L ih => simp only [List.map_cons, isKs, isK, ih, Bool.and_self]
    simp only [isKs, isK, tupN, this, Bool.and_self]
  · have : ∀ L : List Nat, PyData.depthAll (L.map fun e => (.int (e : Nat) : D)) ≤ 0 := fun L => by
      induction L with
      | nil => simp [PyData.depthAll]
      | cons x L ih => simp only [List.map_cons, PyData.depthAll, PyData.depth]; omega
    have h1 := this w.l
    simp only [tupN, PyData.depthAll, PyData.depth]
    omega
theorem waD_inj {v w : Wy} (h : waD v = waD w) : v = w := by
  cases v; cases w
  simp only [waD, PyData.tuple.injEq, List.cons.injEq, PyData.int.injEq, and_true] at h
  obtain ⟨h1, h2⟩ := h
  rw [Wy.mk.injEq]
  refine ⟨Int.ofNat_inj.mp h1, ?_⟩
  exact List.map_inj_right (f := fun e : Nat => (.int (e : Nat) : D)) (fun x y e => Int.ofNat_inj.mp (PyData.int.inj e)) |>.mp (PyData.tuple.inj h2)
/-- a dict made of a walk whose keys are all unlike -/
theorem wDComp_map {α : Type} {b : WB} {wk wv : WE} {ρ : Rho} {Q : List (D × D) → Nat → Prop} (enc kf vf : α → D) {S : List D} (hk : HK S) : ∀ (xs acc : List α) (u : Nat), ((acc ++ xs).map kf).Nodup → (∀ x ∈ acc ++ xs, kf x ∈ S) →
    (∀ x ∈ xs, ∃ ρ', b (enc x) ρ = some ρ' ∧ (∀ u (R : D → Nat → Prop), R (kf x) u → wk ρ' u R) ∧ ∀ u (R : D → Nat → Prop), R (vf x) u → wv ρ' u R) → Q ((acc ++ xs).map fun x => (kf x, vf x)) u → wDComp b wTy wk wv ρ (xs.map enc) (acc.map fun x => (kf x, vf x)) u Q
  | [], acc, u, nd, hS, h, q => by
    rw [List.append_nil] at q
    exact q
  | x :: xs, acc, u, nd, hS, h, q => by
    obtain ⟨ρ', e, h1, h2⟩ := h x List.mem_cons_self
    refine ⟨ρ', e, ?_⟩
    simp only [wTy, if_true]
    refine h1 _ _ (h2 _ _ ?_)
    have e2 : acc ++ x :: xs = acc ++ [x] ++ xs := by simp
    have inS : ∀ a ∈ acc, kf a ∈ S := fun a ha => hS a (List.mem_append_left _ ha)
    have xS : kf x ∈ S := hS x (List.mem_append_right _ List.mem_cons_self)
    refine ⟨ok_map hk inS xS, ?_⟩
    rw [put_snoc hk inS xS fun a ha ek => by
      rw [List.map_append, List.map_cons] at nd
      exact (List.nodup_append.mp nd).2.2 _ (List.mem_map.mpr ⟨a, ha, rfl⟩) _ List.mem_cons_self ek]
    exact wDComp_map enc kf vf hk xs (acc ++ [x]) u (by rw [← e2]; exact nd) (by rw [← e2]; exact hS) (fun y hy => h y (List.mem_cons_of_mem _ hy)) (by rw [← e2]; exact q)
def zw : Wy := ⟨0, []⟩
theorem shortE {W : Wb} {E : Eqs} (hW : WbOk W) (hE : EqOk W E) {l : List Nat} (hl : l.length ≤ 100) : ShortE E l := by
  have n6 := hW.n6
  refine ⟨hE.len, hl, fun p hp => ?_⟩
  obtain ⟨_, _, a, b, ha, h1, h2⟩ := hE.ok p hp
  have u1 := go_up hW h1
  have u2 := go_up hW h2
  have := u1.2.1 ha
  omega
theorem ob_least_ways : ∀ u ds Qd, W_least_ways u ds Qd → ds.length = 2 ∧ w_least_ways { nx := fun _ u' => Qd .none u', rt := Qd } (startR ["web", "equals", "every", "place", "least", "k", "x", "word", "_", "more", "way", "low", "high"] ds) u := by
  rintro u ds Qd ⟨W, E, hW, hC, hE, rfl, q⟩
  refine ⟨rfl, ?_⟩
  simp only [w_least_ways]; walk_at "s"
  refine s_seq (s_setG ?_)
  walk_at "x"
  refine ⟨W, hW, hC, rfl, fun A hA => ?_⟩
  have a200 : A.length ≤ 200 := hC A hA.1 fun w hw => (hA.2.1 w).mp hw
  have en : enumD (A.map waD) = (List.range A.length).map fun k => (.tuple [.int (k : Nat), waD (atW A k)] : D) := enL (z := zw)
  have hK := HK_wa A
  have nd : ((List.range A.length).map fun k => waD (atW A k)).Nodup := List.pairwise_map.mpr (List.Pairwise.imp_of_mem (fun {a b} ha hb h e => h (by
    rw [← ix_at hA.1 (List.mem_range.mp ha), ← ix_at hA.1 (List.mem_range.mp hb), waD_inj e])) List.nodup_range)
  walk_at "d"
  -- the numbers of the ways
  refine s_seq (s_setD (d := xD ((List.range A.length).map fun k => (waD (atW A k), .int (k : Nat)))) (fun Q qq => ?_) ?_)
  · walk_at "x"
    rw [en]
    refine ⟨by rw [List.length_map, List.length_range]; omega, ?_⟩
    refine wDComp_map (α := Nat) _ (fun k => waD (atW A k)) (fun k => .int (k : Nat)) hK (List.range A.length) [] _ (by simpa using nd) (fun k hk => List.mem_map.mpr ⟨_, atW_mem (List.mem_range.mp (by simpa using hk)), rfl⟩) (fun k hk => ⟨_, rfl, by walk_at "r", by walk_at "r"⟩) ?_
    exact qq
  walk_at "d"
  refine s_seq (s_setD (d := lstN (List.range A.length)) (fun Q qq => ?_) ?_)
  · walk_at "x"
    rw [List.length_map]
    refine ⟨RgOk.of_le (by omega) (by omega) (by omega) (by omega), ?_⟩
    rw [rgD_map]
    exact qq
  walk_at "d"
  have getP : ∀ w ∈ A, ∀ Q : D → Prop, Q (.int (ix A w : Nat)) → dgK ((List.range A.length).map fun k => (waD (atW A k), .int (k : Nat))) (waD w) Q := fun w hw Q qq => by
    have hwS : waD w ∈ A.map waD := List.mem_map.mpr ⟨w, hw, rfl⟩
    refine ⟨ok_map (k := fun k => waD (atW A k)) hK (fun k hk => List.mem_map.mpr ⟨_, atW_mem (List.mem_range.mp hk), rfl⟩) hwS, _, dGet_mem (fun p hp => ?_) (by rw [List.map_map]; exact nd) (List.mem_map.mpr ⟨ix A w, List.mem_range.mpr (ix_lt hw), by rw [atW_ix hw]⟩), qq⟩
    obtain ⟨k, hk, rfl⟩ := List.mem_map.mp hp
    exact hK.isK (List.mem_map.mpr ⟨_, atW_mem (List.mem_range.mp hk), rfl⟩)
  generalize hPl : ((List.range A.length).map fun k => (waD (atW A k), (.int (k : Nat) : D))) = Pl at getP
  -- all steps
  refine s_seq (s_for (ds := (List.range A.length).map fun k => (.tuple [.int (k : Nat), waD (atW A k)] : D)) (fun Q qq => ?_) ?_)
  · walk_at "x"
    rw [en]
    exact qq
  let I : Nat → Rho → Nat → Prop := fun k ρ u' => u' = u ∧ ∃ (L : List Nat) (s5 s6 s7 s8 s9 s10 s11 s12 : Option SV), PI E A L (fun a z => a < k ∧ Stp E (atW A a).l z) ∧ ρ = [some (.d (wbD W)), some (.d (eqD E)), some (.d (.tuple (A.map waD))), some (.d (xD Pl)), some (.d (lstN L)), s5, s6, s7, s8, s9, s10, s11, s12]
  refine wLoop_inv _ I ?_ ?_ _ _ ⟨rfl, List.range A.length, _, _, _, _, _, _, _, _, (PI.start E A).imp (fun a z h => absurd h.1 (Nat.not_lt_zero _)), rfl⟩
  · rintro k x ρ u' F1 hx ⟨rfl, L, s5, s6, s7, s8, s9, s10, s11, s12, hP, rfl⟩ n1 n2 n3 n4 n5
    rw [List.getElem?_map] at hx
    obtain ⟨k', hk1, rfl⟩ := Option.map_eq_some_iff.mp hx
    obtain ⟨hk, ek⟩ := List.getElem?_eq_some_iff.mp hk1
    rw [List.length_range] at hk
    rw [List.getElem_range] at ek
    subst ek
    have hw : IsWy W (atW A k) := (hA.2.1 _).mp (atW_mem hk)
    have sh := (hw.short hW).1
    refine ⟨_, rfl, ?_⟩
    walk_at "d"
    refine s_forG ?_
    walk_at "x"
    refine ⟨E, (atW A k).l, shortE hW hE (by omega), rfl, ?_⟩
    walk_at "x"
    let I2 : Nat → Rho → Nat → Prop := fun i ρ u'' => u'' = u' ∧ ∃ (L : List Nat) (s8 s9 s10 s11 s12 : Option SV), PI E A L (fun a z => (a < k ∧ Stp E (atW A a).l z) ∨ (a = k ∧ ∃ t ∈ (SL E (atW A k).l).take i, t.2.2.2 = z)) ∧ ρ = [some (.d (wbD W)), some (.d (eqD E)), some (.d (.tuple (A.map waD))), some (.d (xD Pl)), some (.d (lstN L)), some (.d (.int (k : Nat))), some (.d (.int ((atW A k).x : Nat))), some (.d (tupN (atW A k).l)), s8, s9, s10, s11, s12]
    refine wLoop_inv _ I2 ?_ ?_ _ _ ⟨rfl, L, _, _, _, _, _, hP.imp (fun a z h => h.elim id fun ⟨_, t, ht, _⟩ => by simp at ht), rfl⟩
    · rintro i x ρ u'' F2 hx ⟨rfl, L, s8, s9, s10, s11, s12, hP, rfl⟩ m1 m2 m3 m4 m5
      rw [List.getElem?_map] at hx
      obtain ⟨t, ht, rfl⟩ := Option.map_eq_some_iff.mp hx
      have hst : Stp E (atW A k).l t.2.2.2 := ⟨t, List.mem_of_getElem? ht, rfl⟩
      obtain ⟨hm, same, other⟩ := hP.edge hE hA hk hst
      have kl : k < L.length := by rw [hP.len]; exact hk
      have jl : ix A ⟨(atW A k).x, t.2.2.2⟩ < L.length := by rw [hP.len]; exact ix_lt hm
      have nextP : ∀ L' : List Nat, PI E A L' (fun a y => ((a < k ∧ Stp E (atW A a).l y) ∨ (a = k ∧ ∃ t ∈ (SL E (atW A k).l).take i, t.2.2.2 = y)) ∨ (a = k ∧ y = t.2.2.2)) → PI E A L' (fun a z => (a < k ∧ Stp E (atW A a).l z) ∨ (a = k ∧ ∃ t ∈ (SL E (atW A k).l).take (i + 1), t.2.2.2 = z)) := fun L' h => h.imp fun a z d => by
        rcases d with d | ⟨rfl, s, hs, rfl⟩
        · exact .inl (.inl d)
        · rw [List.take_add_one, ht] at hs
          rcases List.mem_append.mp hs with h | h
          · exact .inl (.inr ⟨rfl, s, h, rfl⟩)
          · rw [Option.toList_some, List.mem_singleton] at h
            rw [h]
            exact .inr ⟨rfl, rfl⟩
      refine ⟨_, rfl, ?_⟩
      walk_at "d"
      refine s_seq (s_par (c := .int (lsI L k : Nat)) (e := .int (lsI L (ix A ⟨(atW A k).x, t.2.2.2⟩) : Nat)) (fun Q qq => ?_) ?_)
      · walk_at "x"
        refine getP _ hm _ ?_
        walk_at "x"
        exact qq
      walk_at "d"
      refine s_if (t := !decide (lsI L k = lsI L (ix A ⟨(atW A k).x, t.2.2.2⟩))) (by walk_at "e") ?_
      by_cases h : lsI L k = lsI L (ix A ⟨(atW A k).x, t.2.2.2⟩)
      · rw [if_neg (by simp [h])]
        refine s_nil (m1 _ _ ⟨rfl, L, _, _, _, _, _, nextP L (same h), rfl⟩)
      · rw [if_pos (by simp [h])]
        refine s_setG ?_
        walk_at "x"
        refine ⟨L, _, _, by rw [hP.len]; omega, rfl, ?_⟩
        walk_at "d"
        exact m1 _ _ ⟨rfl, put L (lsI L k) (lsI L (ix A ⟨(atW A k).x, t.2.2.2⟩)), _, _, _, _, _, nextP _ (other h), rfl⟩
    · rintro ρ u'' ⟨rfl, L, s8, s9, s10, s11, s12, hP, rfl⟩
      rw [List.length_map, List.take_length] at hP
      refine n1 _ _ ⟨rfl, L, _, _, _, _, _, _, _, _, hP.imp (fun a z ⟨h1, h2⟩ => ?_), rfl⟩
      rcases Nat.lt_or_ge a k with h | h
      · exact .inl ⟨h, h2⟩
      · have : a = k := by omega
        subst this
        exact .inr ⟨rfl, h2⟩
  rintro ρ u' ⟨rfl, L, s5, s6, s7, s8, s9, s10, s11, s12, hP, rfl⟩
  rw [List.length_map, List.length_range] at hP
  have hP2 : PI E A L fun k z => Stp E (atW A k).l z := ⟨hP.len, hP.le, hP.rep, hP.con, fun k z hk d => hP.dn k z hk ⟨hk, d⟩⟩
  walk_at "d"
  refine s_ret (d := xD (A.map fun w => (waD w, waD ⟨w.x, (atW A (lsI L (ix A w))).l⟩))) (fun Q qq => ?_) (q A _ hA fun w hw => ?_)
  · walk_at "x"
    subst hPl
    rw [List.map_map]
    refine ⟨by rw [List.length_map, List.length_range]; omega, ?_⟩
    refine wDComp_map (α := Nat) _ (fun k => waD (atW A k)) (fun k => waD (atW A (lsI L k))) hK (List.range A.length) [] _ (by simpa using nd) (fun k hk => List.mem_map.mpr ⟨_, atW_mem (List.mem_range.mp (by simpa using hk)), rfl⟩) (fun k hk => ⟨_, rfl, by walk_at "r", fun u R r => ?_⟩) ?_
    · have hk := List.mem_range.mp hk
      have kl : k < L.length := by rw [hP.len]; exact hk
      have le := hP.le k hk
      walk_at "x"
      rw [fIx_getT (i := lsI L k) (z := waD (atW A (lsI L k))) (by rw [List.getElem?_map, atW_get (by omega)]; rfl)]
      exact r
    · rw [List.nil_append]
      have e : (A.map fun w => (waD w, waD ⟨w.x, (atW A (lsI L (ix A w))).l⟩)) = (List.range A.length).map fun k => (waD (atW A k), waD (atW A (lsI L k))) := by
        refine List.ext_getElem? fun i => ?_
        rw [List.getElem?_map, List.getElem?_map]
        by_cases h : i < A.length
        · rw [atW_get h, List.getElem?_range h]
          simp only [Option.map_some]
          rw [ix_at hA.1 h, ← (hP.con i h).1]
        · rw [List.getElem?_eq_none (by omega), List.getElem?_eq_none (by simpa using h)]
          rfl
      rw [← e]
      exact qq
  · have := (hP2.least hE hA (ix_lt hw)).2
    rwa [atW_ix hw] at this
theorem ob_least_way : ∀ u ds Qd, W_least_way u ds Qd → ds.length = 3 ∧ w_least_way { nx := fun _ u' => Qd .none u', rt := Qd } (startR ["web", "equals", "way"] ds) u := by
  rintro u ds Qd ⟨W, E, w, hW, hC, hE, hw, rfl, q⟩
  refine ⟨rfl, ?_⟩
  simp only [w_least_way]; walk_at "s"
  refine s_retG ?_
  walk_at "x"
  refine ⟨W, E, hW, hC, hE, rfl, fun A f hA hf => ?_⟩
  walk_at "x"
  have hm : w ∈ A := (hA.2.1 w).mpr hw
  have hK := HK_wa A
  refine ⟨ok_map (k := waD) hK (fun v hv => List.mem_map.mpr ⟨v, hv, rfl⟩) (List.mem_map.mpr ⟨w, hm, rfl⟩), waD ⟨w.x, f w⟩, dGet_mem (fun p hp => ?_) ?_ (List.mem_map.mpr ⟨w, hm, rfl⟩), q _ (hf w hm)⟩
  · obtain ⟨v, hv, rfl⟩ := List.mem_map.mp hp
    exact hK.isK (List.mem_map.mpr ⟨v, hv, rfl⟩)
  · rw [List.map_map]
    exact List.pairwise_map.mpr (List.Pairwise.imp (fun {a b} h e => h (waD_inj e)) hA.1)
end K02

set_option Elab.async false
set_option linter.all false
set_option maxRecDepth 100000
set_option maxHeartbeats 4000000
namespace K02
open PySem PySem.Spec PyProof.Rows L2 DW WLD

theorem wz_eq {E : Eqs} {k : Nat} {Q : D → Prop} (h : k < E.length) : fIx (eqD E) (.int (k : Nat)) Q = Q (pqD (E.getD k ([], []))) := fIx_getT (by
  rw [List.getElem?_map, List.getElem?_eq_getElem h, List.getD_eq_getElem?_getD, List.getElem?_eq_getElem h]
  rfl)
theorem wz_sl2 {W : Wb} {w : Wy} {K : D → Prop} : slT (wyD W w) (.int 2) K = K (prN (w.x, W.e w)) := propext ⟨fun ⟨i, h, q⟩ => by cases h; exact q, fun q => ⟨_, rfl, q⟩⟩
theorem tupN_inj' {a b : List Nat} (h : (tupN a : D) = tupN b) : a = b := List.map_inj_right (f := fun e : Nat => (.int (e : Nat) : D)) (fun x y e => Int.ofNat_inj.mp (PyData.int.inj e)) |>.mp (PyData.tuple.inj h)
theorem wz_inW {n : Bool} {z : List Nat} {F : List (List Nat)} {Q : D → Prop} : fIn n (tupN z) (.list (F.map tupN)) Q = Q (.bool (if n then !decide (z ∈ F) else decide (z ∈ F))) :=
  fIn_sh ((Sh.tup (n := 0) sh_nats).mono (by omega)) (fun d hd => by obtain ⟨a, _, rfl⟩ := List.mem_map.mp hd; exact (Sh.tup (n := 0) sh_nats).mono (by omega)) ⟨fun h => List.mem_map.mpr ⟨z, of_decide_eq_true h, rfl⟩, fun h => decide_eq_true (by obtain ⟨y, hy, e⟩ := List.mem_map.mp h; rw [← tupN_inj' e]; exact hy)⟩
theorem wz_lw1 {l : List Nat} {Q : D → Prop} : fIx (lwD l) (.int 1) Q = Q (tupN l) := fIx_getT (i := 1) rfl
theorem eqN_sh {n : Bool} {L : List D} {Q : D → Prop} (h : ∀ d ∈ L, Sh 60 d) : fEq n (.list L) (.list []) Q = Q (.bool (if n then !decide (L = []) else decide (L = []))) :=
  fEq_sh ((Sh.lst (n := 60) h).mono (by omega)) ((Sh.lst (n := 0) (by simp)).mono (by omega)) ⟨fun h => by rw [of_decide_eq_true h], fun h => decide_eq_true (by simpa using h)⟩
theorem eqN_wy {n : Bool} {W : Wb} {A : List Wy} {Q : D → Prop} : fEq n (.list (A.map (wyD W))) (.list []) Q = Q (.bool (if n then !decide (A = []) else decide (A = []))) := by
  rw [eqN_sh fun d hd => by obtain ⟨x, _, rfl⟩ := List.mem_map.mp hd; exact sh_wy.mono (by omega)]
  have : decide (A.map (wyD W) = []) = decide (A = []) := decide_eq_decide.mpr List.map_eq_nil_iff
  rw [this]
theorem minTwo {k : Nat} {Q : D → Prop} : fMin2 [.int 2, .int (k : Nat)] Q = Q (.int (min 2 k : Nat)) := wz_min2 (a := 2)
theorem nd_sub {L A : List Wy} (nd : L.Nodup) (h : ∀ w ∈ L, w ∈ A) : L.length ≤ A.length := by
  have h1 : (L.map fun w => ix A w).Nodup := List.pairwise_map.mpr (List.Pairwise.imp_of_mem (fun {a b} ha hb n e => n (by rw [← atW_ix (h a ha), ← atW_ix (h b hb), e])) nd)
  have h2 := nat_nodup_len _ (List.range A.length) h1 fun x hx => by
    obtain ⟨w, hw, rfl⟩ := List.mem_map.mp hx
    exact List.mem_range.mpr (ix_lt (h w hw))
  simpa using h2
def ws3 : List (List Nat) := [[], [0], [1], [2], [0, 0], [0, 1], [0, 2], [1, 0], [1, 1], [1, 2], [2, 0], [2, 1], [2, 2]]
theorem cnt3 {W : Wb} (hW : WbOk W) (hn : W.n ≤ 3) (hr : W.rs.length ≤ 3) : Cnt W 39 := fun L nd hL => by
  have := nd_sub (A := (List.range 3).flatMap fun x => ws3.map fun l => ⟨x, l⟩) nd fun w hw => by
    obtain ⟨hx, y, hy⟩ := hL w hw
    obtain ⟨u1, u2, u3⟩ := go_up hW hy
    have := u2 hx
    refine List.mem_flatMap.mpr ⟨w.x, List.mem_range.mpr (by omega), List.mem_map.mpr ⟨w.l, ?_, rfl⟩⟩
    have c : ∀ r ∈ w.l, r = 0 ∨ r = 1 ∨ r = 2 := fun r h => by have := u3 r h; omega
    generalize w.l = l at c u1
    match l, c, u1 with
    | [], _, _ => decide
    | [a], c, _ => rcases c a (by simp) with rfl | rfl | rfl <;> decide
    | [a, b], c, _ => rcases c a (by simp) with rfl | rfl | rfl <;> rcases c b (by simp) with rfl | rfl | rfl <;> decide
    | a :: b :: d :: l, _, u1 =>
      simp only [List.length_cons] at u1
      omega
  exact this
def web3 : Wb := ⟨3, [(0, 1), (1, 2), (0, 2)]⟩
theorem web3_ok : WbOk web3 := ⟨by decide, by decide, by decide⟩
theorem Cnt.mono {W : Wb} {a b : Nat} (h : Cnt W a) (e : a ≤ b) : Cnt W b := fun L nd hL => Nat.le_trans (h L nd hL) e
local macro_rules | `(tactic| walk_at "x") => `(tactic| try simp (disch := first | assumption | omega) only [↓z_varD0, ↓wz_slTo, ↓wz_slFrom, ↓wz_slB, ↓wz_toT, ↓wz_frT, ↓wz_bT, ↓wz_tn, ↓wz_lenN, ↓wz_lenL, ↓wz_lenLs, ↓wz_lenI, ↓wz_ixT, ↓wz_ixL, ↓wz_pq, ↓wz_pq1, ↓wz_eqT, ↓wz_tru, ↓wz_truN, ↓wz_wa0, ↓wz_wa1, ↓wz_wb0, ↓wz_wb1, ↓wz_rs, ↓wz_dc, ↓wz_items, ↓wz_dGet, ↓wz_min2, ↓wz_max2, ↓wz_tof, ↓wz_eq, ↓wz_sl2, ↓wz_inW, ↓wz_lw1, ↓wz_truL, ↓wz_wy0, ↓wz_wy1, ↓wz_wy2, ↓wz_wy3,  ↓z_varDs, ↓z_var0, ↓z_varo, ↓z_vars, ↓z_c, ↓z_2, ↓z_3, ↓z_tst, ↓z_tand, ↓z_tor, ↓z_tnot, ↓z_and, ↓z_or, ↓z_not, ↓z_isN, ↓z_neg, ↓z_nil, ↓z_cons, ↓z_tup, ↓z_lst, ↓z_sh0, ↓z_sh1, ↓z_sh2, ↓z_sh3, ↓z_sh4, ↓z_sh5, ↓z_fD, ↓z_if, ↓z_call, ↓z_fn, ↓z_lc, ↓z_i1, ↓z_iE, ↓z_seqL, ↓z_seqT, ↓z_iR, ↓z_rgK, ↓z_int, ↓z_bool, ↓z_lenT, ↓z_lenL, ↓z_tupT, ↓z_tupL, ↓z_iteT, ↓z_iteF, ↓z_lt, ↓z_le, ↓z_gt, ↓z_ge, ↓z_sub, ↓z_lrg, ↓z_trg, ↓z_ssI, ↓z_sort, ↓z_addF, ↓z_dic, ↓z_diD, ↓z_dIn, ↓z_iDic, ↓z_isB, ↓z_fnSw, ↓id_eq, ↓z_count, ↓z_lstI, ↓z_lsP, ↓z_addI, ↓i_w0, ↓i_w1, ↓i_w2, ↓i_es, ↓i_tb, ↓i_row, ↓i_p0, ↓i_p1, ↓fEq_int, ↓fEq_bool, ↓fEq_pr, ↓wipeR, ↓List.set_cons_zero, ↓List.set_cons_succ, t_and, t_or, t_andD, t_orD, Int.ofNat_inj, Int.ofNat_le, Int.ofNat_lt])
local macro_rules | `(tactic| walk_at "e") => `(tactic| (intro Q q; walk_at "x"; exact q))
local macro_rules | `(tactic| walk_at "r") => `(tactic| (intro u R r; walk_at "x"; exact r))
local macro_rules | `(tactic| walk_at "s") => `(tactic| simp only [startR, List.map_cons, List.map_nil, List.length_cons, List.length_nil, List.cons_append, List.nil_append, Nat.reduceAdd, Nat.reduceSub, Nat.zero_add, List.reduceReplicate])
local macro_rules | `(tactic| walk_at "d") => `(tactic| (try dsimp only [List.set_cons_zero, List.set_cons_succ]))

theorem ob_law_web : ∀ u ds Qd, W__law_web u ds Qd → ds.length = 3 ∧ w__law_web { nx := fun _ u' => Qd .none u', rt := Qd } (startR ["m", "size", "most", "step", "n", "found", "x"] ds) u := by
  rintro u ds Qd ⟨rfl, hu, q⟩
  refine ⟨rfl, ?_⟩
  simp only [w__law_web]; walk_at "s"
  refine s_seq ?_
  simp only [wOw, woDat, woLst, woNil]
  walk_at "x"
  refine x_draw (b := 7) rfl (by omega) (by omega) (by omega) fun n hn => ?_
  walk_at "x"
  refine ⟨rfl, ?_⟩
  dsimp only [setRs]
  walk_at "d"
  have fin : ∀ (rs : List (Nat × Nat)) (v : Nat) (s3 s6 : Option SV), rs.length ≤ 8 → (∀ r ∈ rs, r.1 < r.2 ∧ r.2 < n) → v ≤ u + 20 → wRet (wTup (waCons (wVarD 4) (waCons (wCall fTupOf (waCons (wVar 5) waNil)) waNil))) { nx := fun _ u' => Qd .none u', rt := Qd } [some (.d mD), some (.d (.int 6)), some (.d (.int 8)), s3, some (.d (.int (n : Nat))), some (.own (rs.map prN)), s6] v := fun rs v s3 s6 h8 hr hv => by
    refine s_retG ?_
    walk_at "x"
    exact q ⟨n, rs⟩ v ⟨by show n ≤ 6; omega, h8, hr⟩ hv
  have main : ∀ (c v : Nat), (c = 0 ∨ 1 < n) → c ≤ 8 → v ≤ u + 2 → wLoop (bName 3) (wSeq (wSetD 6 (wFn W__law_draw (waCons (wVarD 0) (waCons (w2 fSub (wVar 4) (wC (.int 1))) waNil)))) (wApp 5 (wTup (waCons (wVarD 6) (waCons (w2 fAdd (w2 fAdd (wVar 6) (wC (.int 1))) (wFn W__law_draw (waCons (wVarD 0) (waCons (wCall fMin2 (waCons (wC (.int 2)) (waCons (w2 fSub (w2 fSub (wVar 4) (wC (.int 1))) (wVar 6)) waNil))) waNil)))) waNil)))))
      { nx := (wRet (wTup (waCons (wVarD 4) (waCons (wCall fTupOf (waCons (wVar 5) waNil)) waNil)))) { nx := fun _ u' => Qd .none u', rt := Qd }, rt := Qd } ((List.range c).map fun i => .int (i : Nat)) [some (.d mD), some (.d (.int 6)), some (.d (.int 8)), none, some (.d (.int (n : Nat))), some (.own []), none] v := fun c v hc c8 hv => by
    let I : Nat → Rho → Nat → Prop := fun i ρ u' => u' ≤ v + 2 * i ∧ ∃ (rs : List (Nat × Nat)) (s3 s6 : Option SV), rs.length = i ∧ (∀ r ∈ rs, r.1 < r.2 ∧ r.2 < n) ∧ ρ = [some (.d mD), some (.d (.int 6)), some (.d (.int 8)), s3, some (.d (.int (n : Nat))), some (.own (rs.map prN)), s6]
    refine wLoop_inv _ I ?_ ?_ _ _ ⟨by omega, [], _, _, rfl, (fun r h => nomatch h), rfl⟩
    · rintro i x ρ u' F' hx ⟨hu', rs, s3, s6, hi, hr, rfl⟩ n1 n2 n3 n4 n5
      have hic : i < c := by simpa using (List.getElem?_eq_some_iff.mp hx).1
      have n1' : 1 < n := by omega
      refine ⟨_, rfl, ?_⟩
      walk_at "d"
      refine s_seq (s_setG ?_)
      walk_at "x"
      refine x_draw (b := n - 1) (by rw [show ((n : Int) - 1) = ((n - 1 : Nat) : Int) by omega]) (by omega) (by omega) (by omega) fun x hx => ?_
      walk_at "d"
      refine ⟨rs.map prN, rfl, ?_⟩
      walk_at "x"
      rw [show ((n : Int) - 1 - (x : Int)) = ((n - 1 - x : Nat) : Int) by omega, minTwo]
      refine x_draw (b := min 2 (n - 1 - x)) rfl (by omega) (by omega) (by omega) fun r hr2 => ?_
      walk_at "x"
      refine ⟨by rw [List.length_map]; omega, ?_⟩
      refine n1 _ _ ⟨by omega, rs ++ [(x, x + 1 + r)], _, _, by simp [hi], fun z hz => ?_, by rw [List.map_append]; rfl⟩
      rcases List.mem_append.mp hz with h | h
      · exact hr z h
      · rw [List.mem_singleton] at h
        rw [h]
        simp only
        omega
    · rintro ρ u' ⟨hu', rs, s3, s6, hi, hr, rfl⟩
      rw [List.length_map, List.length_range] at hu' hi
      exact fin rs u' s3 s6 (by omega) hr (by omega)
  refine s_seq (s_forG ?_)
  walk_at "x"
  by_cases h : (1 : Int) < (n : Int)
  · rw [if_pos (decide_eq_true h)]
    refine x_draw (b := 9) rfl (by omega) (by omega) (by omega) fun c hc => ?_
    walk_at "x"
    exact main c _ (.inr (by omega)) (by omega) (by omega)
  · rw [if_neg (by simpa using h)]
    refine ⟨(big_nat (n := 0) (by omega)).2, ?_⟩
    exact main 0 _ (.inl rfl) (by omega) (by omega)
theorem b4 {x y z w : D} {i j k l : Nat} {ρ : Rho} : bTup (bCons (bName i) (bCons (bName j) (bCons (bName k) (bCons (bName l) bNil)))) (.tuple [x, y, z, w]) ρ = some ((((ρ.set i (some (.d x))).set j (some (.d y))).set k (some (.d z))).set l (some (.d w))) := rfl
theorem kid_wy {W : Wb} {w : Wy} (hw : IsWy W w) {r : Nat} (h : (⟨w.x, w.l ++ [r]⟩ : Wy) ∈ kids W w) : wyD W ⟨w.x, w.l ++ [r]⟩ = .tuple [.int (w.x : Nat), .int ((W.rs.getD r (0, 0)).2 : Nat), .int ((w.l.length + 1 : Nat) : Int), tupN (w.l ++ [r])] := by
  have e := (e_snoc (kid_way hw h).1).2.1
  unfold wyD
  simp only
  rw [e, List.length_append, List.length_singleton]
theorem ob_law_ways : ∀ u ds Qd, W__law_ways u ds Qd → ds.length = 1 ∧ w__law_ways { nx := fun _ u' => Qd .none u', rt := Qd } (startR ["web", "found", "at", "n", "roads", "x", "later", "y", "size", "word", "k", "road", "z"] ds) u := by
  rintro u ds Qd ⟨W, hW, rfl, q⟩
  refine ⟨rfl, ?_⟩
  have n6 := hW.n6
  have r8 := hW.r8
  have hWn : W.n ≤ 1000 := by omega
  simp only [w__law_ways]; walk_at "s"
  refine s_seq (s_unp (d := .tuple [.int (W.n : Nat), .tuple (W.rs.map prN)]) (by walk_at "e") rfl ?_)
  walk_at "d"
  refine s_seq (s_setF (ds := ((List.range W.n).map fun x => (⟨x, []⟩ : Wy)).map (wyD W)) (fun Q qq => ?_) ?_)
  · walk_at "x"
    rw [List.map_map] at qq
    refine c_map (by simp; omega) (fun x hx => ⟨_, rfl, ?_⟩) qq
    walk_at "r"
  walk_at "d"
  refine s_seq (s_forG ?_)
  walk_at "x"
  refine ⟨(big_nat (n := 400) (by omega)).2, ?_⟩
  let I : Nat → Rho → Nat → Prop := fun i ρ u' => u' = u ∧ ∃ (L : List Wy) (s2 s5 s6 s7 s8 s9 s10 s11 s12 : Option SV), SInv W (L.take i) (L.drop i) ∧ L.length ≤ 6 + 8 * i ∧ ρ = [some (.d (wbD W)), some (.own (L.map (wyD W))), s2, some (.d (.int (W.n : Nat))), some (.d (.tuple (W.rs.map prN))), s5, s6, s7, s8, s9, s10, s11, s12]
  refine wLoop_inv _ I ?_ ?_ _ _ ⟨rfl, _, _, _, _, _, _, _, _, _, _, SInv.start W, by simp; omega, rfl⟩
  · rintro i x ρ u' F' hx ⟨rfl, L, s2, s5, s6, s7, s8, s9, s10, s11, s12, hS, hl, rfl⟩ n1 n2 n3 n4 n5
    obtain ⟨hi, rfl⟩ : i < 400 ∧ x = .int (i : Nat) := rg_get (n := 400) hx
    refine ⟨_, rfl, ?_⟩
    walk_at "d"
    refine s_if (t := decide (i < L.length)) (fun Q qq => ?_) ?_
    · walk_at "x"
      rw [List.length_map]
      exact qq
    by_cases h : i < L.length
    · rw [if_pos (decide_eq_true h)]
      have et := atW_get h
      generalize atW L i = w at et
      have eL : L.drop i = w :: L.drop (i + 1) := by
        obtain ⟨h1, h2⟩ := List.getElem?_eq_some_iff.mp et
        rw [← h2]
        exact List.drop_eq_getElem_cons h1
      have hw : IsWy W w := hS.way w (by rw [eL]; simp)
      have sh := (hw.short hW).1
      refine s_seq (s_unp (d := .tuple [.int (w.x : Nat), .int (W.e w : Nat), .int (w.l.length : Nat), tupN w.l]) (fun Q qq => ?_) b4 ?_)
      · walk_at "x"
        rw [fIx_getL (i := i) (z := wyD W w) (by rw [List.getElem?_map, et]; rfl)]
        exact qq
      walk_at "d"
      refine s_seq (s_setD (d := .list (((List.range W.rs.length).filter fun r => decide ((W.rs.getD r (0, 0)).1 = W.e w)).map fun r => .tuple [.int (r : Nat), .int ((W.rs.getD r (0, 0)).2 : Nat)])) (fun Q qq => ?_) ?_)
      · walk_at "x"
        rw [enL (z := ((0, 0) : Nat × Nat))]
        exact c_filt (p := fun r => decide ((W.rs.getD r (0, 0)).1 = W.e w)) (f := fun r => .tuple [.int (r : Nat), .int ((W.rs.getD r (0, 0)).2 : Nat)]) (by rw [List.length_range]; omega) (fun r hr => ⟨_, rfl, by walk_at "r", fun _ => by walk_at "r"⟩) qq
      walk_at "d"
      refine ⟨L.map (wyD W), rfl, ?_⟩
      have kl := kid_len hW (w := w)
      have fl : ((List.range W.rs.length).filter fun r => decide ((W.rs.getD r (0, 0)).1 = W.e w)).length ≤ 8 := by
        unfold kids at kl
        rwa [List.length_map] at kl
      walk_at "x"
      refine c_map (f := fun r => wyD W ⟨w.x, w.l ++ [r]⟩) (by omega) (fun r hr => ⟨_, rfl, fun u R rr => ?_⟩) ?_
      · walk_at "x"
        refine addTT (M := [r]) (by simp; omega) ?_
        walk_at "x"
        rw [kid_wy hw (List.mem_map.mpr ⟨r, hr, rfl⟩)] at rr
        exact rr
      refine ⟨_, rfl, by rw [List.length_map, List.length_map]; omega, ?_⟩
      have hn := hS.next (w := w) (T := L.drop (i + 1)) (by rw [eL])
      have eK : (L.map (wyD W) ++ ((List.range W.rs.length).filter fun r => decide ((W.rs.getD r (0, 0)).1 = W.e w)).map fun r => wyD W ⟨w.x, w.l ++ [r]⟩) = (L ++ kids W w).map (wyD W) := by
        unfold kids
        rw [List.map_append, List.map_map]
        rfl
      rw [eK]
      refine n1 _ _ ⟨rfl, L ++ kids W w, _, _, _, _, _, _, _, _, _, ?_, by rw [List.length_append]; omega, rfl⟩
      · have t1 : (L ++ kids W w).take (i + 1) = L.take i ++ [w] := by
          rw [List.take_append_of_le_length (by omega), List.take_add_one, et]
          rfl
        have t2 : (L ++ kids W w).drop (i + 1) = L.drop (i + 1) ++ kids W w := List.drop_append_of_le_length (by omega)
        rw [t1, t2]
        exact hn
    · rw [if_neg (by simpa using h)]
      refine s_nil (n1 _ _ ⟨rfl, L, _, _, _, _, _, _, _, _, _, ?_, by omega, rfl⟩)
      rw [List.take_of_length_le (by omega), List.drop_eq_nil_of_le (by omega)] at hS ⊢
      exact hS
  · rintro ρ u' ⟨rfl, L, s2, s5, s6, s7, s8, s9, s10, s11, s12, hS, hl, rfl⟩
    rw [show (rgD 0 400).length = 400 from rgD_len 400] at hS hl
    walk_at "d"
    refine s_retG ?_
    walk_at "x"
    refine ⟨_, rfl, srt_wy, ?_⟩
    obtain ⟨A, h1, h2, h3⟩ := sort_wy (W := W) L
    rw [h2]
    have nd := hS.nd
    rw [List.take_append_drop] at nd
    refine q A (h1.nodup_iff.mpr nd) (fun w hw => hS.way w (by rw [List.take_append_drop]; exact h1.mem_iff.mp hw)) ?_ (by rw [h1.length_eq]; omega) h3
    rcases Nat.lt_or_ge 400 L.length with h | h
    · exact .inr (by rw [h1.length_eq]; exact h)
    · rw [List.take_of_length_le h, List.drop_eq_nil_of_le h] at hS
      exact .inl fun w hw => h1.mem_iff.mpr (hS.all w hw)
theorem ob_law_small_web : ∀ u ds Qd, W__law_small_web u ds Qd → ds.length = 4 ∧ w__law_small_web { nx := fun _ u' => Qd .none u', rt := Qd } (startR ["m", "size", "most", "limit", "step", "web"] ds) u := by
  rintro u ds Qd ⟨rfl, hu, q⟩
  refine ⟨rfl, ?_⟩
  simp only [w__law_small_web]; walk_at "s"
  refine s_seq (s_forG ?_)
  walk_at "x"
  refine ⟨(big_nat (n := 8) (by omega)).2, ?_⟩
  let I : Nat → Rho → Nat → Prop := fun i ρ u' => u' ≤ u + 20 * i ∧ ∃ s4 s5 : Option SV, ρ = [some (.d mD), some (.d (.int 6)), some (.d (.int 8)), some (.d (.int 60)), s4, s5]
  refine wLoop_inv _ I ?_ ?_ _ _ ⟨by omega, _, _, rfl⟩
  · rintro i x ρ u' F' hx ⟨hu', s4, s5, rfl⟩ n1 n2 n3 n4 n5
    have hi : i < 8 := (rg_get (n := 8) hx).1
    refine ⟨_, rfl, ?_⟩
    walk_at "d"
    refine s_seq (s_setG ?_)
    walk_at "x"
    refine ⟨rfl, by omega, fun W v hW hv => ?_⟩
    walk_at "d"
    refine s_ifG ?_
    walk_at "x"
    refine ⟨W, hW, rfl, fun A nd way comp len pw => ?_⟩
    walk_at "x"
    rw [List.length_map]
    by_cases h : (A.length : Int) ≤ 60
    · rw [if_pos (decide_eq_true h)]
      refine s_ret (by walk_at "e") ?_
      rw [n3]
      refine q W v hW (fun L nd2 hL => ?_) (by omega)
      have all := comp.resolve_right (by omega)
      have := nd_sub nd2 fun w hw => all w (hL w hw)
      omega
    · rw [if_neg (by simpa using h)]
      exact s_nil (n1 _ _ ⟨by omega, _, _, rfl⟩)
  · rintro ρ u' ⟨hu', s4, s5, rfl⟩
    rw [show (rgD 0 8).length = 8 from rgD_len 8] at hu'
    walk_at "d"
    refine s_retG ?_
    walk_at "x"
    exact q web3 u' web3_ok ((cnt3 web3_ok (by decide) (by decide)).mono (by omega)) (by omega)
theorem ob_law_equals : ∀ u ds Qd, W__law_equals u ds Qd → ds.length = 3 ∧ w__law_equals { nx := fun _ u' => Qd .none u', rt := Qd } (startR ["m", "web", "most", "step", "some", "found", "one", "others", "way"] ds) u := by
  rintro u ds Qd ⟨W, hW, hC, rfl, hu, q⟩
  refine ⟨rfl, ?_⟩
  simp only [w__law_equals]; walk_at "s"
  refine s_seq ?_
  simp only [wOw, woDat, woLst, woNil]
  walk_at "x"
  refine ⟨W, hW, rfl, fun A nd way comp len pw => ?_⟩
  have a60 := hC A nd way
  walk_at "x"
  refine c_filt (p := fun w => decide (0 < w.l.length)) (f := fun w => wyD W w) (by omega) (fun w hw => ⟨_, rfl, fun u R rr => ?_, fun _ => by walk_at "r"⟩) ?_
  · walk_at "x"
    rw [show decide ((0 : Int) < (w.l.length : Int)) = decide (0 < w.l.length) from decide_eq_decide.mpr (by omega)]
    exact rr
  walk_at "x"
  refine ⟨rfl, ?_⟩
  dsimp only [setRs]
  walk_at "d"
  have sl : (A.filter fun w => decide (0 < w.l.length)).length ≤ 60 := by have := List.length_filter_le (fun w : Wy => decide (0 < w.l.length)) A; omega
  have sm : ∀ w ∈ A.filter fun w => decide (0 < w.l.length), IsWy W w ∧ w.l ≠ [] := fun w hw => by
    obtain ⟨h1, h2⟩ := List.mem_filter.mp hw
    exact ⟨way w h1, List.length_pos_iff.mp (of_decide_eq_true h2)⟩
  generalize (A.filter fun w => decide (0 < w.l.length)) = S at sl sm
  have main : ∀ (c v : Nat), (c = 0 ∨ S ≠ []) → c ≤ 4 → v ≤ u + 1 → wLoop (bName 3) (wSeq (wSetD 6 (wFn W__law_of (waCons (wVarD 0) (waCons (wVarD 4) waNil)))) (wSeq (wSetD 7 (wfD (wLc (wi1 (wVarD 4)) (bName 8) (wTst (w2 (fEq false) (wSl (wVar 8) woN (woS (wC (.int 2)))) (wSl (wVar 6) woN (woS (wC (.int 2)))))) (wVarD 8) [8]))) (wApp 5 (wTup (waCons (w2 fIx (wVar 6) (wC (.int 3))) (waCons (w2 fIx (wFn W__law_of (waCons (wVarD 0) (waCons (wVarD 7) waNil))) (wC (.int 3))) waNil))))))
      { nx := (wRet (wCall fTupOf (waCons (wVar 5) waNil))) { nx := fun _ u' => Qd .none u', rt := Qd }, rt := Qd } ((List.range c).map fun i => .int (i : Nat)) [some (.d mD), some (.d (wbD W)), some (.d (.int 4)), none, some (.d (.list (S.map (wyD W)))), some (.own []), none, none, none] v := fun c v hc c4 hv => by
    let I : Nat → Rho → Nat → Prop := fun i ρ u' => u' ≤ v + 2 * i ∧ ∃ (E : Eqs) (s3 s6 s7 : Option SV), E.length = i ∧ (∀ p ∈ E, p.1 ≠ [] ∧ p.2 ≠ [] ∧ ∃ a b, a < W.n ∧ W.go a p.1 = some b ∧ W.go a p.2 = some b) ∧ ρ = [some (.d mD), some (.d (wbD W)), some (.d (.int 4)), s3, some (.d (.list (S.map (wyD W)))), some (.own (E.map pqD)), s6, s7, none]
    refine wLoop_inv _ I ?_ ?_ _ _ ⟨by omega, [], _, _, _, rfl, (fun r h => nomatch h), rfl⟩
    · rintro i x ρ u' F' hx ⟨hu', E, s3, s6, s7, hi, hE, rfl⟩ n1 n2 n3 n4 n5
      have hic : i < c := by simpa using (List.getElem?_eq_some_iff.mp hx).1
      have hne : S ≠ [] := hc.resolve_left (by omega)
      refine ⟨_, rfl, ?_⟩
      walk_at "d"
      refine s_seq (s_setG ?_)
      walk_at "x"
      refine ⟨_, by simpa using hne, by rw [List.length_map]; omega, .inl rfl, by omega, fun d hd => ?_⟩
      obtain ⟨w, hw, rfl⟩ := List.mem_map.mp hd
      walk_at "d"
      refine s_seq (s_setD (d := .list ((S.filter fun v => decide ((v.x, W.e v) = (w.x, W.e w))).map (wyD W))) (fun Q qq => ?_) ?_)
      · walk_at "x"
        exact c_filt (p := fun v => decide ((v.x, W.e v) = (w.x, W.e w))) (f := fun v => wyD W v) (by omega) (fun v hv => ⟨_, rfl, by walk_at "r", fun _ => by walk_at "r"⟩) qq
      walk_at "d"
      have ol := List.length_filter_le (fun v : Wy => decide ((v.x, W.e v) = (w.x, W.e w))) S
      refine ⟨E.map pqD, rfl, ?_⟩
      walk_at "x"
      refine ⟨_, fun e => ?_, by rw [List.length_map]; omega, .inl rfl, by omega, fun d hd => ?_⟩
      · rw [List.map_eq_nil_iff] at e
        have : w ∈ S.filter fun v => decide ((v.x, W.e v) = (w.x, W.e w)) := List.mem_filter.mpr ⟨hw, decide_eq_true rfl⟩
        rw [e] at this
        cases this
      obtain ⟨v2, hv2, rfl⟩ := List.mem_map.mp hd
      obtain ⟨h1, h2⟩ := List.mem_filter.mp hv2
      have h2 := of_decide_eq_true h2
      walk_at "x"
      refine ⟨by rw [List.length_map]; omega, ?_⟩
      refine n1 _ _ ⟨by omega, E ++ [(w.l, v2.l)], _, _, _, by simp [hi], fun p hp => ?_, by rw [List.map_append]; rfl⟩
      rcases List.mem_append.mp hp with h | h
      · exact hE p h
      · rw [List.mem_singleton] at h
        subst h
        obtain ⟨a1, a2⟩ := sm w hw
        obtain ⟨b1, b2⟩ := sm v2 h1
        have ga := (a1.short hW).2.2.2.1
        have gb := (b1.short hW).2.2.2.1
        have e1 : v2.x = w.x := (Prod.mk.inj h2).1
        have e2 : W.e v2 = W.e w := (Prod.mk.inj h2).2
        rw [e1, e2] at gb
        exact ⟨a2, b2, w.x, W.e w, a1.1, ga, gb⟩
    · rintro ρ u' ⟨hu', E, s3, s6, s7, hi, hE, rfl⟩
      rw [List.length_map, List.length_range] at hu' hi
      walk_at "d"
      refine s_ret (d := eqD E) (fun Q qq => ?_) (q E u' ⟨by omega, hE⟩ (by omega) (by omega))
      walk_at "x"
      exact qq
  refine s_seq (s_forG ?_)
  walk_at "x"
  rw [eqN_wy]
  by_cases h : S = []
  · simp only [h, decide_true, Bool.not_true, if_true]
    walk_at "x"
    refine ⟨(big_nat (n := 0) (by omega)).2, ?_⟩
    have := main 0 u (.inl rfl) (by omega) (by omega)
    rw [h] at this
    exact this
  · simp only [h, decide_false, Bool.not_false, if_true]
    walk_at "x"
    refine x_draw (b := 5) rfl (by omega) (by omega) (by omega) fun c hc => ?_
    walk_at "x"
    exact main c _ (.inr h) (by omega) (by omega)
theorem ob_law_near : ∀ u ds Qd, W__law_near u ds Qd → ds.length = 2 ∧ w__law_near { nx := fun _ u' => Qd .none u', rt := Qd } (startR ["equals", "word", "found", "k", "sense", "place", "near", "far", "later"] ds) u := by
  rintro u ds Qd ⟨E, l, hs, rfl, q⟩
  refine ⟨rfl, ?_⟩
  have tot := sum_len hs
  have hl := hs.2.1
  have hE8 := hs.1
  simp only [w__law_near]; walk_at "s"
  refine s_seq (s_setF (by walk_at "e") ?_)
  walk_at "d"
  refine s_seq (s_for (ds := (List.range E.length).map fun i => .int (i : Nat)) (fun Q qq => ?_) ?_)
  · walk_at "x"
    rw [show fLen [eqD E] = fLen [.tuple (E.map pqD)] from rfl, wz_lenI]
    walk_at "x"
    exact qq
  rw [← List.length_map (f := nrD), sl_map] at tot
  rw [sl_map] at q
  let I : List D → Rho → Prop := fun acc ρ => ∃ s3 s4 s5 s6 s7 s8, ρ = [some (.d (eqD E)), some (.d (tupN l)), some (.own acc), s3, s4, s5, s6, s7, s8]
  refine loop_app (g := fun k => (List.range 2).flatMap fun s => (List.range l.length).flatMap fun p => (oneS E l k s p).map nrD) (I := I) _ [] _ (fun k hk acc r ρ F1 e hI h1 h2 n1 n2 => ?_) (fun ρ hI => ?_) ⟨_, _, _, _, _, _, rfl⟩
  · obtain ⟨s3, s4, s5, s6, s7, s8, rfl⟩ := hI
    have hk := List.mem_range.mp hk
    have lb1 := congrArg List.length e
    rw [List.nil_append, List.length_append, List.length_append] at lb1
    have hp := hs.2.2 (E.getD k ([], [])) (by rw [List.getD_eq_getElem?_getD, List.getElem?_eq_getElem hk]; exact List.getElem_mem hk)
    have sdl : ∀ s, (sdE (E.getD k ([], [])) s).length ≤ 100 := fun s => by unfold sdE; split <;> omega
    refine ⟨_, rfl, ?_⟩
    walk_at "d"
    refine s_for (ds := (List.range 2).map fun i => .int (i : Nat)) (by walk_at "e") ?_
    let I2 : List D → Rho → Prop := fun acc ρ => ∃ s4 s5 s6 s7 s8, ρ = [some (.d (eqD E)), some (.d (tupN l)), some (.own acc), some (.d (.int (k : Nat))), s4, s5, s6, s7, s8]
    refine loop_app (g := fun s => (List.range l.length).flatMap fun p => (oneS E l k s p).map nrD) (I := I2) _ acc _ (fun s hs2 acc2 r2 ρ F2 e2 hI h3 h4 m1 m2 => ?_) (fun ρ hI => ?_) ⟨_, _, _, _, _, rfl⟩
    · obtain ⟨s4, s5, s6, s7, s8, rfl⟩ := hI
      have hs2 := List.mem_range.mp hs2
      have lb2 := congrArg List.length e2
      rw [List.length_append, List.length_append, List.length_append] at lb2
      refine ⟨_, rfl, ?_⟩
      walk_at "d"
      refine s_seq (s_par (c := tupN (sdE (E.getD k ([], [])) s)) (e := tupN (sdE (E.getD k ([], [])) (1 - s))) (by walk_at "e") ?_)
      walk_at "d"
      refine s_for (ds := (List.range l.length).map fun i => .int (i : Nat)) (by walk_at "e") ?_
      have d0 := sdl s
      have d1 := sdl (1 - s)
      generalize hu1 : sdE (E.getD k ([], [])) s = wu at *
      generalize hv1 : sdE (E.getD k ([], [])) (1 - s) = wv at *
      let I3 : List D → Rho → Prop := fun acc ρ => ∃ s5 s8, ρ = [some (.d (eqD E)), some (.d (tupN l)), some (.own acc), some (.d (.int (k : Nat))), some (.d (.int (s : Nat))), s5, some (.d (tupN (wu))), some (.d (tupN (wv))), s8]
      refine loop_app (g := fun p => (oneS E l k s p).map nrD) (I := I3) _ acc2 _ (fun p hp2 acc3 r3 ρ F3 e3 hI h5 h6 l1 l2 => ?_) (fun ρ hI => ?_) ⟨_, _, rfl⟩
      · obtain ⟨s5, s8, rfl⟩ := hI
        have hp2 := List.mem_range.mp hp2
        have lb3 := congrArg List.length e3
        rw [List.length_append, List.length_append, List.length_append] at lb3
        refine ⟨_, rfl, ?_⟩
        walk_at "d"
        refine s_if (t := decide ((l.drop p).take wu.length = wu)) (fun Q qq => ?_) ?_
        · walk_at "x"
          rw [← Int.natCast_add, wz_bT]
          walk_at "x"
          rw [show p + wu.length - p = wu.length by omega]
          exact qq
        unfold oneS rp at l1
        rw [hu1, hv1] at l1
        by_cases h : (l.drop p).take wu.length = wu
        · rw [if_pos (decide_eq_true h)]
          rw [if_pos h] at l1
          refine s_seq (s_setD (d := tupN (l.take p ++ wv ++ l.drop (p + wu.length))) (fun Q qq => ?_) ?_)
          · walk_at "x"
            refine addTT (by rw [List.length_take]; omega) ?_
            walk_at "x"
            rw [← Int.natCast_add, wz_frT]
            refine addTT (by rw [List.length_append, List.length_take, List.length_drop]; omega) ?_
            exact qq
          walk_at "d"
          refine s_app (d := nrD (p, k, s, l.take p ++ wv ++ l.drop (p + wu.length))) rfl (by walk_at "e") (by omega) ?_
          walk_at "d"
          exact l1 _ ⟨_, _, rfl⟩
        · rw [if_neg (by simpa using h)]
          rw [if_neg h] at l1
          refine s_nil ?_
          refine l1 _ ⟨some (.d (.int (p : Nat))), s8, ?_⟩
          simp only [List.map_nil, List.append_nil]
      · exact m1 _ (let ⟨s5, s8, e⟩ := hI; ⟨_, _, _, _, _, e⟩)
    · exact n1 _ (let ⟨s4, s5, s6, s7, s8, e⟩ := hI; ⟨_, _, _, _, _, _, e⟩)
  · obtain ⟨s3, s4, s5, s6, s7, s8, rfl⟩ := hI
    walk_at "d"
    refine s_ret (fun Q qq => ?_) q
    walk_at "x"
    exact qq
/-- the words found so far; those before i were looked at -/
structure CI (E : Eqs) (l : List Nat) (F : List (List Nat)) (i : Nat) : Prop where
  nd : F.Nodup
  rc : ∀ z ∈ F, Rc E l z
  self : l ∈ F
  cl : ∀ z ∈ F.take i, ∀ y, Stp E z y → y ∈ F
theorem ob_law_class : ∀ u ds Qd, W__law_class u ds Qd → ds.length = 2 ∧ w__law_class { nx := fun _ u' => Qd .none u', rt := Qd } (startR ["equals", "word", "found", "at", "other", "step"] ds) u := by
  rintro u ds Qd ⟨W, E, w, hW, hC, hE, hw, rfl, q⟩
  refine ⟨rfl, ?_⟩
  simp only [w__law_class]; walk_at "s"
  refine s_seq (s_setF (ds := [w.l].map tupN) (by walk_at "e") ?_)
  walk_at "d"
  refine s_seq (s_forG ?_)
  walk_at "x"
  refine ⟨(big_nat (n := 400) (by omega)).2, ?_⟩
  let I : Nat → Rho → Nat → Prop := fun i ρ u' => u' = u ∧ ∃ (F : List (List Nat)) (s3 s4 s5 : Option SV), CI E w.l F i ∧ ρ = [some (.d (eqD E)), some (.d (tupN w.l)), some (.own (F.map tupN)), s3, s4, s5]
  refine wLoop_inv _ I ?_ ?_ _ _ ⟨rfl, [w.l], _, _, _, ⟨by simp, fun z hz => by rw [List.mem_singleton.mp hz]; exact .refl, by simp, fun z hz => by simp at hz⟩, rfl⟩
  · rintro i x ρ u' F' hx ⟨rfl, F, s3, s4, s5, hF, rfl⟩ n1 n2 n3 n4 n5
    obtain ⟨hi, rfl⟩ : i < 400 ∧ x = .int (i : Nat) := rg_get (n := 400) hx
    have f200 := class_len hC hE hw hF.nd hF.rc
    refine ⟨_, rfl, ?_⟩
    walk_at "d"
    refine s_if (t := decide (i < F.length)) (fun Q qq => ?_) ?_
    · walk_at "x"
      rw [List.length_map]
      exact qq
    by_cases h : i < F.length
    · rw [if_pos (decide_eq_true h)]
      have ez : F[i]? = some F[i] := List.getElem?_eq_getElem h
      have hz : F[i] ∈ F := List.getElem_mem h
      generalize F[i] = z at ez hz
      have wz := (rc_way (x := w.x) (l := w.l) hE (hF.rc z hz) hw).1
      have zl := (wz.short hW).1
      simp only at zl
      refine s_forG ?_
      walk_at "x"
      rw [fIx_getL (i := i) (z := tupN z) (by rw [List.getElem?_map, ez]; rfl)]
      refine ⟨E, z, shortE hW hE (by omega), rfl, ?_⟩
      walk_at "x"
      let I2 : Nat → Rho → Nat → Prop := fun j ρ u'' => u'' = u' ∧ ∃ (G : List (List Nat)) (s4 s5 : Option SV), G.Nodup ∧ (∀ y ∈ G, Rc E w.l y) ∧ (∃ X, G = F ++ X) ∧ (∀ t ∈ (SL E z).take j, t.2.2.2 ∈ G) ∧ ρ = [some (.d (eqD E)), some (.d (tupN w.l)), some (.own (G.map tupN)), some (.d (.int (i : Nat))), s4, s5]
      refine wLoop_inv _ I2 ?_ ?_ _ _ ⟨rfl, F, _, _, hF.nd, hF.rc, ⟨[], by simp⟩, (fun t ht => by simp at ht), rfl⟩
      · rintro j x ρ u'' F2 hx ⟨rfl, G, s4, s5, g1, g2, ⟨X, rfl⟩, g4, rfl⟩ m1 m2 m3 m4 m5
        rw [List.getElem?_map] at hx
        obtain ⟨t, ht, rfl⟩ := Option.map_eq_some_iff.mp hx
        have hst : Stp E z t.2.2.2 := ⟨t, List.mem_of_getElem? ht, rfl⟩
        have g200 := class_len hC hE hw g1 g2
        have tk : ∀ s ∈ (SL E z).take (j + 1), s ∈ (SL E z).take j ∨ s = t := fun s hs => by
          rw [List.take_add_one, ht] at hs
          rcases List.mem_append.mp hs with h | h
          · exact .inl h
          · rw [Option.toList_some, List.mem_singleton] at h
            exact .inr h
        refine ⟨_, rfl, ?_⟩
        walk_at "d"
        refine s_if (t := !decide (t.2.2.2 ∈ F ++ X)) (by walk_at "e") ?_
        by_cases hm : t.2.2.2 ∈ F ++ X
        · rw [if_neg (by rw [decide_eq_true hm]; decide)]
          refine s_nil (m1 _ _ ⟨rfl, F ++ X, _, _, g1, g2, ⟨X, rfl⟩, fun s hs => ?_, rfl⟩)
          rcases tk s hs with h | h
          · exact g4 s h
          · rw [h]; exact hm
        · rw [if_pos (by rw [decide_eq_false hm]; rfl)]
          refine s_app (d := tupN t.2.2.2) rfl (by walk_at "e") (by rw [List.length_map]; omega) ?_
          walk_at "d"
          rw [show (F ++ X).map tupN ++ [tupN t.2.2.2] = (F ++ X ++ [t.2.2.2]).map tupN by simp only [List.map_append, List.map_cons, List.map_nil]]
          refine m1 _ _ ⟨rfl, F ++ X ++ [t.2.2.2], _, _, ?_, fun y hy => ?_, ⟨X ++ [t.2.2.2], by simp⟩, fun s hs => ?_, rfl⟩
          · refine List.nodup_append.mpr ⟨g1, by simp, fun a ha b hb e => ?_⟩
            rw [List.mem_singleton] at hb
            rw [e, hb] at ha
            exact hm ha
          · rcases List.mem_append.mp hy with h | h
            · exact g2 y h
            · rw [List.mem_singleton] at h
              rw [h]
              exact .step (hF.rc z hz) hst
          · rcases tk s hs with h | h
            · exact List.mem_append_left _ (g4 s h)
            · rw [h]; simp
      · rintro ρ u'' ⟨rfl, G, s4, s5, g1, g2, ⟨X, rfl⟩, g4, rfl⟩
        rw [List.length_map, List.take_length] at g4
        refine n1 _ _ ⟨rfl, F ++ X, _, _, _, ⟨g1, g2, List.mem_append_left _ hF.self, fun y hy v hv => ?_⟩, rfl⟩
        rw [List.take_append_of_le_length (by omega), List.take_add_one, ez] at hy
        rcases List.mem_append.mp hy with h | h
        · exact List.mem_append_left _ (hF.cl y h v hv)
        · rw [Option.toList_some, List.mem_singleton] at h
          rw [h] at hv
          obtain ⟨t, ht, rfl⟩ := hv
          exact g4 t ht
    · rw [if_neg (by simpa using h)]
      refine s_nil (n1 _ _ ⟨rfl, F, _, _, _, ⟨hF.nd, hF.rc, hF.self, fun z hz => hF.cl z (by rw [List.take_of_length_le (by omega)] at hz ⊢; exact hz)⟩, rfl⟩)
  · rintro ρ u' ⟨rfl, F, s3, s4, s5, hF, rfl⟩
    rw [show (rgD 0 400).length = 400 from rgD_len 400] at hF
    have f200 := class_len hC hE hw hF.nd hF.rc
    have cl := hF.cl
    rw [List.take_of_length_le (by omega)] at cl
    walk_at "d"
    refine s_ret (d := .list (F.map tupN)) (fun Q qq => ?_) (q F hF.nd (fun z => ⟨hF.rc z, fun h => ?_⟩) f200)
    · walk_at "x"
      exact qq
    · induction h with
      | refl => exact hF.self
      | step _ s ih => exact cl _ ih _ s
theorem srt_lw {F : List (List Nat)} : SrtOk (F.map lwD) where
  alike := fun d hd d' hd' => by
    obtain ⟨a, _, rfl⟩ := List.mem_map.mp hd
    obtain ⟨b, _, rfl⟩ := List.mem_map.mp hd'
    simp only [lwD, tupN, PySem.W.alike, PySem.W.alikeAll, Bool.and_true, Bool.true_and]
    exact alk_ints _ _
  kind := .inl fun d hd => by
    obtain ⟨p, _, rfl⟩ := List.mem_map.mp hd
    exact ⟨_, _, rfl⟩
  lay := fun d hd => by
    obtain ⟨p, _, rfl⟩ := List.mem_map.mp hd
    exact (Sh.tup (n := 1) (ds := [.int (p.length : Nat), tupN p]) fun d hd => by
      simp only [List.mem_cons, List.not_mem_nil, or_false] at hd
      rcases hd with e | e <;> rw [e]
      · exact .int
      · exact Sh.tup (n := 0) sh_nats).2.1
  dep := fun d hd => by
    obtain ⟨p, _, rfl⟩ := List.mem_map.mp hd
    exact Nat.le_trans (Sh.tup (n := 1) (ds := [.int (p.length : Nat), tupN p]) fun d hd => by
      simp only [List.mem_cons, List.not_mem_nil, or_false] at hd
      rcases hd with e | e <;> rw [e]
      · exact .int
      · exact Sh.tup (n := 0) sh_nats).2.2 (by omega)
end K02

set_option Elab.async false
set_option linter.all false
set_option maxRecDepth 100000
set_option maxHeartbeats 4000000
namespace K02
open PySem PySem.Spec PyProof.Rows L2 DW WLD

theorem wz_diO0 {kvs : List (D × D)} {l : List (Option SV)} {u : Nat} {Q : List (D × D) → Nat → Prop} : wDiO 0 (some (SV.dic kvs) :: l) u Q = Q kvs u := propext ⟨fun ⟨_, e, q⟩ => by cases e; exact q, fun q => ⟨_, rfl, q⟩⟩
theorem wz_diOs {i : Nat} {a : Option SV} {l : List (Option SV)} {u : Nat} {Q : List (D × D) → Nat → Prop} : wDiO (i + 1) (a :: l) u Q = wDiO i l u Q := rfl
def dnK (g : Bool → Bool) (kvs : List (D × D)) (k : D) (K : D → Prop) : Prop := KOk kvs k ∧ K (.bool (g (dGet kvs k).isSome))
theorem wz_din {g : Bool → Bool} {wk : WE} {wd : WDi} {ρ : Rho} {u : Nat} {Q : D → Nat → Prop} : wDIn g wk wd ρ u Q = wk ρ u fun k u1 => wd ρ u1 fun kvs u2 => dnK g kvs k fun d => Q d u2 := rfl
theorem wz_drp {w : WE} {F : DE} {ρ : Rho} {u : Nat} : wDrop w F ρ u = w ρ u fun _ u1 => F.nx ρ u1 := rfl
theorem z_tyI2 {T : String} {n : Bool} {w : WE} {ρ : Rho} {u : Nat} {Q : D → Nat → Prop} : wTyIs T n w ρ u Q = w ρ u fun d u1 => fTyIs T n d fun z => Q z u1 := rfl
theorem z_isi2 {T : String} {w : WE} {ρ : Rho} {u : Nat} {Q : D → Nat → Prop} : wIsi T w ρ u Q = w ρ u fun d u1 => fIsi T d fun z => Q z u1 := rfl
theorem s_putD {i : Nat} {wk wv : WE} {F : DE} {ρ : Rho} {u : Nat} {kvs : List (D × D)} {k v : D} (e : ρ[i]? = some (some (SV.dic kvs))) (hv : ∀ Q : D → Nat → Prop, Q v u → wv ρ u Q) (hk : ∀ Q : D → Nat → Prop, Q k u → wk ρ u Q) (ok : KOk kvs k) (hl : kvs.length < 100000) (n : F.nx (ρ.set i (some (.dic (dPut kvs k v)))) u) : wPutD i wk wv F ρ u :=
  ⟨kvs, e, hv _ (hk _ ⟨ok, hl, n⟩)⟩
theorem HK_ws (L : List (List Nat)) : HK (L.map tupN) := .inr fun d hd => by
  obtain ⟨w, _, rfl⟩ := List.mem_map.mp hd
  refine ⟨_, rfl, ?_, ?_⟩
  · have : ∀ L : List Nat, isKs (L.map fun e => (.int (e : Nat) : D)) = true := fun L => by
      induction L with
      | nil => rfl
      | cons x L ih => simp only [List.map_cons, isKs, isK, ih, Bool.and_self]
    exact this w
  · have : ∀ L : List Nat, PyData.depthAll (L.map fun e => (.int (e : Nat) : D)) ≤ 0 := fun L => by
      induction L with
      | nil => simp [PyData.depthAll]
      | cons x L ih => simp only [List.map_cons, PyData.depthAll, PyData.depth]; omega
    have h1 := this w
    omega
theorem ks_tupN (L : List Nat) : isK (tupN L) = true := (HK_ws [L]).isK (List.mem_map.mpr ⟨L, List.mem_singleton.mpr rfl, rfl⟩)
abbrev kys (O : Og) : List (List Nat) := O.map Prod.fst
theorem kys_snoc (O : Og) (z : List Nat) (v : Option (List Nat × St4)) : kys (O ++ [(z, v)]) = kys O ++ [z] := List.map_append
theorem og_ok (O : Og) (z : List Nat) : KOk (ogK O) (tupN z) :=
  ok_map (k := fun p : List Nat × Option (List Nat × St4) => tupN p.1) (HK_ws (z :: kys O)) (fun p hp => List.mem_map.mpr ⟨p.1, List.mem_cons_of_mem _ (List.mem_map.mpr ⟨p, hp, rfl⟩), rfl⟩) (List.mem_map.mpr ⟨z, List.mem_cons_self, rfl⟩)
theorem og_put {O : Og} {z : List Nat} {v : Option (List Nat × St4)} (h : z ∉ kys O) : dPut (ogK O) (tupN z) (ogV v) = ogK (O ++ [(z, v)]) :=
  put_snoc (k := fun p : List Nat × Option (List Nat × St4) => tupN p.1) (v := fun p => ogV p.2) (HK_ws (z :: kys O)) (l := O) (b := (z, v)) (fun p hp => List.mem_map.mpr ⟨p.1, List.mem_cons_of_mem _ (List.mem_map.mpr ⟨p, hp, rfl⟩), rfl⟩) (List.mem_map.mpr ⟨z, List.mem_cons_self, rfl⟩) (fun p hp e => h (by have e2 : p.1 = z := tupN_inj' e; rw [← e2]; exact List.mem_map.mpr ⟨p, hp, rfl⟩))
theorem og_nd {O : Og} (h : (kys O).Nodup) : ((ogK O).map Prod.fst).Nodup := by
  unfold ogK
  rw [List.map_map]
  have : (kys O).map tupN = O.map ((Prod.fst : D × D → D) ∘ fun p => (tupN p.1, ogV p.2)) := by rw [List.map_map]; rfl
  rw [← this]
  exact List.pairwise_map.mpr (List.Pairwise.imp (fun {a b} n e => n (tupN_inj' e)) h)
theorem og_get {O : Og} (h : (kys O).Nodup) {z : List Nat} {v : Option (List Nat × St4)} (hm : (z, v) ∈ O) : dGet (ogK O) (tupN z) = some (ogV v) :=
  dGet_mem (fun p hp => by obtain ⟨q, _, rfl⟩ := List.mem_map.mp hp; exact ks_tupN _) (og_nd h) (List.mem_map.mpr ⟨(z, v), hm, rfl⟩)
theorem og_in {O : Og} (h : (kys O).Nodup) {z : List Nat} : (dGet (ogK O) (tupN z)).isSome = decide (z ∈ kys O) := by
  by_cases hz : z ∈ kys O
  · obtain ⟨⟨z', v⟩, hp, e⟩ := List.mem_map.mp hz
    simp only at e
    subst e
    rw [og_get h hp, decide_eq_true hz]
    rfl
  · rw [dGet_none (fun p hp => by obtain ⟨q, _, rfl⟩ := List.mem_map.mp hp; exact ks_tupN _) (ks_tupN z) (fun p hp e => by
      obtain ⟨q, hq, rfl⟩ := List.mem_map.mp hp
      exact hz (by rw [← tupN_inj' e]; exact List.mem_map.mpr ⟨q, hq, rfl⟩)), decide_eq_false hz]
    rfl
theorem wz_dW {g : Bool → Bool} {O : Og} {z : List Nat} {K : D → Prop} (h : (kys O).Nodup) : dnK g (ogK O) (tupN z) K = K (.bool (g (decide (z ∈ kys O)))) := by
  unfold dnK
  rw [og_in h]
  exact propext ⟨fun h => h.2, fun h => ⟨og_ok O z, h⟩⟩
theorem wz_og0 {l : List Nat} {Q : D → Prop} : dicK (xD (ogK ([] : Og))) (fun _ => Q .none) = dicK (xD (ogK ([] : Og))) (fun _ => Q .none) := rfl
theorem get_snoc {α : Type} {O : List α} {i : Nat} {x p : α} (h : (O ++ [x])[i]? = some p) : O[i]? = some p ∨ (i = O.length ∧ p = x) := by
  by_cases hi : i < O.length
  · rw [List.getElem?_append_left hi] at h
    exact .inl h
  · rw [List.getElem?_append_right (by omega)] at h
    by_cases e : i - O.length = 0
    · rw [e] at h
      simp at h
      exact .inr ⟨by omega, h.symm⟩
    · rw [List.getElem?_eq_none (by simp; omega)] at h
      cases h
theorem og_snoc {E : Eqs} {a b : List Nat} {O : Og} (h : OgOk E a O) (hb : b ∈ kys O) {t : St4} (ht : t ∈ SL E b) (hn : t.2.2.2 ∉ kys O) : OgOk E a (O ++ [(t.2.2.2, some (b, t))]) := by
  obtain ⟨h1, h2, h3⟩ := h
  have l0 : 0 < O.length := (List.getElem?_eq_some_iff.mp h2).1
  refine ⟨?_, by rw [List.getElem?_append_left l0]; exact h2, fun i z v e => ?_⟩
  · rw [List.map_append]
    exact List.nodup_append.mpr ⟨h1, by simp, fun x hx y hy e => by
      simp only [List.map_cons, List.map_nil, List.mem_singleton] at hy
      rw [e, hy] at hx
      exact hn hx⟩
  · have lift : ∀ {j : Nat} {p}, O[j]? = some p → (O ++ [(t.2.2.2, some (b, t))])[j]? = some p := fun {j p} e => by
      rw [List.getElem?_append_left (List.getElem?_eq_some_iff.mp e).1]; exact e
    rcases get_snoc e with e | ⟨e1, e2⟩
    · obtain ⟨j, b', w', t', q1, q2, q3, q4, q5⟩ := h3 i z v e
      exact ⟨j, b', w', t', q1, lift q2, q3, q4, q5⟩
    · cases e2
      obtain ⟨⟨b', w'⟩, hp, eb⟩ := List.mem_map.mp hb
      simp only at eb
      subst eb
      obtain ⟨j, hj, ej⟩ := List.getElem_of_mem hp
      exact ⟨j, b', w', t, by omega, lift (by rw [← ej]; exact List.getElem?_eq_getElem hj), rfl, ht, rfl⟩
theorem og_rc {E : Eqs} {a : List Nat} {O : Og} (h : OgOk E a O) : ∀ z ∈ kys O, Rc E a z := by
  have : ∀ (n i : Nat) (z : List Nat) (v : Option (List Nat × St4)), i < n → O[i]? = some (z, v) → Rc E a z := by
    intro n
    induction n with
    | zero => intro i z v hi; omega
    | succ n ih =>
      intro i z v hi e
      cases i with
      | zero =>
        rw [h.2.1] at e
        cases e
        exact .refl
      | succ i =>
        obtain ⟨j, b, w, t, q1, q2, q3, q4, q5⟩ := h.2.2 i z v e
        exact .step (ih j b w (by omega) q2) ⟨t, q4, q5⟩
  intro z hz
  obtain ⟨⟨z', v⟩, hp, e⟩ := List.mem_map.mp hz
  simp only at e
  subst e
  obtain ⟨i, hi, ei⟩ := List.getElem_of_mem hp
  exact this (i + 1) i z' v (by omega) (by rw [← ei]; exact List.getElem?_eq_getElem hi)
theorem walk_app {E : Eqs} : ∀ {S T : List St4} {a b c : List Nat}, Walk E a S b → Walk E b T c → Walk E a (S ++ T) c
  | [], T, a, b, c, h1, h2 => by rw [show a = b from h1]; exact h2
  | t :: S, T, a, b, c, ⟨h1, h2⟩, h3 => ⟨h1, walk_app h2 h3⟩
theorem walk_rc {E : Eqs} : ∀ {T : List St4} {a b : List Nat}, Walk E a T b → Rc E a b
  | [], a, b, h => by rw [show a = b from h]; exact .refl
  | t :: T, a, b, ⟨h1, h2⟩ => rc_trans (.step .refl ⟨t, h1, rfl⟩) (walk_rc h2)
local macro_rules | `(tactic| walk_at "x") => `(tactic| try simp (disch := first | assumption | omega) only [↓z_varD0, ↓wz_slTo, ↓wz_slFrom, ↓wz_slB, ↓wz_toT, ↓wz_frT, ↓wz_bT, ↓wz_tn, ↓wz_lenN, ↓wz_lenL, ↓wz_lenLs, ↓wz_lenI, ↓wz_ixT, ↓wz_ixL, ↓wz_pq, ↓wz_pq1, ↓wz_eqT, ↓wz_tru, ↓wz_truN, ↓wz_wa0, ↓wz_wa1, ↓wz_wb0, ↓wz_wb1, ↓wz_rs, ↓wz_dc, ↓wz_items, ↓wz_dGet, ↓wz_min2, ↓wz_max2, ↓wz_tof, ↓wz_diO0, ↓wz_diOs, ↓wz_din, ↓wz_dW, ↓z_isi2, ↓z_tyI2, ↓wz_inW, ↓wz_truL, ↓wz_drp, ↓wz_eq, ↓wz_sl2, ↓wz_inW, ↓wz_lw1, ↓wz_truL, ↓wz_wy0, ↓wz_wy1, ↓wz_wy2, ↓wz_wy3,  ↓z_varDs, ↓z_var0, ↓z_varo, ↓z_vars, ↓z_c, ↓z_2, ↓z_3, ↓z_tst, ↓z_tand, ↓z_tor, ↓z_tnot, ↓z_and, ↓z_or, ↓z_not, ↓z_isN, ↓z_neg, ↓z_nil, ↓z_cons, ↓z_tup, ↓z_lst, ↓z_sh0, ↓z_sh1, ↓z_sh2, ↓z_sh3, ↓z_sh4, ↓z_sh5, ↓z_fD, ↓z_if, ↓z_call, ↓z_fn, ↓z_lc, ↓z_i1, ↓z_iE, ↓z_seqL, ↓z_seqT, ↓z_iR, ↓z_rgK, ↓z_int, ↓z_bool, ↓z_lenT, ↓z_lenL, ↓z_tupT, ↓z_tupL, ↓z_iteT, ↓z_iteF, ↓z_lt, ↓z_le, ↓z_gt, ↓z_ge, ↓z_sub, ↓z_lrg, ↓z_trg, ↓z_ssI, ↓z_sort, ↓z_addF, ↓z_dic, ↓z_diD, ↓z_dIn, ↓z_iDic, ↓z_isB, ↓z_fnSw, ↓id_eq, ↓z_count, ↓z_lstI, ↓z_lsP, ↓z_addI, ↓i_w0, ↓i_w1, ↓i_w2, ↓i_es, ↓i_tb, ↓i_row, ↓i_p0, ↓i_p1, ↓fEq_int, ↓fEq_bool, ↓fEq_pr, ↓wipeR, ↓List.set_cons_zero, ↓List.set_cons_succ, t_and, t_or, t_andD, t_orD, Int.ofNat_inj, Int.ofNat_le, Int.ofNat_lt])
local macro_rules | `(tactic| walk_at "e") => `(tactic| (intro Q q; walk_at "x"; exact q))
local macro_rules | `(tactic| walk_at "r") => `(tactic| (intro u R r; walk_at "x"; exact r))
local macro_rules | `(tactic| walk_at "s") => `(tactic| simp only [startR, List.map_cons, List.map_nil, List.length_cons, List.length_nil, List.cons_append, List.nil_append, Nat.reduceAdd, Nat.reduceSub, Nat.zero_add, List.reduceReplicate])
local macro_rules | `(tactic| walk_at "d") => `(tactic| (try dsimp only [List.set_cons_zero, List.set_cons_succ]))

theorem ob_origins : ∀ u ds Qd, W_origins u ds Qd → ds.length = 2 ∧ w_origins { nx := fun _ u' => Qd .none u', rt := Qd } (startR ["equals", "start", "origin", "row", "reached", "old", "step", "new"] ds) u := by
  rintro u ds Qd ⟨W, E, w, hW, hC, hE, hw, rfl, q⟩
  refine ⟨rfl, ?_⟩
  simp only [w_origins]; walk_at "s"
  have og1 : OgOk E w.l [(w.l, none)] := ⟨by simp, rfl, fun i z v e => by simp at e⟩
  have p1 : dPut [] (tupN w.l) (.none : D) = ogK [(w.l, none)] := og_put (O := []) (z := w.l) (v := none) (by simp)
  refine s_seq ?_
  simp only [wSetD1]
  walk_at "x"
  refine ⟨og_ok [] w.l, ?_⟩
  rw [p1]
  walk_at "d"
  refine s_seq (s_setD (d := .list ([w.l].map tupN)) (by walk_at "e") ?_)
  walk_at "d"
  have ln : ∀ O : Og, OgOk E w.l O → O.length ≤ 200 := fun O h => by
    have := class_len hC hE hw h.1 (og_rc h)
    rwa [List.length_map] at this
  refine s_seq ?_
  refine ⟨fun m ρ u' => u' = u ∧ ∃ (O : Og) (Rw : List (List Nat)) (s4 s5 s6 s7 : Option SV), OgOk E w.l O ∧ (∀ z ∈ Rw, z ∈ kys O) ∧ (∀ z ∈ kys O, z ∈ Rw ∨ ∀ y, Stp E z y → y ∈ kys O) ∧ m = 2 * (200 - O.length) + (if Rw = [] then 0 else 1) ∧ ρ = [some (.d (eqD E)), some (.d (tupN w.l)), some (.dic (ogK O)), some (.d (.list (Rw.map tupN))), s4, s5, s6, s7], ⟨_, rfl, [(w.l, none)], [w.l], _, _, _, _, og1, by simp, by simp, rfl, rfl⟩, ?_⟩
  rintro m ρ u' ⟨rfl, O, Rw, s4, s5, s6, s7, hO, hR, hcl, hm, rfl⟩
  walk_at "x"
  rw [show (!Rw.isEmpty) = !decide (Rw = []) by cases Rw <;> rfl]
  by_cases hr : Rw = []
  · subst hr
    rw [if_neg (by simp)]
    walk_at "d"
    refine s_frzD rfl ?_
    walk_at "d"
    refine s_ret (d := xD (ogK O)) (fun Q qq => ?_) (q O hO (fun z => ⟨og_rc hO z, fun h => ?_⟩) (ln O hO))
    · walk_at "x"
      exact qq
    · have self : w.l ∈ kys O := List.mem_map.mpr ⟨_, List.mem_of_getElem? hO.2.1, rfl⟩
      induction h with
      | refl => exact self
      | step _ s ih => exact (hcl _ ih).resolve_left (by simp) _ s
  rw [if_pos (by simpa using hr)]
  have lO := ln O hO
  refine s_seq (s_setF (by walk_at "e") ?_)
  walk_at "d"
  refine s_seq (s_for (ds := Rw.map tupN) (by walk_at "e") ?_)
  let I1 : Nat → Rho → Nat → Prop := fun j ρ u'' => u'' = u' ∧ ∃ (O2 : Og) (N : List (List Nat)) (s5 s6 s7 : Option SV), OgOk E w.l O2 ∧ kys O2 = kys O ++ N ∧ (∀ z ∈ Rw.take j, ∀ y, Stp E z y → y ∈ kys O2) ∧ ρ = [some (.d (eqD E)), some (.d (tupN w.l)), some (.dic (ogK O2)), some (.d (.list (Rw.map tupN))), some (.own (N.map tupN)), s5, s6, s7]
  refine wLoop_inv _ I1 ?_ ?_ _ _ ⟨rfl, O, [], _, _, _, hO, by simp, (fun z hz => by simp at hz), rfl⟩
  · rintro j x ρ u'' F1 hx ⟨rfl, O2, N, s5, s6, s7, hO2, hk, hc2, rfl⟩ n1 n2 n3 n4 n5
    rw [List.getElem?_map] at hx
    obtain ⟨b, hb, rfl⟩ := Option.map_eq_some_iff.mp hx
    have hbR := List.mem_of_getElem? hb
    have hbO : b ∈ kys O2 := by rw [hk]; exact List.mem_append_left _ (hR b hbR)
    have wb := (rc_way (x := w.x) (l := w.l) hE (og_rc hO2 b hbO) hw).1
    have bl := (wb.short hW).1
    simp only at bl
    refine ⟨_, rfl, ?_⟩
    walk_at "d"
    refine s_forG ?_
    walk_at "x"
    refine ⟨E, b, shortE hW hE (by omega), rfl, ?_⟩
    walk_at "x"
    let I2 : Nat → Rho → Nat → Prop := fun i ρ u3 => u3 = u'' ∧ ∃ (O3 : Og) (N : List (List Nat)) (s6 s7 : Option SV), OgOk E w.l O3 ∧ kys O3 = kys O ++ N ∧ (∀ z ∈ Rw.take j, ∀ y, Stp E z y → y ∈ kys O3) ∧ b ∈ kys O3 ∧ (∀ t ∈ (SL E b).take i, t.2.2.2 ∈ kys O3) ∧ ρ = [some (.d (eqD E)), some (.d (tupN w.l)), some (.dic (ogK O3)), some (.d (.list (Rw.map tupN))), some (.own (N.map tupN)), some (.d (tupN b)), s6, s7]
    refine wLoop_inv _ I2 ?_ ?_ _ _ ⟨rfl, O2, N, _, _, hO2, hk, hc2, hbO, (fun t ht => by simp at ht), rfl⟩
    · rintro i x ρ u3 F2 hx ⟨rfl, O3, N, s6, s7, hO3, hk3, hc3, hb3, ht3, rfl⟩ m1 m2 m3 m4 m5
      rw [List.getElem?_map] at hx
      obtain ⟨t, ht, rfl⟩ := Option.map_eq_some_iff.mp hx
      have htm := List.mem_of_getElem? ht
      have nd3 := hO3.1
      have l3 := ln O3 hO3
      have tk : ∀ s ∈ (SL E b).take (i + 1), s ∈ (SL E b).take i ∨ s = t := fun s hs => by
        rw [List.take_add_one, ht] at hs
        rcases List.mem_append.mp hs with h | h
        · exact .inl h
        · rw [Option.toList_some, List.mem_singleton] at h
          exact .inr h
      refine ⟨_, rfl, ?_⟩
      walk_at "d"
      refine s_if (t := !decide (t.2.2.2 ∈ kys O3)) (fun Q qq => ?_) ?_
      · walk_at "x"
        exact qq
      by_cases hm3 : t.2.2.2 ∈ kys O3
      · rw [if_neg (by rw [decide_eq_true hm3]; decide)]
        refine s_nil (m1 _ _ ⟨rfl, O3, N, _, _, hO3, hk3, hc3, hb3, fun s hs => ?_, rfl⟩)
        rcases tk s hs with h | h
        · exact ht3 s h
        · rw [h]; exact hm3
      · rw [if_pos (by rw [decide_eq_false hm3]; rfl)]
        have hO4 := og_snoc hO3 hb3 htm hm3
        have sub : ∀ z ∈ kys O3, z ∈ kys (O3 ++ [(t.2.2.2, some (b, t))]) := fun z hz => by
          rw [kys_snoc]; exact List.mem_append_left _ hz
        have hk4 : kys (O3 ++ [(t.2.2.2, some (b, t))]) = kys O ++ (N ++ [t.2.2.2]) := by
          rw [kys_snoc, hk3, List.append_assoc]
        refine s_seq ?_
        refine s_putD (k := tupN t.2.2.2) (v := ogV (some (b, t))) rfl (by walk_at "e") (by walk_at "e") (og_ok _ _) (by unfold ogK; rw [List.length_map]; omega) ?_
        rw [og_put hm3]
        walk_at "d"
        have lN : N.length ≤ 200 := by
          have h1 := congrArg List.length hk3
          rw [List.length_append, List.length_map, List.length_map] at h1
          omega
        refine s_app (d := tupN t.2.2.2) rfl (by walk_at "e") (by rw [List.length_map]; omega) ?_
        walk_at "d"
        rw [show N.map tupN ++ [tupN t.2.2.2] = (N ++ [t.2.2.2]).map tupN by simp only [List.map_append, List.map_cons, List.map_nil]]
        refine m1 _ _ ⟨rfl, _, N ++ [t.2.2.2], _, _, hO4, hk4, fun z hz y hy => sub _ (hc3 z hz y hy), sub _ hb3, fun s hs => ?_, rfl⟩
        rcases tk s hs with h | h
        · exact sub _ (ht3 s h)
        · rw [h, hk4]; simp
    · rintro ρ u3 ⟨rfl, O3, N, s6, s7, hO3, hk3, hc3, hb3, ht3, rfl⟩
      rw [List.length_map, List.take_length] at ht3
      refine n1 _ _ ⟨rfl, O3, N, _, _, _, hO3, hk3, fun z hz y hy => ?_, rfl⟩
      rw [List.take_add_one, hb] at hz
      rcases List.mem_append.mp hz with h | h
      · exact hc3 z h y hy
      · rw [Option.toList_some, List.mem_singleton] at h
        rw [h] at hy
        obtain ⟨t, ht, rfl⟩ := hy
        exact ht3 t ht
  · rintro ρ u3 ⟨rfl, O2, N, s5, s6, s7, hO2, hk, hc2, rfl⟩
    rw [List.length_map, List.take_length] at hc2
    refine s_frz rfl ?_
    walk_at "d"
    refine s_setD (d := .list (N.map tupN)) (by walk_at "e") ?_
    walk_at "d"
    have l2 := ln O2 hO2
    have eN := congrArg List.length hk
    rw [List.length_append, List.length_map, List.length_map] at eN
    refine ⟨_, ?_, rfl, O2, N, _, _, _, _, hO2, fun z hz => by rw [hk]; exact List.mem_append_right _ hz, fun z hz => ?_, rfl, rfl⟩
    · rw [hm, if_neg hr]
      by_cases e : N = []
      · rw [if_pos e]
        rw [e] at eN
        simp only [List.length_nil] at eN
        omega
      · rw [if_neg e]
        have := List.length_pos_iff.mpr e
        omega
    · rw [hk] at hz
      rcases List.mem_append.mp hz with h | h
      · refine .inr fun y hy => ?_
        rcases hcl z h with h | h
        · exact hc2 z h y hy
        · rw [hk]; exact List.mem_append_left _ (h y hy)
      · exact .inl h
end K02

set_option Elab.async false
set_option linter.all false
set_option maxRecDepth 100000
set_option maxHeartbeats 4000000
namespace K02
open PySem PySem.Spec PyProof.Rows L2 DW WLD

def revK (d : D) (K : D → Prop) : Prop := ∃ xs, d = .list xs ∧ K (.tuple xs.reverse)
theorem wz_trev {w : WE} {ρ : Rho} {u : Nat} {Q : D → Nat → Prop} : wTupRev w ρ u Q = w ρ u fun d u1 => revK d fun z => Q z u1 := rfl
theorem wz_rev {T : List St4} {K : D → Prop} : revK (.list (T.map stpD)) K = K (tsD T.reverse) := by
  have e : (tsD T.reverse : D) = .tuple (T.map stpD).reverse := by unfold tsD; rw [List.map_reverse]
  rw [e]
  exact propext ⟨fun ⟨_, h, q⟩ => by cases h; exact q, fun q => ⟨_, rfl, q⟩⟩
theorem wz_tyT {T : List St4} {Q : D → Prop} : fTyIs "tuple" true (tsD T) Q = Q (.bool false) := propext ⟨fun h => h.2, fun h => ⟨rfl, h⟩⟩
theorem wz_isT {T : List St4} {Q : D → Prop} : fIsi "tuple" (tsD T) Q = Q (.bool true) := propext ⟨fun ⟨_, r, e, q⟩ => by
  have : kitB (tyName (tsD T)) "tuple" = some true := by show kitB "tuple" "tuple" = some true; decide
  rw [this] at e
  cases e
  exact q, fun h => ⟨rfl, true, by show kitB "tuple" "tuple" = some true; decide, h⟩⟩
theorem wz_isTt {t : St4} {Q : D → Prop} : fIsi "tuple" (stpD t) Q = Q (.bool true) := propext ⟨fun ⟨_, r, e, q⟩ => by
  have : kitB (tyName (stpD t)) "tuple" = some true := by show kitB "tuple" "tuple" = some true; decide
  rw [this] at e
  cases e
  exact q, fun h => ⟨rfl, true, by show kitB "tuple" "tuple" = some true; decide, h⟩⟩
theorem wz_lenE {E : Eqs} {Q : D → Prop} : fLen [eqD E] Q = Q (.int (E.length : Nat)) := by
  show Q (.int ((E.map pqD).length : Nat)) = _
  rw [List.length_map]
theorem wz_isN0 {L : List Nat} {n : Bool} {Q : D → Prop} : Q (.bool (if n then !isNon (tupN L) else isNon (tupN L))) = Q (.bool n) := by cases n <;> rfl
theorem wz_isN1 : isNon (tupN L) = false := rfl
theorem x_row {t : St4} {u : Nat} {Q : D → Nat → Prop} (q : Q (.bool true) u) : W_is_row u [stpD t, .int 3] Q := ⟨_, 3, rfl, by simpa using q⟩
theorem x_num {x lo hi : Int} {u : Nat} {Q : D → Nat → Prop} (h1 : lo ≤ x) (h2 : x ≤ hi) (q : Q (.bool true) u) : W_is_number u [.int x, .int lo, .int hi] Q := ⟨x, lo, hi, rfl, by simpa [h1, h2] using q⟩
theorem stp_way {W : Wb} {E : Eqs} (hE : EqOk W E) {x : Nat} {l : List Nat} (hw : IsWy W ⟨x, l⟩) {t : St4} (ht : t ∈ SL E l) : IsWy W ⟨x, t.2.2.2⟩ := (rc_way hE (.step .refl ⟨t, ht, rfl⟩) hw).1
theorem en_stp {T : List St4} : enumD (T.map stpD) = (List.range T.length).map fun i => (.tuple [.int (i : Nat), stpD (T.getD i (0, 0, 0, []))] : D) := enL
local macro_rules | `(tactic| walk_at "x") => `(tactic| try simp (disch := first | assumption | omega) only [↓z_varD0, ↓wz_slTo, ↓wz_slFrom, ↓wz_slB, ↓wz_toT, ↓wz_frT, ↓wz_bT, ↓wz_tn, ↓wz_lenN, ↓wz_lenL, ↓wz_lenLs, ↓wz_lenI, ↓wz_ixT, ↓wz_ixL, ↓wz_pq, ↓wz_pq1, ↓wz_eqT, ↓wz_tru, ↓wz_truN, ↓wz_wa0, ↓wz_wa1, ↓wz_wb0, ↓wz_wb1, ↓wz_rs, ↓wz_dc, ↓wz_items, ↓wz_dGet, ↓wz_min2, ↓wz_max2, ↓wz_tof, ↓wz_diO0, ↓wz_diOs, ↓wz_din, ↓wz_dW, ↓z_isi2, ↓z_tyI2, ↓wz_inW, ↓wz_truL, ↓wz_trev, ↓wz_rev, ↓wz_tyT, ↓wz_isT, ↓wz_isTt, ↓wz_lenE, ↓wz_eq, ↓wz_isN0, ↓wz_isN1, ↓wz_wa0, ↓wz_wa1, ↓wz_drp, ↓wz_eq, ↓wz_sl2, ↓wz_inW, ↓wz_lw1, ↓wz_truL, ↓wz_wy0, ↓wz_wy1, ↓wz_wy2, ↓wz_wy3,  ↓z_varDs, ↓z_var0, ↓z_varo, ↓z_vars, ↓z_c, ↓z_2, ↓z_3, ↓z_tst, ↓z_tand, ↓z_tor, ↓z_tnot, ↓z_and, ↓z_or, ↓z_not, ↓z_isN, ↓z_neg, ↓z_nil, ↓z_cons, ↓z_tup, ↓z_lst, ↓z_sh0, ↓z_sh1, ↓z_sh2, ↓z_sh3, ↓z_sh4, ↓z_sh5, ↓z_fD, ↓z_if, ↓z_call, ↓z_fn, ↓z_lc, ↓z_i1, ↓z_iE, ↓z_seqL, ↓z_seqT, ↓z_iR, ↓z_rgK, ↓z_int, ↓z_bool, ↓z_lenT, ↓z_lenL, ↓z_tupT, ↓z_tupL, ↓z_iteT, ↓z_iteF, ↓z_lt, ↓z_le, ↓z_gt, ↓z_ge, ↓z_sub, ↓z_lrg, ↓z_trg, ↓z_ssI, ↓z_sort, ↓z_addF, ↓z_dic, ↓z_diD, ↓z_dIn, ↓z_iDic, ↓z_isB, ↓z_fnSw, ↓id_eq, ↓z_count, ↓z_lstI, ↓z_lsP, ↓z_addI, ↓i_w0, ↓i_w1, ↓i_w2, ↓i_es, ↓i_tb, ↓i_row, ↓i_p0, ↓i_p1, ↓fEq_int, ↓fEq_bool, ↓fEq_pr, ↓wipeR, ↓List.set_cons_zero, ↓List.set_cons_succ, t_and, t_or, t_andD, t_orD, Int.ofNat_inj, Int.ofNat_le, Int.ofNat_lt])
local macro_rules | `(tactic| walk_at "e") => `(tactic| (intro Q q; walk_at "x"; exact q))
local macro_rules | `(tactic| walk_at "r") => `(tactic| (intro u R r; walk_at "x"; exact r))
local macro_rules | `(tactic| walk_at "s") => `(tactic| simp only [startR, List.map_cons, List.map_nil, List.length_cons, List.length_nil, List.cons_append, List.nil_append, Nat.reduceAdd, Nat.reduceSub, Nat.zero_add, List.reduceReplicate])
local macro_rules | `(tactic| walk_at "d") => `(tactic| (try dsimp only [List.set_cons_zero, List.set_cons_succ]))

theorem ob_is_number : ∀ u ds Qd, W_is_number u ds Qd → ds.length = 3 ∧ w_is_number { nx := fun _ u' => Qd .none u', rt := Qd } (startR ["value", "low", "high"] ds) u := by
  rintro u ds Qd ⟨i, lo, hi, rfl, q⟩
  refine ⟨rfl, ?_⟩
  simp [w_is_number]
  by_cases h1 : lo ≤ i
  · exact .inr ⟨h1, by simpa [h1] using q⟩
  · exact .inl ⟨by omega, by simpa [h1] using q⟩
theorem ob_is_row : ∀ u ds Qd, W_is_row u ds Qd → ds.length = 2 ∧ w_is_row { nx := fun _ u' => Qd .none u', rt := Qd } (startR ["value", "many"] ds) u := by
  rintro u ds Qd ⟨v, n, rfl, q⟩
  refine ⟨rfl, ?_⟩
  simp_all [w_is_row, fEq_int, -fEq]
theorem ob_way_steps : ∀ u ds Qd, W_way_steps u ds Qd → ds.length = 4 ∧ w_way_steps { nx := fun _ u' => Qd .none u', rt := Qd } (startR ["web", "equals", "one", "other", "origin", "steps", "word", "step"] ds) u := by
  rintro u ds Qd ⟨W, E, v, w, hW, hC, hE, hv, hw, rfl, q1, q2⟩
  refine ⟨rfl, ?_⟩
  simp only [w_way_steps]; walk_at "s"
  refine s_seq ?_
  rw [wz_drp]
  walk_at "x"
  refine ⟨W, hW, hC, rfl, fun A hA => ?_⟩
  refine s_seq (s_setG ?_)
  walk_at "x"
  refine ⟨W, E, v, hW, hC, hE, hv, rfl, fun O hO hcl hl => ?_⟩
  walk_at "d"
  have nd := hO.1
  by_cases h : v.x = w.x ∧ Rc E v.l w.l
  · have hin := (hcl _).mpr h.2
    refine s_seq (s_ifF (fun Q qq => ?_) (s_nil ?_))
    · walk_at "x"
      simp [h.1, hin]
      exact qq
    walk_at "d"
    refine s_seq (s_setF (ds := [].map stpD) (by walk_at "e") ?_)
    walk_at "d"
    refine s_seq (s_setD (d := tupN w.l) (by walk_at "e") ?_)
    walk_at "d"
    refine s_seq ?_
    obtain ⟨⟨w', V0⟩, hp, ew⟩ := List.mem_map.mp hin
    simp only at ew
    subst ew
    obtain ⟨i0, hi0, ei0⟩ := List.getElem_of_mem hp
    refine ⟨fun m ρ u' => u' = u ∧ ∃ (z : List Nat) (V : Option (List Nat × St4)) (T : List St4) (s7 : Option SV), O[m]? = some (z, V) ∧ Walk E z T.reverse w.l ∧ T.length + m ≤ 199 ∧ ρ = [some (.d (wbD W)), some (.d (eqD E)), some (.d (waD v)), some (.d (waD w)), some (.d (xD (ogK O))), some (.own (T.map stpD)), some (.d (tupN z)), s7], ⟨i0, rfl, w.l, V0, [], _, by rw [← ei0]; exact List.getElem?_eq_getElem hi0, rfl, by simp; omega, rfl⟩, ?_⟩
    rintro m ρ u' ⟨rfl, z, V, T, s7, hz, hT, hl2, rfl⟩
    have hzO := List.mem_of_getElem? hz
    walk_at "x"
    refine ⟨og_ok O z, ogV V, og_get nd hzO, ?_⟩
    cases V with
    | none =>
      walk_at "x"
      have m0 : m = 0 := by
        cases m with
        | zero => rfl
        | succ m => obtain ⟨_, _, _, _, _, _, e, _⟩ := hO.2.2 m z none hz; cases e
      subst m0
      rw [hO.2.1] at hz
      cases hz
      rw [if_neg (by simp [ogV, DW.isNon])]
      refine s_ret (d := tsD T.reverse) (fun Q qq => ?_) (q1 T.reverse h.1 hT (by rw [List.length_reverse]; omega))
      walk_at "x"
      exact qq
    | some bt =>
      obtain ⟨b, t⟩ := bt
      walk_at "x"
      rw [if_pos (by simp [ogV, DW.isNon])]
      cases m with
      | zero => rw [hO.2.1] at hz; cases hz
      | succ m =>
        obtain ⟨j, b', w', t', hj, e1, e2, e3, e4⟩ := hO.2.2 m z _ hz
        cases e2
        refine s_seq (s_unpG ?_)
        walk_at "x"
        refine ⟨og_ok O z, ogV (some (b, t)), og_get nd hzO, _, rfl, ?_⟩
        walk_at "d"
        refine s_app (d := stpD t) rfl (by walk_at "e") (by rw [List.length_map]; omega) ?_
        walk_at "d"
        refine ⟨j, by omega, rfl, b, w', T ++ [t], some (.d (stpD t)), e1, ?_, by rw [List.length_append]; simp; omega, ?_⟩
        · rw [List.reverse_append]
          exact ⟨e3, by rw [e4]; exact hT⟩
        · rw [List.map_append]
          rfl
  · refine s_seq (s_ifT (fun Q qq => ?_) (s_ret (by walk_at "e") (q2 h)))
    walk_at "x"
    by_cases hx : v.x = w.x
    · have hn : w.l ∉ kys O := fun z => h ⟨hx, (hcl _).mp z⟩
      simp [hx, hn]
      exact qq
    · simp [hx]
      exact qq
theorem ob_word_behind : ∀ u ds Qd, W_word_behind u ds Qd → ds.length = 3 ∧ w_word_behind { nx := fun _ u' => Qd .none u', rt := Qd } (startR ["equals", "word", "step", "place", "k", "sense"] ds) u := by
  rintro u ds Qd ⟨E, l, t, hs, ht, rfl, q⟩
  refine ⟨rfl, ?_⟩
  obtain ⟨p, k, s, z⟩ := t
  obtain ⟨hk, hs2, hp, hr⟩ := mem_SL.mp ht
  simp only at hk hs2 hp hr
  have hl := hs.2.1
  have hpE := hs.2.2 (E.getD k ([], [])) (by rw [List.getD_eq_getElem?_getD, List.getElem?_eq_getElem hk]; exact List.getElem_mem hk)
  have sdl : ∀ s, (sdE (E.getD k ([], [])) s).length ≤ 100 := fun s => by unfold sdE; split <;> omega
  simp only [w_word_behind]; walk_at "s"
  refine s_seq (s_ifF (fun Q qq => ?_) (s_nil ?_))
  · walk_at "x"
    refine x_row ?_
    walk_at "x"
    exact qq
  walk_at "d"
  refine s_seq (s_unp (d := stpD (p, k, s, z)) (by walk_at "e") rfl ?_)
  walk_at "d"
  refine s_seq (s_ifF (fun Q qq => ?_) (s_nil ?_))
  · walk_at "x"
    refine x_num ?_ ?_ ?_
    · omega
    · omega
    walk_at "x"
    rw [if_neg (by decide)]
    refine x_num ?_ ?_ ?_
    · omega
    · omega
    walk_at "x"
    rw [if_neg (by decide)]
    refine x_num ?_ ?_ ?_
    · omega
    · omega
    walk_at "x"
    exact qq
  walk_at "d"
  refine s_retG ?_
  walk_at "x"
  refine ⟨l, p, _, _, hl, sdl s, sdl (1 - s), by omega, rfl, ?_⟩
  rw [hr]
  exact q
theorem ob_stepped : ∀ u ds Qd, W_stepped u ds Qd → ds.length = 4 ∧ w_stepped { nx := fun _ u' => Qd .none u', rt := Qd } (startR ["web", "equals", "way", "steps", "word", "place", "step"] ds) u := by
  rintro u ds Qd ⟨W, E, w, T, z, hW, hC, hE, hw, hT, hl, rfl, q⟩
  refine ⟨rfl, ?_⟩
  simp only [w_stepped]; walk_at "s"
  refine s_seq ?_
  rw [wz_drp]
  walk_at "x"
  refine ⟨W, hW, hC, rfl, fun A hA => ?_⟩
  refine s_seq (s_ifF (by walk_at "e") (s_nil ?_))
  walk_at "d"
  refine s_seq (s_setD (d := tupN w.l) (by walk_at "e") ?_)
  walk_at "d"
  refine s_seq (s_for (ds := enumD (T.map stpD)) (by walk_at "e") ?_)
  rw [en_stp]
  let I : Nat → Rho → Nat → Prop := fun j ρ u' => u' = u ∧ ∃ (l : List Nat) (s5 s6 : Option SV), IsWy W ⟨w.x, l⟩ ∧ Walk E l (T.drop j) z ∧ ρ = [some (.d (wbD W)), some (.d (eqD E)), some (.d (waD w)), some (.d (tsD T)), some (.d (tupN l)), s5, s6]
  refine wLoop_inv _ I ?_ ?_ _ _ ⟨rfl, w.l, _, _, hw, hT, rfl⟩
  · rintro j x ρ u' F' hx ⟨rfl, l, s5, s6, hwl, hTl, rfl⟩ n1 n2 n3 n4 n5
    rw [List.getElem?_map] at hx
    obtain ⟨y, hy, rfl⟩ := Option.map_eq_some_iff.mp hx
    obtain ⟨hj, ey⟩ := List.getElem?_eq_some_iff.mp hy
    rw [List.length_range] at hj
    rw [List.getElem_range] at ey
    subst ey
    have ed : T.drop j = T.getD j (0, 0, 0, []) :: T.drop (j + 1) := by
      rw [List.drop_eq_getElem_cons hj, List.getD_eq_getElem?_getD, List.getElem?_eq_getElem hj]
      rfl
    rw [ed] at hTl
    obtain ⟨ht, hT2⟩ := hTl
    generalize T.getD j (0, 0, 0, []) = t at ht hT2 ⊢
    have hl5 := (hwl.short hW).1
    simp only at hl5
    refine ⟨_, rfl, ?_⟩
    walk_at "d"
    refine s_seq (s_setG ?_)
    walk_at "x"
    refine ⟨E, l, t, shortE hW hE (by omega), ht, rfl, ?_⟩
    walk_at "d"
    refine s_ifF (by walk_at "e") (s_nil (n1 _ _ ⟨rfl, t.2.2.2, _, _, stp_way hE hwl ht, hT2, rfl⟩))
  · rintro ρ u' ⟨rfl, l, s5, s6, hwl, hTl, rfl⟩
    rw [List.length_map, List.length_range, List.drop_length] at hTl
    rw [show l = z from hTl]
    walk_at "d"
    refine s_ret (d := waD ⟨w.x, z⟩) (fun Q qq => ?_) q
    walk_at "x"
    exact qq
end K02

set_option Elab.async false
set_option linter.all false
set_option maxRecDepth 100000
set_option maxHeartbeats 4000000
namespace K02
open PySem PySem.Spec PyProof.Rows L2 DW WLD

def rvK (d : D) (K : D → Prop) : Prop := ∃ xs, d = .tuple xs ∧ K (.tuple xs.reverse)
theorem wz_rvT {w : WE} {ρ : Rho} {u : Nat} {Q : D → Nat → Prop} : wRevT w ρ u Q = w ρ u fun d u1 => rvK d fun z => Q z u1 := rfl
theorem wz_rv {T : List St4} {K : D → Prop} : rvK (tsD T) K = K (.tuple (T.reverse.map stpD)) := by
  rw [List.map_reverse]
  exact propext ⟨fun ⟨_, h, q⟩ => by cases h; exact q, fun q => ⟨_, rfl, q⟩⟩
theorem eqN_ls {α : Type} {f : α → List Nat} {n : Bool} {L : List α} {Q : D → Prop} : fEq n (.list (L.map fun w => tupN (f w))) (.list []) Q = Q (.bool (if n then !decide (L = []) else decide (L = []))) := by
  rw [eqN_sh fun d hd => by obtain ⟨x, _, rfl⟩ := List.mem_map.mp hd; exact (Sh.tup (n := 0) sh_nats).mono (by omega)]
  have : decide ((L.map fun w => (tupN (f w) : D)) = []) = decide (L = []) := decide_eq_decide.mpr List.map_eq_nil_iff
  rw [this]
def trs : List (Nat × Nat × Nat) := (List.range 40).map fun i => (i / 8, i / 2 % 4, i % 2)
def shT (t : Nat × Nat × Nat) : D := .tuple [.int (t.1 : Nat), .int (t.2.1 : Nat), .int (t.2.2 : Nat)]
theorem shn0 : (trs.map fun t => (shT t).shown).Nodup := by decide +kernel
theorem in_trs {a b c : Nat} (ha : a < 5) (hb : b < 4) (hc : c < 2) : (a, b, c) ∈ trs := by
  refine List.mem_map.mpr ⟨a * 8 + b * 2 + c, List.mem_range.mpr (by omega), ?_⟩
  rw [show (a * 8 + b * 2 + c) / 8 = a by omega, show (a * 8 + b * 2 + c) / 2 % 4 = b by omega, show (a * 8 + b * 2 + c) % 2 = c by omega]
theorem shn {a b c a' b' c' : Nat} (h1 : a < 5) (h2 : b < 4) (h3 : c < 2) (h1' : a' < 5) (h2' : b' < 4) (h3' : c' < 2) (e : (shT (a, b, c)).shown = (shT (a', b', c')).shown) : (a, b, c) = (a', b', c') :=
  inj_of (f := fun t => (shT t).shown) shn0 (in_trs h1 h2 h3) (in_trs h1' h2' h3') e
def Sml (t : St4) : Prop := t.1 < 5 ∧ t.2.1 < 4 ∧ t.2.2.1 < 2
def ky3 (t : St4) : Nat × Nat × Nat := (t.1, t.2.1, t.2.2.1)
theorem ro_stp {t : St4} (h : Sml t) : RO 1 40 (stpD t) := (RO.tup (n := 0) (w := 10) fun d hd => by
  obtain ⟨h1, h2, h3⟩ := h
  simp only [List.mem_cons, List.not_mem_nil, or_false] at hd
  rcases hd with e | e | e <;> rw [e] <;> exact RO.num (by omega)).mono (Nat.le_refl _) (by simp)
theorem like_stp {t t' : St4} (h : Sml t) (h' : Sml t') {u : Nat} {Q : D → Nat → Prop} (q : Q (.bool (decide (ky3 t' = ky3 t))) u) : W__law_like u [stpD t', stpD t] Q := by
  refine ⟨_, _, rfl, ((ro_stp h').mono (by omega) (by omega)).ok, ((ro_stp h).mono (by omega) (by omega)).ok, ?_⟩
  have : decide ((stpD t').shown = (stpD t).shown) = decide (ky3 t' = ky3 t) := decide_eq_decide.mpr ⟨fun e => by
    exact shn h'.1 h'.2.1 h'.2.2 h.1 h.2.1 h.2.2 e, fun e => by
    unfold ky3 at e
    unfold stpD
    rw [(Prod.mk.inj e).1, (Prod.mk.inj (Prod.mk.inj e).2).1, (Prod.mk.inj (Prod.mk.inj e).2).2]⟩
  rw [this]
  exact q
theorem det {E : Eqs} {l : List Nat} {t t' : St4} (h : t ∈ SL E l) (h' : t' ∈ SL E l) (e : ky3 t' = ky3 t) : t' = t := by
  obtain ⟨p, k, s, z⟩ := t
  obtain ⟨p', k', s', z'⟩ := t'
  unfold ky3 at e
  simp only [Prod.mk.injEq] at e
  obtain ⟨rfl, rfl, rfl⟩ := e
  have h1 := (mem_SL.mp h).2.2.2
  have h2 := (mem_SL.mp h').2.2.2
  simp only at h1 h2
  rw [h1] at h2
  cases h2
  rfl
theorem sml {W : Wb} (hW : WbOk W) {E : Eqs} (he4 : E.length ≤ 4) {x : Nat} {l : List Nat} (hw : IsWy W ⟨x, l⟩) {t : St4} (ht : t ∈ SL E l) : Sml t := by
  obtain ⟨h1, h2, h3, _⟩ := mem_SL.mp ht
  have := (hw.short hW).1
  simp only at this
  exact ⟨by omega, by omega, h2⟩
theorem inv_SL {W : Wb} {E : Eqs} (hE : EqOk W E) {a : List Nat} {t : St4} (h : t ∈ SL E a) : (t.1, t.2.1, 1 - t.2.2.1, a) ∈ SL E t.2.2.2 := by
  obtain ⟨p, k, s, z⟩ := t
  obtain ⟨h1, h2, h3, h4⟩ := mem_SL.mp h
  simp only at h1 h2 h3 h4 ⊢
  obtain ⟨n1, n2, _⟩ := par_go hE (par_of h1 h2)
  obtain ⟨c1, c2⟩ := rp_cut h4
  obtain ⟨_, lp⟩ := rp_len n1 h4
  have es : sdE (E.getD k ([], [])) (1 - (1 - s)) = sdE (E.getD k ([], [])) s := by rw [show 1 - (1 - s) = s by omega]
  refine mem_SL.mpr ⟨h1, by simp only; omega, ?_, ?_⟩
  · simp only
    rw [c2, List.length_append, List.length_append, lp]
    have := List.length_pos_iff.mpr n2
    omega
  · simp only
    rw [es]
    have := rp_of (a := a.take p) (u := sdE (E.getD k ([], [])) (1 - s)) (v := sdE (E.getD k ([], [])) s) (b := a.drop (p + (sdE (E.getD k ([], [])) s).length))
    rw [lp, ← c1, ← c2] at this
    exact this
theorem walk_back {W : Wb} {E : Eqs} (hE : EqOk W E) : ∀ {T : List St4} {a b : List Nat}, Walk E a T b → ∃ T', Walk E b T' a ∧ T'.map stpD = T.reverse.map (fun t => stpD (t.1, t.2.1, 1 - t.2.2.1, [])) ∧ T'.length = T.length
  | [], a, b, h => ⟨[], h.symm, rfl, rfl⟩
  | t :: T, a, b, ⟨h1, h2⟩ => by
    obtain ⟨T', q1, q2, q3⟩ := walk_back hE h2
    refine ⟨T' ++ [(t.1, t.2.1, 1 - t.2.2.1, a)], walk_app q1 ⟨inv_SL hE h1, rfl⟩, ?_, by rw [List.length_append, q3]; rfl⟩
    rw [List.map_append, q2, List.reverse_cons, List.map_append]
    rfl
theorem walk_lt {E : Eqs} : ∀ {T : List St4} {a b : List Nat}, Walk E a T b → ∀ t ∈ T, t.2.2.1 < 2
  | [], a, b, h, t, ht => nomatch ht
  | s :: T, a, b, ⟨h1, h2⟩, t, ht => by
    rcases List.mem_cons.mp ht with e | e
    · rw [e]; exact (mem_SL.mp h1).2.1
    · exact walk_lt h2 t e
theorem ro_wa {W : Wb} (hW : WbOk W) {w : Wy} (h : IsWy W w) : RO 2 900 (waD w) := by
  obtain ⟨h1, h2, _, _, h5⟩ := h.short hW
  exact (RO.tup (n := 1) (w := 440) fun d hd => by
    simp only [List.mem_cons, List.not_mem_nil, or_false] at hd
    rcases hd with e | e <;> rw [e]
    · exact (RO.num (by omega)).mono (by omega) (by omega)
    · exact ro_tupN (by omega) fun r hr => by have := h5 r hr; omega).mono (Nat.le_refl _) (by simp)
theorem ro_wa2 {W : Wb} (hW : WbOk W) {v w : Wy} (h : IsWy W v) (h' : IsWy W w) : reprOk (.list [waD v, waD w]) = true := ((RO.lst (n := 2) (w := 900) fun d hd => by
    simp only [List.mem_cons, List.not_mem_nil, or_false] at hd
    rcases hd with e | e <;> rw [e]
    · exact ro_wa hW h
    · exact ro_wa hW h').mono (by omega) (by simp)).ok
local macro_rules | `(tactic| walk_at "x") => `(tactic| try simp (disch := first | assumption | omega) only [↓z_varD0, ↓wz_slTo, ↓wz_slFrom, ↓wz_slB, ↓wz_toT, ↓wz_frT, ↓wz_bT, ↓wz_tn, ↓wz_lenN, ↓wz_lenL, ↓wz_lenLs, ↓wz_lenI, ↓wz_ixT, ↓wz_ixL, ↓wz_pq, ↓wz_pq1, ↓wz_eqT, ↓wz_tru, ↓wz_truN, ↓wz_wa0, ↓wz_wa1, ↓wz_wb0, ↓wz_wb1, ↓wz_rs, ↓wz_dc, ↓wz_items, ↓wz_dGet, ↓wz_min2, ↓wz_max2, ↓wz_tof, ↓wz_diO0, ↓wz_diOs, ↓wz_din, ↓wz_dW, ↓z_isi2, ↓z_tyI2, ↓wz_inW, ↓wz_truL, ↓wz_rvT, ↓wz_rv, ↓eqN_ls, ↓wz_trev, ↓wz_rev, ↓wz_tyT, ↓wz_isT, ↓wz_isTt, ↓wz_lenE, ↓wz_eq, ↓wz_isN0, ↓wz_isN1, ↓wz_wa0, ↓wz_wa1, ↓wz_drp, ↓wz_eq, ↓wz_sl2, ↓wz_inW, ↓wz_lw1, ↓wz_truL, ↓wz_wy0, ↓wz_wy1, ↓wz_wy2, ↓wz_wy3,  ↓z_varDs, ↓z_var0, ↓z_varo, ↓z_vars, ↓z_c, ↓z_2, ↓z_3, ↓z_tst, ↓z_tand, ↓z_tor, ↓z_tnot, ↓z_and, ↓z_or, ↓z_not, ↓z_isN, ↓z_neg, ↓z_nil, ↓z_cons, ↓z_tup, ↓z_lst, ↓z_sh0, ↓z_sh1, ↓z_sh2, ↓z_sh3, ↓z_sh4, ↓z_sh5, ↓z_fD, ↓z_if, ↓z_call, ↓z_fn, ↓z_lc, ↓z_i1, ↓z_iE, ↓z_seqL, ↓z_seqT, ↓z_iR, ↓z_rgK, ↓z_int, ↓z_bool, ↓z_lenT, ↓z_lenL, ↓z_tupT, ↓z_tupL, ↓z_iteT, ↓z_iteF, ↓z_lt, ↓z_le, ↓z_gt, ↓z_ge, ↓z_sub, ↓z_lrg, ↓z_trg, ↓z_ssI, ↓z_sort, ↓z_addF, ↓z_dic, ↓z_diD, ↓z_dIn, ↓z_iDic, ↓z_isB, ↓z_fnSw, ↓id_eq, ↓z_count, ↓z_lstI, ↓z_lsP, ↓z_addI, ↓i_w0, ↓i_w1, ↓i_w2, ↓i_es, ↓i_tb, ↓i_row, ↓i_p0, ↓i_p1, ↓fEq_int, ↓fEq_bool, ↓fEq_pr, ↓wipeR, ↓List.set_cons_zero, ↓List.set_cons_succ, t_and, t_or, t_andD, t_orD, Int.ofNat_inj, Int.ofNat_le, Int.ofNat_lt])
local macro_rules | `(tactic| walk_at "e") => `(tactic| (intro Q q; walk_at "x"; exact q))
local macro_rules | `(tactic| walk_at "r") => `(tactic| (intro u R r; walk_at "x"; exact r))
local macro_rules | `(tactic| walk_at "s") => `(tactic| simp only [startR, List.map_cons, List.map_nil, List.length_cons, List.length_nil, List.cons_append, List.nil_append, Nat.reduceAdd, Nat.reduceSub, Nat.zero_add, List.reduceReplicate])
local macro_rules | `(tactic| walk_at "d") => `(tactic| (try dsimp only [List.set_cons_zero, List.set_cons_succ]))

theorem ob_law_done : ∀ u ds Qd, W__law_done u ds Qd → ds.length = 3 ∧ w__law_done { nx := fun _ u' => Qd .none u', rt := Qd } (startR ["equals", "word", "steps", "step", "some", "other", "one"] ds) u := by
  rintro u ds Qd ⟨W, E, w, T, z, hW, hE, he4, hw, hT, hl, rfl, q⟩
  refine ⟨rfl, ?_⟩
  simp only [w__law_done]; walk_at "s"
  refine s_seq (s_for (ds := T.map stpD) (by walk_at "e") ?_)
  let I : Nat → Rho → Nat → Prop := fun j ρ u' => u' = u ∧ ∃ (l : List Nat) (s3 s4 s5 s6 : Option SV), IsWy W ⟨w.x, l⟩ ∧ Walk E l (T.drop j) z ∧ ρ = [some (.d (eqD E)), some (.d (tupN l)), some (.d (tsD T)), s3, s4, s5, s6]
  refine wLoop_inv _ I ?_ ?_ _ _ ⟨rfl, w.l, _, _, _, _, hw, hT, rfl⟩
  · rintro j x ρ u' F' hx ⟨rfl, l, s3, s4, s5, s6, hwl, hTl, rfl⟩ n1 n2 n3 n4 n5
    rw [List.getElem?_map] at hx
    obtain ⟨t, ht', rfl⟩ := Option.map_eq_some_iff.mp hx
    obtain ⟨hj, ej⟩ := List.getElem?_eq_some_iff.mp ht'
    have ed : T.drop j = t :: T.drop (j + 1) := by rw [List.drop_eq_getElem_cons hj, ej]
    rw [ed] at hTl
    obtain ⟨ht, hT2⟩ := hTl
    have hl5 := (hwl.short hW).1
    simp only at hl5
    have hs := sml hW he4 hwl ht
    have hsh := shortE hW hE (l := l) (by omega)
    have sl := sum_len hsh
    refine ⟨_, rfl, ?_⟩
    walk_at "d"
    refine s_seq (s_ifF (by walk_at "e") (s_nil ?_))
    walk_at "d"
    refine s_seq (s_setG ?_)
    walk_at "x"
    refine ⟨E, l, hsh, rfl, ?_⟩
    walk_at "x"
    refine c_filt (p := fun t' => decide (ky3 t' = ky3 t)) (f := fun t' => tupN t'.2.2.2) (by omega) (fun t' h' => ⟨_, rfl, fun u R rr => ?_, fun _ => by walk_at "r"⟩) ?_
    · walk_at "x"
      refine like_stp hs (sml hW he4 hwl h') ?_
      walk_at "x"
      exact rr
    obtain ⟨X, eX⟩ : ∃ X, (SL E l).filter (fun t' => decide (ky3 t' = ky3 t)) = t :: X := by
      have hm : t ∈ (SL E l).filter (fun t' => decide (ky3 t' = ky3 t)) := List.mem_filter.mpr ⟨ht, by simp⟩
      cases h : (SL E l).filter (fun t' => decide (ky3 t' = ky3 t)) with
      | nil => rw [h] at hm; cases hm
      | cons t' X =>
        have h' : t' ∈ (SL E l).filter (fun t' => decide (ky3 t' = ky3 t)) := by rw [h]; exact List.mem_cons_self
        obtain ⟨a1, a2⟩ := List.mem_filter.mp h'
        exact ⟨X, by rw [det ht a1 (of_decide_eq_true a2)]⟩
    rw [eX]
    walk_at "d"
    refine s_seq (s_ifF (fun Q qq => ?_) (s_nil ?_))
    · walk_at "x"
      simpa using qq
    walk_at "d"
    refine s_setD (d := tupN t.2.2.2) (fun Q qq => ?_) (n1 _ _ ⟨rfl, t.2.2.2, _, _, _, _, stp_way hE hwl ht, hT2, rfl⟩)
    walk_at "x"
    exact Eq.mpr (fIx_getL (i := 0) (z := tupN t.2.2.2) rfl) qq
  · rintro ρ u' ⟨rfl, l, s3, s4, s5, s6, hwl, hTl, rfl⟩
    rw [List.length_map, List.drop_length] at hTl
    rw [show l = z from hTl]
    walk_at "d"
    refine s_ret (d := tupN z) (fun Q qq => ?_) q
    walk_at "x"
    exact qq
theorem ob_law_pair_right : ∀ u ds Qd, W__law_pair_right u ds Qd → ds.length = 4 ∧ w__law_pair_right { nx := fun _ u' => Qd .none u', rt := Qd } (startR ["web", "equals", "one", "other", "told", "back", "place", "k", "sense"] ds) u := by
  rintro u ds Qd ⟨W, E, v, w, hW, hC, hE, he4, hv, hw, rfl, q⟩
  refine ⟨rfl, ?_⟩
  simp only [w__law_pair_right]; walk_at "s"
  refine s_seq (s_setG ?_)
  walk_at "x"
  refine ⟨W, E, v, w, hW, hC, hE, hv, hw, rfl, fun T hx hT hl => ?_, fun hn => ?_⟩
  · walk_at "d"
    refine s_seq (s_ifF (fun Q qq => ?_) (s_nil ?_))
    · walk_at "x"
      rw [if_neg (by simp [hx])]
      refine ⟨W, E, v, hW, hC, hE, hv, rfl, fun F fnd hF fl => ?_⟩
      walk_at "x"
      rw [decide_eq_true ((hF _).mpr (walk_rc hT))]
      exact qq
    walk_at "d"
    refine s_seq (s_ifF (fun Q qq => ?_) (s_nil ?_))
    · walk_at "x"
      rw [if_neg (by decide)]
      refine ⟨W, E, v, T, w.l, hW, hE, he4, hv, hT, hl, rfl, ?_⟩
      walk_at "x"
      simpa using qq
    walk_at "d"
    obtain ⟨T', b1, b2, b3⟩ := walk_back hE hT
    have lt := walk_lt hT
    refine s_seq (s_setG ?_)
    walk_at "x"
    refine c_map (f := fun t : St4 => stpD (t.1, t.2.1, 1 - t.2.2.1, [])) (by rw [List.length_reverse]; omega) (fun t ht => ⟨_, rfl, fun u R rr => ?_⟩) ?_
    · have := lt t (List.mem_reverse.mp ht)
      walk_at "x"
      rw [show (1 - (t.2.2.1 : Int)) = ((1 - t.2.2.1 : Nat) : Int) by omega]
      exact rr
    refine ⟨_, rfl, ?_⟩
    rw [← b2]
    walk_at "d"
    have hvw : IsWy W ⟨v.x, w.l⟩ := (rc_way (x := v.x) (l := v.l) hE (walk_rc hT) hv).1
    have e1 : (⟨v.x, w.l⟩ : Wy) = w := by rw [hx]
    have e2 : (⟨w.x, v.l⟩ : Wy) = v := by rw [← hx]
    walk_at "x"
    refine ⟨W, E, v, T, w.l, hW, hC, hE, hv, hT, hl, rfl, ?_⟩
    rw [e1]
    walk_at "x"
    refine ⟨W, E, w, T', v.l, hW, hC, hE, hw, b1, by omega, rfl, ?_⟩
    rw [e2]
    walk_at "x"
    exact ⟨by simp, like_same rfl (ro_wa2 hW hw hv) q⟩
  · walk_at "d"
    refine s_seq (s_ifT (fun Q qq => ?_) (s_ret (by walk_at "e") q))
    walk_at "x"
    by_cases hx : v.x = w.x
    · rw [if_neg (by simp [hx])]
      refine ⟨W, E, v, hW, hC, hE, hv, rfl, fun F fnd hF fl => ?_⟩
      walk_at "x"
      rw [decide_eq_false (fun z => hn ⟨hx, (hF _).mp z⟩)]
      exact qq
    · rw [if_pos (by simp; omega)]
      exact qq
end K02

set_option Elab.async false
set_option linter.all false
set_option maxRecDepth 100000
set_option maxHeartbeats 4000000
namespace K02
open PySem PySem.Spec PyProof.Rows L2 DW WLD

theorem sh_wa1 {w : Wy} : Sh 2 (waD w) := Sh.tup (n := 1) fun d hd => by
  simp only [List.mem_cons, List.not_mem_nil, or_false] at hd
  rcases hd with e | e <;> rw [e]
  · exact .int
  · exact Sh.tup (n := 0) sh_nats
theorem eqN_w {n : Bool} {L : List Wy} {Q : D → Prop} : fEq n (.list (L.map waD)) (.list []) Q = Q (.bool (if n then !decide (L = []) else decide (L = []))) := by
  rw [eqN_sh fun d hd => by obtain ⟨x, _, rfl⟩ := List.mem_map.mp hd; exact sh_wa1.mono (by omega)]
  have : decide (L.map waD = []) = decide (L = []) := decide_eq_decide.mpr List.map_eq_nil_iff
  rw [this]
theorem eqN_nr {n : Bool} {L : List St4} {Q : D → Prop} : fEq n (.list (L.map nrD)) (.list []) Q = Q (.bool (if n then !decide (L = []) else decide (L = []))) := by
  rw [eqN_sh fun d hd => by
    obtain ⟨x, _, rfl⟩ := List.mem_map.mp hd
    exact (Sh.tup (n := 1) fun d hd => by
      simp only [List.mem_cons, List.not_mem_nil, or_false] at hd
      rcases hd with e | e <;> rw [e]
      · exact Sh.tup (n := 0) sh_nats
      · exact Sh.tup (n := 0) fun d hd => by
          simp only [List.mem_cons, List.not_mem_nil, or_false] at hd
          rcases hd with e | e | e <;> rw [e] <;> exact .int).mono (by omega)]
  have : decide (L.map nrD = []) = decide (L = []) := decide_eq_decide.mpr List.map_eq_nil_iff
  rw [this]
theorem wz_inc {T : List St4} {K : D → Prop} : fTupOf [.list (T.map stpD)] K = K (tsD T) := rfl
theorem wz_tofS {T : List St4} {K : D → Prop} : fTupOf [.tuple (T.map stpD)] K = K (tsD T) := rfl
theorem wz_mt {L : List Nat} {n : Bool} : n = n := rfl
local macro_rules | `(tactic| walk_at "x") => `(tactic| try simp (disch := first | assumption | omega) only [↓z_varD0, ↓wz_slTo, ↓wz_slFrom, ↓wz_slB, ↓wz_toT, ↓wz_frT, ↓wz_bT, ↓wz_tn, ↓wz_lenN, ↓wz_lenL, ↓wz_lenLs, ↓wz_lenI, ↓wz_ixT, ↓wz_ixL, ↓wz_pq, ↓wz_pq1, ↓wz_eqT, ↓wz_tru, ↓wz_truN, ↓wz_wa0, ↓wz_wa1, ↓wz_wb0, ↓wz_wb1, ↓wz_rs, ↓wz_dc, ↓wz_items, ↓wz_dGet, ↓wz_min2, ↓wz_max2, ↓wz_tof, ↓wz_diO0, ↓wz_diOs, ↓wz_din, ↓wz_dW, ↓z_isi2, ↓z_tyI2, ↓wz_inW, ↓wz_truL, ↓eqN_w, ↓eqN_nr, ↓wz_wy0, ↓wz_wy3, ↓wz_inc, ↓wz_tofS, ↓wz_rvT, ↓wz_rv, ↓eqN_ls, ↓wz_trev, ↓wz_rev, ↓wz_tyT, ↓wz_isT, ↓wz_isTt, ↓wz_lenE, ↓wz_eq, ↓wz_isN0, ↓wz_isN1, ↓wz_wa0, ↓wz_wa1, ↓wz_drp, ↓wz_eq, ↓wz_sl2, ↓wz_inW, ↓wz_lw1, ↓wz_truL, ↓wz_wy0, ↓wz_wy1, ↓wz_wy2, ↓wz_wy3,  ↓z_varDs, ↓z_var0, ↓z_varo, ↓z_vars, ↓z_c, ↓z_2, ↓z_3, ↓z_tst, ↓z_tand, ↓z_tor, ↓z_tnot, ↓z_and, ↓z_or, ↓z_not, ↓z_isN, ↓z_neg, ↓z_nil, ↓z_cons, ↓z_tup, ↓z_lst, ↓z_sh0, ↓z_sh1, ↓z_sh2, ↓z_sh3, ↓z_sh4, ↓z_sh5, ↓z_fD, ↓z_if, ↓z_call, ↓z_fn, ↓z_lc, ↓z_i1, ↓z_iE, ↓z_seqL, ↓z_seqT, ↓z_iR, ↓z_rgK, ↓z_int, ↓z_bool, ↓z_lenT, ↓z_lenL, ↓z_tupT, ↓z_tupL, ↓z_iteT, ↓z_iteF, ↓z_lt, ↓z_le, ↓z_gt, ↓z_ge, ↓z_sub, ↓z_lrg, ↓z_trg, ↓z_ssI, ↓z_sort, ↓z_addF, ↓z_dic, ↓z_diD, ↓z_dIn, ↓z_iDic, ↓z_isB, ↓z_fnSw, ↓id_eq, ↓z_count, ↓z_lstI, ↓z_lsP, ↓z_addI, ↓i_w0, ↓i_w1, ↓i_w2, ↓i_es, ↓i_tb, ↓i_row, ↓i_p0, ↓i_p1, ↓fEq_int, ↓fEq_bool, ↓fEq_pr, ↓wipeR, ↓List.set_cons_zero, ↓List.set_cons_succ, t_and, t_or, t_andD, t_orD, Int.ofNat_inj, Int.ofNat_le, Int.ofNat_lt])
local macro_rules | `(tactic| walk_at "e") => `(tactic| (intro Q q; walk_at "x"; exact q))
local macro_rules | `(tactic| walk_at "r") => `(tactic| (intro u R r; walk_at "x"; exact r))
local macro_rules | `(tactic| walk_at "s") => `(tactic| simp only [startR, List.map_cons, List.map_nil, List.length_cons, List.length_nil, List.cons_append, List.nil_append, Nat.reduceAdd, Nat.reduceSub, Nat.zero_add, List.reduceReplicate])
local macro_rules | `(tactic| walk_at "d") => `(tactic| (try dsimp only [List.set_cons_zero, List.set_cons_succ]))

theorem turn_other {W : Wb} {E : Eqs} (hC : Cnt W 200) (hW : WbOk W) (hE : EqOk W E) {v w : Wy} (hv : IsWy W v) (hw : IsWy W w) {F : DE} {u : Nat} (hu : (u : Int) < 900000000) {s0 s1 s5 s6 s7 s8 s11 s12 s13 s14 : Option SV}
    (h : ∀ (w' : Wy) (u9 : Nat), IsWy W w' → u9 ≤ u + 2 → F.nx [s0, s1, some (.d mD), some (.d (wbD W)), some (.d (eqD E)), s5, s6, s7, s8, some (.d (waD v)), some (.d (waD w')), s11, s12, s13, s14] u9) :
    (wIfS (wTst (w2 fGt (wFn W__law_draw (waCons (wVarD 2) (waCons (wC (.int 4)) waNil))) (wC (.int 0)))) (wSetD 10 (wTup (waCons (w2 fIx (wVar 9) (wC (.int 0))) (waCons (wFn W__law_of (waCons (wVarD 2) (waCons (wFn W__law_class (waCons (wVarD 4) (waCons (w2 fIx (wVar 9) (wC (.int 1))) waNil))) waNil))) waNil)))) wNil) F [s0, s1, some (.d mD), some (.d (wbD W)), some (.d (eqD E)), s5, s6, s7, s8, some (.d (waD v)), some (.d (waD w)), s11, s12, s13, s14] u := by
  refine s_ifG ?_
  walk_at "x"
  refine ⟨4, rfl, by omega, by omega, by omega, fun r h0 h1 => ?_⟩
  walk_at "x"
  by_cases hr : r > 0
  · rw [if_pos (by simpa using hr)]
    refine s_setG ?_
    walk_at "x"
    refine ⟨W, E, v, hW, hC, hE, hv, rfl, fun Fc fnd hF fl => ?_⟩
    walk_at "x"
    have self : v.l ∈ Fc := (hF _).mpr .refl
    refine ⟨_, by cases Fc with | nil => cases self | cons => simp, by rw [List.length_map]; omega, .inl rfl, by omega, fun d hd => ?_⟩
    obtain ⟨z, hz, rfl⟩ := List.mem_map.mp hd
    walk_at "d"
    exact h ⟨v.x, z⟩ _ (rc_way (x := v.x) (l := v.l) hE ((hF z).mp hz) hv).1 (by omega)
  · rw [if_neg (by simpa using hr)]
    exact s_nil (h w _ hw (by omega))
theorem turn_walks {W : Wb} {E : Eqs} (hW : WbOk W) (hE : EqOk W E) {v : Wy} (hv : IsWy W v) {F : DE} {u : Nat} (hu : (u : Int) < 900000000) {s0 s1 s5 s6 s7 s8 s10 s13 s14 : Option SV}
    (h : ∀ (z : List Nat) (T : List St4) (u9 : Nat) (s7 s13 s14 : Option SV), IsWy W ⟨v.x, z⟩ → Walk E v.l T z → T.length ≤ 5 → u9 ≤ u + 6 → F.nx [s0, s1, some (.d mD), some (.d (wbD W)), some (.d (eqD E)), s5, s6, s7, s8, some (.d (waD v)), s10, some (.d (tupN z)), some (.own (T.map stpD)), s13, s14] u9) :
    (wFor (wiR1 (wFn W__law_draw (waCons (wVarD 2) (waCons (wC (.int 5)) waNil)))) (bName 7) (wSeq (wSetD 13 (wFn W__law_near (waCons (wVarD 4) (waCons (wVarD 11) waNil)))) (wIfS (wTst (w2 (fEq true) (wVar 13) (wfD (wLst waNil)))) (wSeq (wUnp (bTup (bCons (bName 11) (bCons (bName 14) bNil))) (wFn W__law_of (waCons (wVarD 2) (waCons (wVarD 13) waNil)))) (wApp 12 (wVarD 14))) wNil))) F [s0, s1, some (.d mD), some (.d (wbD W)), some (.d (eqD E)), s5, s6, s7, s8, some (.d (waD v)), s10, some (.d (tupN v.l)), some (.own []), s13, s14] u := by
  refine s_forG ?_
  walk_at "x"
  refine ⟨5, rfl, by omega, by omega, by omega, fun r h0 h1 => ?_⟩
  obtain ⟨c, rfl⟩ : ∃ c : Nat, r = (c : Int) := ⟨r.toNat, by omega⟩
  walk_at "x"
  let I : Nat → Rho → Nat → Prop := fun j ρ u' => u' ≤ u + 1 + j ∧ ∃ (z : List Nat) (T : List St4) (s7 s13 s14 : Option SV), IsWy W ⟨v.x, z⟩ ∧ Walk E v.l T z ∧ T.length ≤ j ∧ ρ = [s0, s1, some (.d mD), some (.d (wbD W)), some (.d (eqD E)), s5, s6, s7, s8, some (.d (waD v)), s10, some (.d (tupN z)), some (.own (T.map stpD)), s13, s14]
  refine wLoop_inv _ I ?_ ?_ _ _ ⟨by omega, v.l, [], _, _, _, hv, rfl, by simp, rfl⟩
  · rintro j x ρ u' F' hx ⟨hu', z, T, s7, s13, s14, hz, hT, hl, rfl⟩ n1 n2 n3 n4 n5
    have hj : j < c := by simpa using (List.getElem?_eq_some_iff.mp hx).1
    have zl := (hz.short hW).1
    simp only at zl
    have hsh := shortE hW hE (l := z) (by omega)
    have sl := sum_len hsh
    refine ⟨_, rfl, ?_⟩
    walk_at "d"
    refine s_seq (s_setG ?_)
    walk_at "x"
    refine ⟨E, z, hsh, rfl, ?_⟩
    walk_at "d"
    refine s_if (t := !decide (SL E z = [])) (by walk_at "e") ?_
    by_cases hn : SL E z = []
    · rw [if_neg (by rw [decide_eq_true hn]; decide)]
      exact s_nil (n1 _ _ ⟨by omega, z, T, _, _, _, hz, hT, by omega, rfl⟩)
    rw [if_pos (by rw [decide_eq_false hn]; rfl)]
    refine s_seq (s_unpG ?_)
    walk_at "x"
    refine ⟨_, by simpa using hn, by rw [List.length_map]; omega, .inl rfl, by omega, fun d hd => ?_⟩
    obtain ⟨t, ht, rfl⟩ := List.mem_map.mp hd
    refine ⟨_, rfl, ?_⟩
    walk_at "d"
    refine s_app (d := stpD t) rfl (by walk_at "e") (by rw [List.length_map]; omega) ?_
    walk_at "d"
    rw [show T.map stpD ++ [stpD t] = (T ++ [t]).map stpD by simp only [List.map_append, List.map_cons, List.map_nil]]
    exact n1 _ _ ⟨by omega, t.2.2.2, T ++ [t], _, _, _, stp_way hE hz ht, walk_app hT ⟨ht, rfl⟩, by rw [List.length_append]; simp; omega, rfl⟩
  · rintro ρ u' ⟨hu', z, T, s7, s13, s14, hz, hT, hl, rfl⟩
    rw [List.length_map, List.length_range] at hu' hl
    exact h z T u' _ _ _ hz hT (by omega) (by omega)
theorem turn_all {W : Wb} {E : Eqs} (hW : WbOk W) (hC : Cnt W 200) (hE : EqOk W E) (he4 : E.length ≤ 4) {A : List Wy} (hA : Every W A) (hne : A ≠ []) (a60 : A.length ≤ 60) {F : DE} {u : Nat} (hu : (u : Int) < 800000000) {s0 s1 s6 s7 s8 s9 s10 s11 s12 s13 s14 : Option SV}
    (h : ∀ (u9 : Nat) (s7 s9 s10 s11 s12 s13 s14 : Option SV), u9 ≤ u + 10 → F.nx [s0, s1, some (.d mD), some (.d (wbD W)), some (.d (eqD E)), some (.d (.list (A.map waD))), s6, s7, s8, s9, s10, s11, s12, s13, s14] u9) :
    (wSeq (wPar 9 10 (waCons (wFn W__law_of (waCons (wVarD 2) (waCons (wVarD 5) waNil))) (waCons (wFn W__law_of (waCons (wVarD 2) (waCons (wVarD 5) waNil))) waNil))) (wSeq (wIfS (wTst (w2 fGt (wFn W__law_draw (waCons (wVarD 2) (waCons (wC (.int 4)) waNil))) (wC (.int 0)))) (wSetD 10 (wTup (waCons (w2 fIx (wVar 9) (wC (.int 0))) (waCons (wFn W__law_of (waCons (wVarD 2) (waCons (wFn W__law_class (waCons (wVarD 4) (waCons (w2 fIx (wVar 9) (wC (.int 1))) waNil))) waNil))) waNil)))) wNil) (wSeq (wIfS (wtOr (wtNot (wTst (wFn W__law_pair_right (waCons (wVarD 3) (waCons (wVarD 4) (waCons (wVarD 9) (waCons (wVarD 10) waNil))))))) (wtNot (wTst (wFn W__law_pair_right (waCons (wVarD 3) (waCons (wVarD 4) (waCons (wVarD 9) (waCons (wVarD 9) waNil)))))))) (wRet (wC (.bool false))) wNil) (wSeq (wIfS (wtNot (wTst (wFn W__law_pair_right (waCons (wVarD 3) (waCons (wVarD 4) (waCons (wVarD 9) (waCons (wFn W_least_way (waCons (wVarD 3) (waCons (wVarD 4) (waCons (wVarD 9) waNil)))) waNil))))))) (wRet (wC (.bool false))) wNil) (wSeq (wOw [11, 12] (woDat (w2 fIx (wVar 9) (wC (.int 1))) (woLst (wLst waNil) woNil))) (wSeq (wFor (wiR1 (wFn W__law_draw (waCons (wVarD 2) (waCons (wC (.int 5)) waNil)))) (bName 7) (wSeq (wSetD 13 (wFn W__law_near (waCons (wVarD 4) (waCons (wVarD 11) waNil)))) (wIfS (wTst (w2 (fEq true) (wVar 13) (wfD (wLst waNil)))) (wSeq (wUnp (bTup (bCons (bName 11) (bCons (bName 14) bNil))) (wFn W__law_of (waCons (wVarD 2) (waCons (wVarD 13) waNil)))) (wApp 12 (wVarD 14))) wNil))) (wIfS (wtNot (wTst (wFn W__law_like (waCons (wFn W_stepped (waCons (wVarD 3) (waCons (wVarD 4) (waCons (wVarD 9) (waCons (wCall fTupOf (waCons (wVar 12) waNil)) waNil))))) (waCons (wTup (waCons (w2 fIx (wVar 9) (wC (.int 0))) (waCons (wVarD 11) waNil))) waNil))))) (wRet (wC (.bool false))) wNil))))))) F [s0, s1, some (.d mD), some (.d (wbD W)), some (.d (eqD E)), some (.d (.list (A.map waD))), s6, s7, s8, s9, s10, s11, s12, s13, s14] u := by
  refine s_seq (s_parG ?_)
  walk_at "x"
  refine ⟨_, by simpa using hne, by rw [List.length_map]; omega, .inl rfl, by omega, fun d hd => ?_⟩
  obtain ⟨v, hv, rfl⟩ := List.mem_map.mp hd
  walk_at "x"
  refine ⟨_, by simpa using hne, by rw [List.length_map]; omega, .inl rfl, by omega, fun d hd => ?_⟩
  obtain ⟨w, hw, rfl⟩ := List.mem_map.mp hd
  have hv := (hA.2.1 v).mp hv
  have hw := (hA.2.1 w).mp hw
  refine ⟨_, _, rfl, ?_⟩
  walk_at "d"
  refine s_seq (turn_other hC hW hE hv hw (by omega) fun w' u9 hw' hu9 => ?_)
  walk_at "d"
  refine s_seq (s_ifF (fun Q qq => ?_) (s_nil ?_))
  · walk_at "x"
    refine ⟨W, E, v, w', hW, hC, hE, he4, hv, hw', rfl, ?_⟩
    walk_at "x"
    rw [if_neg (by decide)]
    refine ⟨W, E, v, v, hW, hC, hE, he4, hv, hv, rfl, ?_⟩
    walk_at "x"
    exact qq
  walk_at "d"
  refine s_seq (s_ifF (fun Q qq => ?_) (s_nil ?_))
  · walk_at "x"
    refine ⟨W, E, v, hW, hC, hE, hv, rfl, fun z hz => ?_⟩
    walk_at "x"
    refine ⟨W, E, v, ⟨v.x, z⟩, hW, hC, hE, he4, hv, (rc_way (x := v.x) (l := v.l) hE hz.1 hv).1, rfl, ?_⟩
    walk_at "x"
    exact qq
  walk_at "d"
  refine s_seq ?_
  simp only [wOw, woDat, woLst, woNil, wLst, waNil]
  walk_at "x"
  refine ⟨by simp, rfl, ?_⟩
  dsimp only [setRs]
  walk_at "d"
  refine s_seq (turn_walks (u := u9) hW hE hv (by omega) fun z T u10 t7 t13 t14 hz hT hl hu10 => ?_)
  walk_at "d"
  refine s_ifF (fun Q qq => ?_) (s_nil (h _ _ _ _ _ _ _ _ (by omega)))
  walk_at "x"
  refine ⟨W, E, v, T, z, hW, hC, hE, hv, hT, by omega, rfl, ?_⟩
  walk_at "x"
  refine like_same rfl ((ro_wa hW hz).mono (by omega) (by omega)).ok ?_
  walk_at "x"
  exact qq

theorem ob_law : ∀ u ds Qd, W_law u ds Qd → ds.length = 1 ∧ w_law { nx := fun _ u' => Qd .none u', rt := Qd } (startR ["script", "k", "m", "web", "equals", "some", "turn", "step", "way", "one", "other", "word", "steps", "near", "later"] ds) u := by
  rintro u ds Qd ⟨ns, rfl, hns, hu, q⟩
  refine ⟨rfl, ?_⟩
  simp only [w_law]; walk_at "s"
  refine s_seq (s_forG ?_)
  walk_at "x"
  refine fLen_scr ?_
  simp only [fMin2, fMax2]
  obtain ⟨k, hk, k4⟩ := turns ns.length 2 4
  have hk' : (if (if (4 : Int) < (ns.length : Int) then (4 : Int) else (ns.length : Int)) > 2 then (if (4 : Int) < (ns.length : Int) then (4 : Int) else (ns.length : Int)) else 2) = (k : Int) := hk
  have k4 : k ≤ 4 := by omega
  rw [hk']
  walk_at "x"
  let J : Nat → Rho → Nat → Prop := fun i ρ u' => u' ≤ u + 1200 * i ∧ ∃ s1 s2 s3 s4 s5 s6 s7 s8 s9 s10 s11 s12 s13 s14 : Option SV, ρ = [some (.d (sD ns)), s1, s2, s3, s4, s5, s6, s7, s8, s9, s10, s11, s12, s13, s14]
  refine wLoop_inv _ J ?_ ?_ _ _ ⟨by omega, _, _, _, _, _, _, _, _, _, _, _, _, _, _, rfl⟩
  · rintro i x ρ u' F' hx ⟨hu', s1, s2, s3, s4, s5, s6, s7, s8, s9, s10, s11, s12, s13, s14, rfl⟩ n1 n2 n3 n4 n5
    rw [List.getElem?_map] at hx
    obtain ⟨y, hy, rfl⟩ := Option.map_eq_some_iff.mp hx
    obtain ⟨hi, ey⟩ := List.getElem?_eq_some_iff.mp hy
    rw [List.length_range] at hi
    rw [List.getElem_range] at ey
    subst ey
    have hi4 : 1200 * i ≤ 1200 * 4 := Nat.mul_le_mul_left _ (by omega)
    refine ⟨_, rfl, ?_⟩
    walk_at "d"
    refine s_seq (s_setG ?_)
    walk_at "x"
    refine ⟨ns, i, rfl, by omega, by omega, hns, ?_⟩
    walk_at "d"
    refine s_seq (s_setG ?_)
    walk_at "x"
    refine ⟨rfl, by omega, fun W u2 hW hC60 hu2 => ?_⟩
    have hC : Cnt W 200 := hC60.mono (by omega)
    walk_at "d"
    refine s_seq (s_setG ?_)
    walk_at "x"
    refine ⟨W, hW, hC60, rfl, by omega, fun E u3 hE he4 hu3 => ?_⟩
    walk_at "d"
    refine s_seq (s_setG ?_)
    walk_at "x"
    refine ⟨W, hW, rfl, fun A nd way comp len pw => ?_⟩
    have a60 := hC60 A nd way
    have hA : Every W A := ⟨nd, fun w => ⟨way w, (comp.resolve_right (by omega)) w⟩, pw⟩
    clear comp len
    walk_at "x"
    refine c_map (f := fun w => waD w) (by omega) (fun w hw => ⟨_, rfl, by walk_at "r"⟩) ?_
    walk_at "d"
    have main : ∀ (c : Nat), (c = 0 ∨ A ≠ []) → c ≤ 4 → wLoop (bName 6) (wSeq (wPar 9 10 (waCons (wFn W__law_of (waCons (wVarD 2) (waCons (wVarD 5) waNil))) (waCons (wFn W__law_of (waCons (wVarD 2) (waCons (wVarD 5) waNil))) waNil))) (wSeq (wIfS (wTst (w2 fGt (wFn W__law_draw (waCons (wVarD 2) (waCons (wC (.int 4)) waNil))) (wC (.int 0)))) (wSetD 10 (wTup (waCons (w2 fIx (wVar 9) (wC (.int 0))) (waCons (wFn W__law_of (waCons (wVarD 2) (waCons (wFn W__law_class (waCons (wVarD 4) (waCons (w2 fIx (wVar 9) (wC (.int 1))) waNil))) waNil))) waNil)))) wNil) (wSeq (wIfS (wtOr (wtNot (wTst (wFn W__law_pair_right (waCons (wVarD 3) (waCons (wVarD 4) (waCons (wVarD 9) (waCons (wVarD 10) waNil))))))) (wtNot (wTst (wFn W__law_pair_right (waCons (wVarD 3) (waCons (wVarD 4) (waCons (wVarD 9) (waCons (wVarD 9) waNil)))))))) (wRet (wC (.bool false))) wNil) (wSeq (wIfS (wtNot (wTst (wFn W__law_pair_right (waCons (wVarD 3) (waCons (wVarD 4) (waCons (wVarD 9) (waCons (wFn W_least_way (waCons (wVarD 3) (waCons (wVarD 4) (waCons (wVarD 9) waNil)))) waNil))))))) (wRet (wC (.bool false))) wNil) (wSeq (wOw [11, 12] (woDat (w2 fIx (wVar 9) (wC (.int 1))) (woLst (wLst waNil) woNil))) (wSeq (wFor (wiR1 (wFn W__law_draw (waCons (wVarD 2) (waCons (wC (.int 5)) waNil)))) (bName 7) (wSeq (wSetD 13 (wFn W__law_near (waCons (wVarD 4) (waCons (wVarD 11) waNil)))) (wIfS (wTst (w2 (fEq true) (wVar 13) (wfD (wLst waNil)))) (wSeq (wUnp (bTup (bCons (bName 11) (bCons (bName 14) bNil))) (wFn W__law_of (waCons (wVarD 2) (waCons (wVarD 13) waNil)))) (wApp 12 (wVarD 14))) wNil))) (wIfS (wtNot (wTst (wFn W__law_like (waCons (wFn W_stepped (waCons (wVarD 3) (waCons (wVarD 4) (waCons (wVarD 9) (waCons (wCall fTupOf (waCons (wVar 12) waNil)) waNil))))) (waCons (wTup (waCons (w2 fIx (wVar 9) (wC (.int 0))) (waCons (wVarD 11) waNil))) waNil))))) (wRet (wC (.bool false))) wNil))))))) F' ((List.range c).map fun i => .int (i : Nat)) [some (.d (sD ns)), some (.d (.int (i : Nat))), some (.d mD), some (.d (wbD W)), some (.d (eqD E)), some (.d (.list (A.map waD))), s6, s7, s8, s9, s10, s11, s12, s13, s14] u3 := fun c hc c4 => by
      let I4 : Nat → Rho → Nat → Prop := fun j ρ u' => u' ≤ u3 + 10 * j ∧ ∃ s6 s7 s9 s10 s11 s12 s13 s14 : Option SV, ρ = [some (.d (sD ns)), some (.d (.int (i : Nat))), some (.d mD), some (.d (wbD W)), some (.d (eqD E)), some (.d (.list (A.map waD))), s6, s7, s8, s9, s10, s11, s12, s13, s14]
      refine wLoop_inv (body := (wSeq (wPar 9 10 (waCons (wFn W__law_of (waCons (wVarD 2) (waCons (wVarD 5) waNil))) (waCons (wFn W__law_of (waCons (wVarD 2) (waCons (wVarD 5) waNil))) waNil))) (wSeq (wIfS (wTst (w2 fGt (wFn W__law_draw (waCons (wVarD 2) (waCons (wC (.int 4)) waNil))) (wC (.int 0)))) (wSetD 10 (wTup (waCons (w2 fIx (wVar 9) (wC (.int 0))) (waCons (wFn W__law_of (waCons (wVarD 2) (waCons (wFn W__law_class (waCons (wVarD 4) (waCons (w2 fIx (wVar 9) (wC (.int 1))) waNil))) waNil))) waNil)))) wNil) (wSeq (wIfS (wtOr (wtNot (wTst (wFn W__law_pair_right (waCons (wVarD 3) (waCons (wVarD 4) (waCons (wVarD 9) (waCons (wVarD 10) waNil))))))) (wtNot (wTst (wFn W__law_pair_right (waCons (wVarD 3) (waCons (wVarD 4) (waCons (wVarD 9) (waCons (wVarD 9) waNil)))))))) (wRet (wC (.bool false))) wNil) (wSeq (wIfS (wtNot (wTst (wFn W__law_pair_right (waCons (wVarD 3) (waCons (wVarD 4) (waCons (wVarD 9) (waCons (wFn W_least_way (waCons (wVarD 3) (waCons (wVarD 4) (waCons (wVarD 9) waNil)))) waNil))))))) (wRet (wC (.bool false))) wNil) (wSeq (wOw [11, 12] (woDat (w2 fIx (wVar 9) (wC (.int 1))) (woLst (wLst waNil) woNil))) (wSeq (wFor (wiR1 (wFn W__law_draw (waCons (wVarD 2) (waCons (wC (.int 5)) waNil)))) (bName 7) (wSeq (wSetD 13 (wFn W__law_near (waCons (wVarD 4) (waCons (wVarD 11) waNil)))) (wIfS (wTst (w2 (fEq true) (wVar 13) (wfD (wLst waNil)))) (wSeq (wUnp (bTup (bCons (bName 11) (bCons (bName 14) bNil))) (wFn W__law_of (waCons (wVarD 2) (waCons (wVarD 13) waNil)))) (wApp 12 (wVarD 14))) wNil))) (wIfS (wtNot (wTst (wFn W__law_like (waCons (wFn W_stepped (waCons (wVarD 3) (waCons (wVarD 4) (waCons (wVarD 9) (waCons (wCall fTupOf (waCons (wVar 12) waNil)) waNil))))) (waCons (wTup (waCons (w2 fIx (wVar 9) (wC (.int 0))) (waCons (wVarD 11) waNil))) waNil))))) (wRet (wC (.bool false))) wNil)))))))) _ I4 ?_ ?_ _ _ ⟨by omega, _, _, _, _, _, _, _, _, rfl⟩
      · rintro j x ρ u7 F2 hx ⟨hu7, s6, s7, s9, s10, s11, s12, s13, s14, rfl⟩ m1 m2 m3 m4 m5
        have hj : j < c := by simpa using (List.getElem?_eq_some_iff.mp hx).1
        have hne : A ≠ [] := hc.resolve_left (by omega)
        refine ⟨_, rfl, ?_⟩
        walk_at "d"
        exact turn_all hW hC hE he4 hA hne a60 (by omega) fun u9 t7 t9 t10 t11 t12 t13 t14 hu9 => m1 _ _ ⟨by omega, _, _, _, _, _, _, _, _, rfl⟩
      · rintro ρ u7 ⟨hu7, s6, s7, s9, s10, s11, s12, s13, s14, rfl⟩
        rw [List.length_map, List.length_range] at hu7
        exact n1 _ _ ⟨by rw [Nat.mul_add]; omega, _, _, _, _, _, _, _, _, _, _, _, _, _, _, rfl⟩
    refine s_forG ?_
    walk_at "x"
    by_cases h : A = []
    · rw [decide_eq_true h]
      simp only [Bool.not_true, Bool.false_eq_true, if_false]
      refine ⟨(big_nat (n := 0) (by omega)).2, ?_⟩
      exact main 0 (.inl rfl) (by omega)
    · rw [decide_eq_false h]
      simp only [Bool.not_false, if_true]
      refine ⟨(big_nat (n := 4) (by omega)).2, ?_⟩
      rw [show rgD 0 4 = (List.range 4).map fun i => (.int (i : Nat) : D) from rgD_map (n := 4)]
      exact main 4 (.inr h) (by omega)
  · rintro ρ u' ⟨hu', s1, s2, s3, s4, s5, s6, s7, s8, s9, s10, s11, s12, s13, s14, rfl⟩
    walk_at "d"
    exact s_ret (by walk_at "e") (q _)
end K02

set_option Elab.async false
set_option linter.all false
set_option maxRecDepth 100000
set_option maxHeartbeats 4000000
namespace K02
open PySem PySem.Spec PyProof.Rows L2 DW WLD
theorem ob_law_draw : ∀ u ds Qd, W__law_draw u ds Qd → ds.length = 2 ∧ w__law_draw { nx := fun _ u' => Qd .none u', rt := Qd } (startR ["m", "bound", "spot", "cell", "blend", "found", "cells", "extra"] ds) u := by
  rintro u ds Qd ⟨b, rfl, b0, b1, hu, q⟩
  refine ⟨rfl, ?_⟩
  simp only [w__law_draw, startR]
  simp only [wSeq, wIfS, wTst, w2, wMLeft, wMSpot, wMSeed, wMCells, wC, wSetD, wVar, wPutLeft, wPutSpot, wPar, waCons, waNil, wRet, wNil, wCall]
  simp [-fIx, -fLen, fLen_list]
  intro l hl
  by_cases h : 0 < l
  · rw [if_pos h]
    intro l2 h2
    refine ⟨b0, fun l3 h3 => ⟨⟨b0, b1⟩, Int.ediv_nonneg h3 (by omega), q _ (Int.emod_nonneg _ (by omega)) (Int.emod_lt_of_pos _ b0)⟩⟩
  · rw [if_neg h]
    intro p p0 p1
    refine ⟨by omega, p1, ?_⟩
    intro cells hc s s0 s1
    refine ⟨.inr ⟨by omega, by omega⟩, _, _, ⟨rfl, rfl⟩, ?_⟩
    simp [-fIx, -fLen, fLen_list]
    have hl : 0 < cells.length := List.length_pos_iff.mpr hc
    refine ⟨hl, ?_⟩
    refine fIx_ints (Int.emod_nonneg _ (by omega)) (Int.emod_lt_of_pos _ (by omega)) fun j => ?_
    simp
    refine ⟨.inr ⟨by omega, by omega⟩, ⟨by omega, by omega⟩, fun l2 h2 h3 => ⟨⟨by decide, by decide⟩, b0, q _ (Int.emod_nonneg _ (by omega)) (Int.emod_lt_of_pos _ b0)⟩⟩
theorem ob_law_like : ∀ u ds Qd, W__law_like u ds Qd → ds.length = 2 ∧ w__law_like { nx := fun _ u' => Qd .none u', rt := Qd } (startR ["got", "due"] ds) u := by
  rintro u ds Qd ⟨a, b, rfl, ha, hb, q⟩
  refine ⟨rfl, ?_⟩
  simp only [w__law_like, startR]
  simp only [wRet, w2, wVar, waCons, wCall, waNil, SV.val, fRepr]
  refine ⟨_, rfl, rfl, a, rfl, ha, _, rfl, rfl, b, rfl, hb, ?_⟩
  exact q
theorem ob_law_begun : ∀ u ds Qd, W__law_begun u ds Qd → ds.length = 2 ∧ w__law_begun { nx := fun _ u' => Qd .none u', rt := Qd } (startR ["script", "k", "cells", "great", "seed", "cell"] ds) u := by
  rintro u ds Qd ⟨ns, k, rfl, k0, k1, hn, q⟩
  refine ⟨rfl, ?_⟩
  simp only [w__law_begun, startR]
  obtain ⟨c1, e1, l1, _⟩ := cutD_map (fun i => (.int i : D)) ns (some k) none
  obtain ⟨c2, e2, l2, _⟩ := cutD_map (fun i => (.int i : D)) ns none (some k)
  simp only [wSeq, wSetD, w2, wSlS, wVarD, woS, woN]
  refine ⟨_, rfl, _, rfl, k, rfl, ns, rfl, _, rfl, _, rfl, k, rfl, ns, rfl, ?_⟩
  rw [e1, e2]
  simp only [fAdd, List.length_map, ← List.map_append]
  refine ⟨by omega, ?_⟩
  generalize hcs : c1 ++ c2 = cs
  have hl : cs.length ≤ 126 := by rw [← hcs, List.length_append]; omega
  simp only [wfD, wLc, wi1, wVarD, seqD, wipeR]
  refine ⟨_, rfl, by rw [List.length_map]; omega, ?_⟩
  refine wComp_filtT (fun i => (.int i : D)) (fun i => decide (10 ^ 18 ≤ i)) (fun i => .int i) cs [] u (fun x hx => ⟨_, rfl, fun u R r => ?_, fun _ u R r => ?_⟩) ?_
  · simp [CPow]
    by_cases h : (1000000000000000000 : Int) ≤ x
    · exact .inr ⟨h, by simpa [h] using r⟩
    · exact .inl ⟨by omega, by simpa [h] using r⟩
  · exact ⟨_, rfl, r⟩
  simp [-wComp, -wLoop, -fIx, -fEq]
  generalize hgs : List.filter (fun i => decide (1000000000000000000 ≤ i)) cs = gs
  have hg0 : ∀ g ∈ gs, 0 ≤ g := fun g hg => by
    rw [← hgs, List.mem_filter] at hg
    have := of_decide_eq_true hg.2
    omega
  refine wLoop_inv _ (fun i ρ u' => u' = u ∧ ∃ s s5, ρ = [some (.d (sD ns)), some (.d (.int k)), some (.d (.list (cs.map fun i => .int i))), some (.d (.list (gs.map fun i => .int i))), some (.d (.int s)), s5] ∧ 0 ≤ s ∧ s < 2147483647) ?_ ?_ _ u ⟨rfl, _, _, rfl, by omega, by omega⟩
  · rintro i x ρ u' F' hx ⟨rfl, s, s5, rfl, s0, s1⟩ n1 n2 n3 n4 n5
    rw [List.getElem?_map] at hx
    obtain ⟨y, _, rfl⟩ := Option.map_eq_some_iff.mp hx
    refine ⟨_, rfl, ?_⟩
    simp
    exact n1 _ _ ⟨rfl, _, _, rfl, by omega, by omega⟩
  · rintro ρ u' ⟨rfl, s, s5, rfl, s0, s1⟩
    have hsg : Sh 64 (.list (gs.map fun i => (.int i : D))) := (Sh.lst (n := 0) Sh.ints).mono (by omega)
    have hs0 : Sh 64 (.list ([] : List D)) := (Sh.lst (n := 0) (by simp)).mono (by omega)
    simp only [wRet, wMk, wIf, wTst, w2, wVar, wfD, wLst, waNil, SV.val]
    refine ⟨_, rfl, rfl, by simp, ?_⟩
    simp only [SV.val]
    rw [fEq_sh (p := decide (gs = [])) hsg hs0 (by simp)]
    have fin : ∀ l : Int, 0 ≤ l → Qd mD u' := fun _ _ => q
    refine ⟨_, rfl, ?_⟩
    cases gs with
    | nil =>
      simp
      exact ⟨by omega, cs ++ [53 * k + 11], by simp, s0, s1, by simp, q⟩
    | cons g gs =>
      simp [-fIx]
      rw [fIx_head]
      exact ⟨by omega, g, rfl, cs ++ [53 * k + 11], by simp, hg0 g List.mem_cons_self, s0, s1, by simp, q⟩
end K02

set_option Elab.async false
set_option linter.all false
set_option maxRecDepth 100000
set_option maxHeartbeats 4000000
namespace K02
open PySem PySem.Spec PyProof.Rows L2 DW WLD
def chP : Nat → List (Nat × Nat)
  | 0 => []
  | y + 1 => chP y ++ (List.range y).map fun x => (x, y)
theorem mem_chP {n : Nat} {p : Nat × Nat} : p ∈ chP n ↔ p.1 < p.2 ∧ p.2 < n := by
  induction n with
  | zero => simp [chP]
  | succ y ih =>
    unfold chP
    rw [List.mem_append, ih, List.mem_map]
    constructor
    · rintro (⟨a, b⟩ | ⟨x, hx, rfl⟩)
      · exact ⟨a, by omega⟩
      · exact ⟨List.mem_range.mp hx, Nat.lt_succ_self _⟩
    · rintro ⟨a, b⟩
      by_cases h : p.2 = y
      · exact .inr ⟨p.1, List.mem_range.mpr (by omega), Prod.ext rfl h.symm⟩
      · exact .inl ⟨a, by omega⟩
theorem chP_nd : ∀ n, (chP n).Nodup
  | 0 => List.nodup_nil
  | y + 1 => List.nodup_append.mpr ⟨chP_nd y, List.pairwise_map.mpr (List.Pairwise.imp (fun {a b} h e => h (congrArg Prod.fst e)) List.nodup_range), fun a ha b hb e => by
    have h1 := (mem_chP.mp ha).2
    obtain ⟨x, _, rfl⟩ := List.mem_map.mp hb
    rw [e] at h1
    exact Nat.lt_irrefl _ h1⟩
theorem chP_len : ∀ n, 2 * (chP n).length = n * (n - 1)
  | 0 => rfl
  | y + 1 => by
    have ih := chP_len y
    unfold chP
    rw [List.length_append, List.length_map, List.length_range, Nat.mul_add, ih]
    cases y with
    | zero => rfl
    | succ z =>
      simp only [Nat.add_sub_cancel]
      rw [show z + 1 + 1 = z + 2 from rfl, Nat.mul_comm (z + 1) z, Nat.mul_comm (z + 2) (z + 1), ← Nat.add_mul]
      rw [Nat.mul_comm]
theorem chP_ok (n : Nat) : OrdOk n (chP n) where
  nd := chP_nd n
  lt := fun p hp => by obtain ⟨a, b⟩ := mem_chP.mp hp; exact ⟨by omega, b, by omega⟩
  tr := fun x y z h1 h2 _ => by
    have a := mem_chP.mp h1
    have b := mem_chP.mp h2
    exact mem_chP.mpr ⟨by simp only at a b ⊢; omega, b.2⟩
end K02

set_option Elab.async false
set_option linter.all false
set_option maxRecDepth 100000
set_option maxHeartbeats 4000000
namespace K02
open PySem PySem.Spec PyProof.Rows L2 DW WLD
theorem wRL_inv {i r : Nat} {b : WB} {we1 we2 we3 : WE} {rest : DE → WS} {F : DE} : ∀ (xs : List D) (I : Nat → Rho → List (List D) → Nat → Prop)
    (h : ∀ (j : Nat) (x : D) (ρ : Rho) (xss : List (List D)) (u : Nat) (R : Rho → List (List D) → Nat → Prop), xs[j]? = some x → I j ρ xss u → (∀ ρ xss u, I (j + 1) ρ xss u → R ρ xss u) →
      ∃ ρ', b x ρ = some ρ' ∧ we1 ρ' u fun d1 u1 => ∃ (a : Nat) (row : List D), d1 = .int a ∧ xss[a]? = some row ∧ we3 (ρ'.set r none) u1 fun v u2 => we2 (ρ'.set r none) u2 fun d2 u3 => ∃ c : Nat, d2 = .int c ∧ c < row.length ∧ R (ρ'.set r none) (xss.set a (row.set c v)) u3)
    (hn : ∀ ρ xss u, I xs.length ρ xss u → rest F F (ρ.set i (some (.d (.list (xss.map .list))))) u) (ρ : Rho) (xss : List (List D)) (u : Nat), I 0 ρ xss u → wRL i r b we1 we2 we3 rest F xs ρ xss u
  | [], I, h, hn, ρ, xss, u, i0 => hn ρ xss u i0
  | x :: xs, I, h, hn, ρ, xss, u, i0 =>
    h 0 x ρ xss u (wRL i r b we1 we2 we3 rest F xs) rfl i0 fun ρ xss u i1 =>
      wRL_inv xs (fun j => I (j + 1)) (fun j y ρ xss u R e ii k => h (j + 1) y ρ xss u R (by simpa using e) ii k) (fun ρ xss u q => hn ρ xss u (by simpa using q)) ρ xss u i1
end K02

set_option Elab.async false
set_option linter.all false
set_option maxRecDepth 100000
set_option maxHeartbeats 4000000
namespace K02
open PySem PySem.Spec PyProof.Rows L2 DW
section
variable {P : Program} {w : World} {K : PySem.W.Frag} {mg : Str → Option Value} {base : Heap}
theorem all_fns (T : Txt K mg) : FnG P w K mg base 6 T.f_law T.fd_law ["script"] (spD K W_law) := by
  have G_is_number : FnOk P w K mg base CX0 1 T.f_is_number T.fd_is_number ["value", "low", "high"] (spD K W_is_number) := fnD T.F_is_number sc_is_number (der_is_number T ) (ob_is_number)
  have G_is_row : FnOk P w K mg base CX0 1 T.f_is_row T.fd_is_row ["value", "many"] (spD K W_is_row) := fnD T.F_is_row sc_is_row (der_is_row T ) (ob_is_row)
  have G_replaced : FnOk P w K mg base CX0 1 T.f_replaced T.fd_replaced ["word", "place", "old", "new"] (spD K W_replaced) := fnD T.F_replaced sc_replaced (der_replaced T ) (ob_replaced)
  have G_put_together : FnOk P w K mg base CX0 1 T.f_put_together T.fd_put_together ["least", "one", "other"] (spD K W_put_together) := fnD T.F_put_together sc_put_together (der_put_together T ) (ob_put_together)
  have G_end_of : FnOk P w K mg base CX0 1 T.f_end_of T.fd_end_of ["web", "way"] (spD K W_end_of) := fnD T.F_end_of sc_end_of (der_end_of T ) (ob_end_of)
  have G__law_begun : FnOk P w K mg base CX0 1 T.f__law_begun T.fd__law_begun ["script", "k"] (spD K W__law_begun) := fnD T.F__law_begun sc__law_begun (der__law_begun T ) (ob_law_begun)
  have G__law_draw : FnOk P w K mg base CX0 1 T.f__law_draw T.fd__law_draw ["m", "bound"] (spD K W__law_draw) := fnD T.F__law_draw sc__law_draw (der__law_draw T ) (ob_law_draw)
  have G__law_like : FnG P w K mg base 1 T.f__law_like T.fd__law_like ["got", "due"] (spD K W__law_like) := fnDG T.F__law_like sc__law_like (der__law_like T ) (ob_law_like)
  have G__law_ways : FnOk P w K mg base CX0 1 T.f__law_ways T.fd__law_ways ["web"] (spD K W__law_ways) := fnD T.F__law_ways sc__law_ways (der__law_ways T ) (ob_law_ways)
  have G__law_near : FnOk P w K mg base CX0 1 T.f__law_near T.fd__law_near ["equals", "word"] (spD K W__law_near) := fnD T.F__law_near sc__law_near (der__law_near T ) (ob_law_near)
  have G_steps_from : FnOk P w K mg base CX0 2 T.f_steps_from T.fd_steps_from ["equals", "word"] (spD K W_steps_from) := fnD T.F_steps_from sc_steps_from (der_steps_from T G_replaced) (ob_steps_from)
  have G_gone_on : FnOk P w K mg base CX0 2 T.f_gone_on T.fd_gone_on ["web", "way"] (spD K W_gone_on) := fnD T.F_gone_on sc_gone_on (der_gone_on T G_end_of) (ob_gone_on)
  have G_word_behind : FnOk P w K mg base CX0 2 T.f_word_behind T.fd_word_behind ["equals", "word", "step"] (spD K W_word_behind) := fnD T.F_word_behind sc_word_behind (der_word_behind T G_is_number G_is_row G_replaced) (ob_word_behind)
  have G__law_of : FnOk P w K mg base CX0 2 T.f__law_of T.fd__law_of ["m", "some"] (spD K W__law_of) := fnD T.F__law_of sc__law_of (der__law_of T G__law_draw) (ob_law_of)
  have G__law_web : FnOk P w K mg base CX0 2 T.f__law_web T.fd__law_web ["m", "size", "most"] (spD K W__law_web) := fnD T.F__law_web sc__law_web (der__law_web T G__law_draw) (ob_law_web)
  have G__law_class : FnOk P w K mg base CX0 2 T.f__law_class T.fd__law_class ["equals", "word"] (spD K W__law_class) := fnD T.F__law_class sc__law_class (der__law_class T G__law_near) (ob_law_class)
  have G__law_done : FnG P w K mg base 2 T.f__law_done T.fd__law_done ["equals", "word", "steps"] (spD K W__law_done) := fnDG T.F__law_done sc__law_done (der__law_done T G__law_like G__law_near) (ob_law_done)
  have G_ways : FnOk P w K mg base CX0 3 T.f_ways T.fd_ways ["web"] (spD K W_ways) := fnD T.F_ways sc_ways (der_ways T G_end_of G_gone_on) (ob_ways)
  have G_origins : FnOk P w K mg base CX0 3 T.f_origins T.fd_origins ["equals", "start"] (spD K W_origins) := fnD T.F_origins sc_origins (der_origins T G_steps_from) (ob_origins)
  have G__law_small_web : FnOk P w K mg base CX0 3 T.f__law_small_web T.fd__law_small_web ["m", "size", "most", "limit"] (spD K W__law_small_web) := fnD T.F__law_small_web sc__law_small_web (der__law_small_web T G__law_ways G__law_web) (ob_law_small_web)
  have G__law_equals : FnOk P w K mg base CX0 3 T.f__law_equals T.fd__law_equals ["m", "web", "most"] (spD K W__law_equals) := fnD T.F__law_equals sc__law_equals (der__law_equals T G__law_draw G__law_of G__law_ways) (ob_law_equals)
  have G_least_ways : FnOk P w K mg base CX0 4 T.f_least_ways T.fd_least_ways ["web", "equals"] (spD K W_least_ways) := fnD T.F_least_ways sc_least_ways (der_least_ways T G_put_together G_steps_from G_ways) (ob_least_ways)
  have G_way_steps : FnOk P w K mg base CX0 4 T.f_way_steps T.fd_way_steps ["web", "equals", "one", "other"] (spD K W_way_steps) := fnD T.F_way_steps sc_way_steps (der_way_steps T G_origins G_ways) (ob_way_steps)
  have G_stepped : FnOk P w K mg base CX0 4 T.f_stepped T.fd_stepped ["web", "equals", "way", "steps"] (spD K W_stepped) := fnD T.F_stepped sc_stepped (der_stepped T G_ways G_word_behind) (ob_stepped)
  have G_least_way : FnOk P w K mg base CX0 5 T.f_least_way T.fd_least_way ["web", "equals", "way"] (spD K W_least_way) := fnD T.F_least_way sc_least_way (der_least_way T G_least_ways) (ob_least_way)
  have G__law_pair_right : FnG P w K mg base 5 T.f__law_pair_right T.fd__law_pair_right ["web", "equals", "one", "other"] (spD K W__law_pair_right) := fnDG T.F__law_pair_right sc__law_pair_right (der__law_pair_right T G__law_class G__law_done G__law_like G_stepped G_way_steps) (ob_law_pair_right)
  have G_law : FnG P w K mg base 6 T.f_law T.fd_law ["script"] (spD K W_law) := fnDG T.F_law sc_law (der_law T G__law_begun G__law_class G__law_draw G__law_equals G__law_like G__law_near G__law_of G__law_pair_right G__law_small_web G__law_ways G_least_way G_stepped) (ob_law)
  exact G_law
end
theorem all_mk {l : PySem.W.OpenLaw} {w : World} {K : PySem.W.Frag} {h : Heap} {mg : Str → Option Value} {fa : Addr} (X : K.In h) (G : h.Ns mainGlobals mg) (hfa : mg "law" = some (.ref fa))
    {f0 f1 f2 f3 f4 f5 f6 f7 f8 f9 f10 f11 f12 f13 f14 f15 f16 f17 f18 f19 f20 f21 f22 f23 f24 f25 f26 : Addr} {od0 an0 od1 an1 od2 an2 od3 an3 od4 an4 od5 an5 od6 an6 od7 an7 od8 an8 od9 an9 od10 an10 od11 an11 od12 an12 od13 an13 od14 an14 od15 an15 od16 an16 od17 an17 od18 an18 od19 an19 od20 an20 od21 an21 od22 an22 od23 an23 od24 an24 od25 an25 od26 an26 : Option Addr} {sl0 sl1 sl2 sl3 sl4 sl5 sl6 sl7 sl8 sl9 sl10 sl11 sl12 sl13 sl14 sl15 sl16 sl17 sl18 sl19 sl20 sl21 sl22 sl23 sl24 sl25 sl26 : Array (Option Value)} {oc0 kV0 dc0 pm0 cd0 ct0 oc1 kV1 dc1 pm1 cd1 ct1 oc2 kV2 dc2 pm2 cd2 ct2 oc3 kV3 dc3 pm3 cd3 ct3 oc4 kV4 dc4 pm4 cd4 ct4 oc5 kV5 dc5 pm5 cd5 ct5 oc6 kV6 dc6 pm6 cd6 ct6 oc7 kV7 dc7 pm7 cd7 ct7 oc8 kV8 dc8 pm8 cd8 ct8 oc9 kV9 dc9 pm9 cd9 ct9 oc10 kV10 dc10 pm10 cd10 ct10 oc11 kV11 dc11 pm11 cd11 ct11 oc12 kV12 dc12 pm12 cd12 ct12 oc13 kV13 dc13 pm13 cd13 ct13 oc14 kV14 dc14 pm14 cd14 ct14 oc15 kV15 dc15 pm15 cd15 ct15 oc16 kV16 dc16 pm16 cd16 ct16 oc17 kV17 dc17 pm17 cd17 ct17 oc18 kV18 dc18 pm18 cd18 ct18 oc19 kV19 dc19 pm19 cd19 ct19 oc20 kV20 dc20 pm20 cd20 ct20 oc21 kV21 dc21 pm21 cd21 ct21 oc22 kV22 dc22 pm22 cd22 ct22 oc23 kV23 dc23 pm23 cd23 ct23 oc24 kV24 dc24 pm24 cd24 ct24 oc25 kV25 dc25 pm25 cd25 ct25 oc26 kV26 dc26 pm26 cd26 ct26 : Value} {t0 : Tok} 
    (a0 : PySem.W.nsIn K mainGlobals "is_number" = some (some (.ref f0)))
    (l0 : K.lookup f0 = some ⟨oc0, od0, .func (PySem.W.fnOf "is_number" "is_number" (defArgs s_is_number) (defBody s_is_number) (defScope s_is_number) .none kV0 dc0 pm0 an0 cd0 ct0), sl0⟩)
    (c0 : PySem.W.codeIn K cd0 "is_number" = true)
    (k0 : PySem.W.keepIn K (.ref f0) = true)
    (a1 : PySem.W.nsIn K mainGlobals "is_row" = some (some (.ref f1)))
    (l1 : K.lookup f1 = some ⟨oc1, od1, .func (PySem.W.fnOf "is_row" "is_row" (defArgs s_is_row) (defBody s_is_row) (defScope s_is_row) .none kV1 dc1 pm1 an1 cd1 ct1), sl1⟩)
    (c1 : PySem.W.codeIn K cd1 "is_row" = true)
    (k1 : PySem.W.keepIn K (.ref f1) = true)
    (a2 : PySem.W.nsIn K mainGlobals "replaced" = some (some (.ref f2)))
    (l2 : K.lookup f2 = some ⟨oc2, od2, .func (PySem.W.fnOf "replaced" "replaced" (defArgs s_replaced) (defBody s_replaced) (defScope s_replaced) .none kV2 dc2 pm2 an2 cd2 ct2), sl2⟩)
    (c2 : PySem.W.codeIn K cd2 "replaced" = true)
    (k2 : PySem.W.keepIn K (.ref f2) = true)
    (a3 : PySem.W.nsIn K mainGlobals "steps_from" = some (some (.ref f3)))
    (l3 : K.lookup f3 = some ⟨oc3, od3, .func (PySem.W.fnOf "steps_from" "steps_from" (defArgs s_steps_from) (defBody s_steps_from) (defScope s_steps_from) .none kV3 dc3 pm3 an3 cd3 ct3), sl3⟩)
    (c3 : PySem.W.codeIn K cd3 "steps_from" = true)
    (k3 : PySem.W.keepIn K (.ref f3) = true)
    (a4 : PySem.W.nsIn K mainGlobals "put_together" = some (some (.ref f4)))
    (l4 : K.lookup f4 = some ⟨oc4, od4, .func (PySem.W.fnOf "put_together" "put_together" (defArgs s_put_together) (defBody s_put_together) (defScope s_put_together) .none kV4 dc4 pm4 an4 cd4 ct4), sl4⟩)
    (c4 : PySem.W.codeIn K cd4 "put_together" = true)
    (k4 : PySem.W.keepIn K (.ref f4) = true)
    (a5 : PySem.W.nsIn K mainGlobals "end_of" = some (some (.ref f5)))
    (l5 : K.lookup f5 = some ⟨oc5, od5, .func (PySem.W.fnOf "end_of" "end_of" (defArgs s_end_of) (defBody s_end_of) (defScope s_end_of) .none kV5 dc5 pm5 an5 cd5 ct5), sl5⟩)
    (c5 : PySem.W.codeIn K cd5 "end_of" = true)
    (k5 : PySem.W.keepIn K (.ref f5) = true)
    (a6 : PySem.W.nsIn K mainGlobals "gone_on" = some (some (.ref f6)))
    (l6 : K.lookup f6 = some ⟨oc6, od6, .func (PySem.W.fnOf "gone_on" "gone_on" (defArgs s_gone_on) (defBody s_gone_on) (defScope s_gone_on) .none kV6 dc6 pm6 an6 cd6 ct6), sl6⟩)
    (c6 : PySem.W.codeIn K cd6 "gone_on" = true)
    (k6 : PySem.W.keepIn K (.ref f6) = true)
    (a7 : PySem.W.nsIn K mainGlobals "ways" = some (some (.ref f7)))
    (l7 : K.lookup f7 = some ⟨oc7, od7, .func (PySem.W.fnOf "ways" "ways" (defArgs s_ways) (defBody s_ways) (defScope s_ways) .none kV7 dc7 pm7 an7 cd7 ct7), sl7⟩)
    (c7 : PySem.W.codeIn K cd7 "ways" = true)
    (k7 : PySem.W.keepIn K (.ref f7) = true)
    (a8 : PySem.W.nsIn K mainGlobals "least_ways" = some (some (.ref f8)))
    (l8 : K.lookup f8 = some ⟨oc8, od8, .func (PySem.W.fnOf "least_ways" "least_ways" (defArgs s_least_ways) (defBody s_least_ways) (defScope s_least_ways) .none kV8 dc8 pm8 an8 cd8 ct8), sl8⟩)
    (c8 : PySem.W.codeIn K cd8 "least_ways" = true)
    (k8 : PySem.W.keepIn K (.ref f8) = true)
    (a9 : PySem.W.nsIn K mainGlobals "least_way" = some (some (.ref f9)))
    (l9 : K.lookup f9 = some ⟨oc9, od9, .func (PySem.W.fnOf "least_way" "least_way" (defArgs s_least_way) (defBody s_least_way) (defScope s_least_way) .none kV9 dc9 pm9 an9 cd9 ct9), sl9⟩)
    (c9 : PySem.W.codeIn K cd9 "least_way" = true)
    (k9 : PySem.W.keepIn K (.ref f9) = true)
    (a10 : PySem.W.nsIn K mainGlobals "origins" = some (some (.ref f10)))
    (l10 : K.lookup f10 = some ⟨oc10, od10, .func (PySem.W.fnOf "origins" "origins" (defArgs s_origins) (defBody s_origins) (defScope s_origins) .none kV10 dc10 pm10 an10 cd10 ct10), sl10⟩)
    (c10 : PySem.W.codeIn K cd10 "origins" = true)
    (k10 : PySem.W.keepIn K (.ref f10) = true)
    (a11 : PySem.W.nsIn K mainGlobals "way_steps" = some (some (.ref f11)))
    (l11 : K.lookup f11 = some ⟨oc11, od11, .func (PySem.W.fnOf "way_steps" "way_steps" (defArgs s_way_steps) (defBody s_way_steps) (defScope s_way_steps) .none kV11 dc11 pm11 an11 cd11 ct11), sl11⟩)
    (c11 : PySem.W.codeIn K cd11 "way_steps" = true)
    (k11 : PySem.W.keepIn K (.ref f11) = true)
    (a12 : PySem.W.nsIn K mainGlobals "word_behind" = some (some (.ref f12)))
    (l12 : K.lookup f12 = some ⟨oc12, od12, .func (PySem.W.fnOf "word_behind" "word_behind" (defArgs s_word_behind) (defBody s_word_behind) (defScope s_word_behind) .none kV12 dc12 pm12 an12 cd12 ct12), sl12⟩)
    (c12 : PySem.W.codeIn K cd12 "word_behind" = true)
    (k12 : PySem.W.keepIn K (.ref f12) = true)
    (a13 : PySem.W.nsIn K mainGlobals "stepped" = some (some (.ref f13)))
    (l13 : K.lookup f13 = some ⟨oc13, od13, .func (PySem.W.fnOf "stepped" "stepped" (defArgs s_stepped) (defBody s_stepped) (defScope s_stepped) .none kV13 dc13 pm13 an13 cd13 ct13), sl13⟩)
    (c13 : PySem.W.codeIn K cd13 "stepped" = true)
    (k13 : PySem.W.keepIn K (.ref f13) = true)
    (a14 : PySem.W.nsIn K mainGlobals "_law_begun" = some (some (.ref f14)))
    (l14 : K.lookup f14 = some ⟨oc14, od14, .func (PySem.W.fnOf "_law_begun" "_law_begun" (defArgs s__law_begun) (defBody s__law_begun) (defScope s__law_begun) .none kV14 dc14 pm14 an14 cd14 ct14), sl14⟩)
    (c14 : PySem.W.codeIn K cd14 "_law_begun" = true)
    (k14 : PySem.W.keepIn K (.ref f14) = true)
    (a15 : PySem.W.nsIn K mainGlobals "_law_draw" = some (some (.ref f15)))
    (l15 : K.lookup f15 = some ⟨oc15, od15, .func (PySem.W.fnOf "_law_draw" "_law_draw" (defArgs s__law_draw) (defBody s__law_draw) (defScope s__law_draw) .none kV15 dc15 pm15 an15 cd15 ct15), sl15⟩)
    (c15 : PySem.W.codeIn K cd15 "_law_draw" = true)
    (k15 : PySem.W.keepIn K (.ref f15) = true)
    (a16 : PySem.W.nsIn K mainGlobals "_law_of" = some (some (.ref f16)))
    (l16 : K.lookup f16 = some ⟨oc16, od16, .func (PySem.W.fnOf "_law_of" "_law_of" (defArgs s__law_of) (defBody s__law_of) (defScope s__law_of) .none kV16 dc16 pm16 an16 cd16 ct16), sl16⟩)
    (c16 : PySem.W.codeIn K cd16 "_law_of" = true)
    (k16 : PySem.W.keepIn K (.ref f16) = true)
    (a17 : PySem.W.nsIn K mainGlobals "_law_like" = some (some (.ref f17)))
    (l17 : K.lookup f17 = some ⟨oc17, od17, .func (PySem.W.fnOf "_law_like" "_law_like" (defArgs s__law_like) (defBody s__law_like) (defScope s__law_like) .none kV17 dc17 pm17 an17 cd17 ct17), sl17⟩)
    (c17 : PySem.W.codeIn K cd17 "_law_like" = true)
    (k17 : PySem.W.keepIn K (.ref f17) = true)
    (a18 : PySem.W.nsIn K mainGlobals "_law_web" = some (some (.ref f18)))
    (l18 : K.lookup f18 = some ⟨oc18, od18, .func (PySem.W.fnOf "_law_web" "_law_web" (defArgs s__law_web) (defBody s__law_web) (defScope s__law_web) .none kV18 dc18 pm18 an18 cd18 ct18), sl18⟩)
    (c18 : PySem.W.codeIn K cd18 "_law_web" = true)
    (k18 : PySem.W.keepIn K (.ref f18) = true)
    (a19 : PySem.W.nsIn K mainGlobals "_law_ways" = some (some (.ref f19)))
    (l19 : K.lookup f19 = some ⟨oc19, od19, .func (PySem.W.fnOf "_law_ways" "_law_ways" (defArgs s__law_ways) (defBody s__law_ways) (defScope s__law_ways) .none kV19 dc19 pm19 an19 cd19 ct19), sl19⟩)
    (c19 : PySem.W.codeIn K cd19 "_law_ways" = true)
    (k19 : PySem.W.keepIn K (.ref f19) = true)
    (a20 : PySem.W.nsIn K mainGlobals "_law_small_web" = some (some (.ref f20)))
    (l20 : K.lookup f20 = some ⟨oc20, od20, .func (PySem.W.fnOf "_law_small_web" "_law_small_web" (defArgs s__law_small_web) (defBody s__law_small_web) (defScope s__law_small_web) .none kV20 dc20 pm20 an20 cd20 ct20), sl20⟩)
    (c20 : PySem.W.codeIn K cd20 "_law_small_web" = true)
    (k20 : PySem.W.keepIn K (.ref f20) = true)
    (a21 : PySem.W.nsIn K mainGlobals "_law_equals" = some (some (.ref f21)))
    (l21 : K.lookup f21 = some ⟨oc21, od21, .func (PySem.W.fnOf "_law_equals" "_law_equals" (defArgs s__law_equals) (defBody s__law_equals) (defScope s__law_equals) .none kV21 dc21 pm21 an21 cd21 ct21), sl21⟩)
    (c21 : PySem.W.codeIn K cd21 "_law_equals" = true)
    (k21 : PySem.W.keepIn K (.ref f21) = true)
    (a22 : PySem.W.nsIn K mainGlobals "_law_near" = some (some (.ref f22)))
    (l22 : K.lookup f22 = some ⟨oc22, od22, .func (PySem.W.fnOf "_law_near" "_law_near" (defArgs s__law_near) (defBody s__law_near) (defScope s__law_near) .none kV22 dc22 pm22 an22 cd22 ct22), sl22⟩)
    (c22 : PySem.W.codeIn K cd22 "_law_near" = true)
    (k22 : PySem.W.keepIn K (.ref f22) = true)
    (a23 : PySem.W.nsIn K mainGlobals "_law_class" = some (some (.ref f23)))
    (l23 : K.lookup f23 = some ⟨oc23, od23, .func (PySem.W.fnOf "_law_class" "_law_class" (defArgs s__law_class) (defBody s__law_class) (defScope s__law_class) .none kV23 dc23 pm23 an23 cd23 ct23), sl23⟩)
    (c23 : PySem.W.codeIn K cd23 "_law_class" = true)
    (k23 : PySem.W.keepIn K (.ref f23) = true)
    (a24 : PySem.W.nsIn K mainGlobals "_law_done" = some (some (.ref f24)))
    (l24 : K.lookup f24 = some ⟨oc24, od24, .func (PySem.W.fnOf "_law_done" "_law_done" (defArgs s__law_done) (defBody s__law_done) (defScope s__law_done) .none kV24 dc24 pm24 an24 cd24 ct24), sl24⟩)
    (c24 : PySem.W.codeIn K cd24 "_law_done" = true)
    (k24 : PySem.W.keepIn K (.ref f24) = true)
    (a25 : PySem.W.nsIn K mainGlobals "_law_pair_right" = some (some (.ref f25)))
    (l25 : K.lookup f25 = some ⟨oc25, od25, .func (PySem.W.fnOf "_law_pair_right" "_law_pair_right" (defArgs s__law_pair_right) (defBody s__law_pair_right) (defScope s__law_pair_right) .none kV25 dc25 pm25 an25 cd25 ct25), sl25⟩)
    (c25 : PySem.W.codeIn K cd25 "_law_pair_right" = true)
    (k25 : PySem.W.keepIn K (.ref f25) = true)
    (a26 : PySem.W.nsIn K mainGlobals "law" = some (some (.ref f26)))
    (l26 : K.lookup f26 = some ⟨oc26, od26, .func (PySem.W.fnOf "law" "law" (defArgs s_law) (defBody s_law) (defScope s_law) .none kV26 dc26 pm26 an26 cd26 ct26), sl26⟩)
    (c26 : PySem.W.codeIn K cd26 "law" = true)
    (k26 : PySem.W.keepIn K (.ref f26) = true)
    (v0 : PySem.W.nsIn K mainGlobals "MOST_WAYS" = some (some (.int 200 t0)))
    (z_len : PySem.W.nsIn K mainGlobals "len" = some none)
    (z_int : PySem.W.nsIn K mainGlobals "int" = some none)
    (z_tuple : PySem.W.nsIn K mainGlobals "tuple" = some none)
    (z_list : PySem.W.nsIn K mainGlobals "list" = some none)
    (z_range : PySem.W.nsIn K mainGlobals "range" = some none)
    (z_enumerate : PySem.W.nsIn K mainGlobals "enumerate" = some none)
    (z_max : PySem.W.nsIn K mainGlobals "max" = some none)
    (z_min : PySem.W.nsIn K mainGlobals "min" = some none)
    (z_repr : PySem.W.nsIn K mainGlobals "repr" = some none)
    (z_sorted : PySem.W.nsIn K mainGlobals "sorted" = some none)
    (z_isinstance : PySem.W.nsIn K mainGlobals "isinstance" = some none)
    (z_type : PySem.W.nsIn K mainGlobals "type" = some none)
    (z_reversed : PySem.W.nsIn K mainGlobals "reversed" = some none) :
    ∃ fd : FuncData, (∀ (s : Shared) (v : Value), BindsTo s fd ⟨[v], []⟩ [("script", v)]) ∧ ∀ base : Heap, K.In base → base.Ns mainGlobals mg → FnG l.prog w K mg base 6 fa fd ["script"] (spD K W_law) := by
  have e := hfa.symm.trans (PySem.W.mg_of X G a26)
  cases e
  have F0 := fun_mk (st := s_is_number) l0 c0 k0
  have b0 := F0.binds (ps := ["value", "low", "high"]) fun _ _ _ _ _ _ us hl => match us, hl with | [_, _, _], _ => rfl
  have F1 := fun_mk (st := s_is_row) l1 c1 k1
  have b1 := F1.binds (ps := ["value", "many"]) fun _ _ _ _ _ _ us hl => match us, hl with | [_, _], _ => rfl
  have F2 := fun_mk (st := s_replaced) l2 c2 k2
  have b2 := F2.binds (ps := ["word", "place", "old", "new"]) fun _ _ _ _ _ _ us hl => match us, hl with | [_, _, _, _], _ => rfl
  have F3 := fun_mk (st := s_steps_from) l3 c3 k3
  have b3 := F3.binds (ps := ["equals", "word"]) fun _ _ _ _ _ _ us hl => match us, hl with | [_, _], _ => rfl
  have F4 := fun_mk (st := s_put_together) l4 c4 k4
  have b4 := F4.binds (ps := ["least", "one", "other"]) fun _ _ _ _ _ _ us hl => match us, hl with | [_, _, _], _ => rfl
  have F5 := fun_mk (st := s_end_of) l5 c5 k5
  have b5 := F5.binds (ps := ["web", "way"]) fun _ _ _ _ _ _ us hl => match us, hl with | [_, _], _ => rfl
  have F6 := fun_mk (st := s_gone_on) l6 c6 k6
  have b6 := F6.binds (ps := ["web", "way"]) fun _ _ _ _ _ _ us hl => match us, hl with | [_, _], _ => rfl
  have F7 := fun_mk (st := s_ways) l7 c7 k7
  have b7 := F7.binds (ps := ["web"]) fun _ _ _ _ _ _ us hl => match us, hl with | [_], _ => rfl
  have F8 := fun_mk (st := s_least_ways) l8 c8 k8
  have b8 := F8.binds (ps := ["web", "equals"]) fun _ _ _ _ _ _ us hl => match us, hl with | [_, _], _ => rfl
  have F9 := fun_mk (st := s_least_way) l9 c9 k9
  have b9 := F9.binds (ps := ["web", "equals", "way"]) fun _ _ _ _ _ _ us hl => match us, hl with | [_, _, _], _ => rfl
  have F10 := fun_mk (st := s_origins) l10 c10 k10
  have b10 := F10.binds (ps := ["equals", "start"]) fun _ _ _ _ _ _ us hl => match us, hl with | [_, _], _ => rfl
  have F11 := fun_mk (st := s_way_steps) l11 c11 k11
  have b11 := F11.binds (ps := ["web", "equals", "one", "other"]) fun _ _ _ _ _ _ us hl => match us, hl with | [_, _, _, _], _ => rfl
  have F12 := fun_mk (st := s_word_behind) l12 c12 k12
  have b12 := F12.binds (ps := ["equals", "word", "step"]) fun _ _ _ _ _ _ us hl => match us, hl with | [_, _, _], _ => rfl
  have F13 := fun_mk (st := s_stepped) l13 c13 k13
  have b13 := F13.binds (ps := ["web", "equals", "way", "steps"]) fun _ _ _ _ _ _ us hl => match us, hl with | [_, _, _, _], _ => rfl
  have F14 := fun_mk (st := s__law_begun) l14 c14 k14
  have b14 := F14.binds (ps := ["script", "k"]) fun _ _ _ _ _ _ us hl => match us, hl with | [_, _], _ => rfl
  have F15 := fun_mk (st := s__law_draw) l15 c15 k15
  have b15 := F15.binds (ps := ["m", "bound"]) fun _ _ _ _ _ _ us hl => match us, hl with | [_, _], _ => rfl
  have F16 := fun_mk (st := s__law_of) l16 c16 k16
  have b16 := F16.binds (ps := ["m", "some"]) fun _ _ _ _ _ _ us hl => match us, hl with | [_, _], _ => rfl
  have F17 := fun_mk (st := s__law_like) l17 c17 k17
  have b17 := F17.binds (ps := ["got", "due"]) fun _ _ _ _ _ _ us hl => match us, hl with | [_, _], _ => rfl
  have F18 := fun_mk (st := s__law_web) l18 c18 k18
  have b18 := F18.binds (ps := ["m", "size", "most"]) fun _ _ _ _ _ _ us hl => match us, hl with | [_, _, _], _ => rfl
  have F19 := fun_mk (st := s__law_ways) l19 c19 k19
  have b19 := F19.binds (ps := ["web"]) fun _ _ _ _ _ _ us hl => match us, hl with | [_], _ => rfl
  have F20 := fun_mk (st := s__law_small_web) l20 c20 k20
  have b20 := F20.binds (ps := ["m", "size", "most", "limit"]) fun _ _ _ _ _ _ us hl => match us, hl with | [_, _, _, _], _ => rfl
  have F21 := fun_mk (st := s__law_equals) l21 c21 k21
  have b21 := F21.binds (ps := ["m", "web", "most"]) fun _ _ _ _ _ _ us hl => match us, hl with | [_, _, _], _ => rfl
  have F22 := fun_mk (st := s__law_near) l22 c22 k22
  have b22 := F22.binds (ps := ["equals", "word"]) fun _ _ _ _ _ _ us hl => match us, hl with | [_, _], _ => rfl
  have F23 := fun_mk (st := s__law_class) l23 c23 k23
  have b23 := F23.binds (ps := ["equals", "word"]) fun _ _ _ _ _ _ us hl => match us, hl with | [_, _], _ => rfl
  have F24 := fun_mk (st := s__law_done) l24 c24 k24
  have b24 := F24.binds (ps := ["equals", "word", "steps"]) fun _ _ _ _ _ _ us hl => match us, hl with | [_, _, _], _ => rfl
  have F25 := fun_mk (st := s__law_pair_right) l25 c25 k25
  have b25 := F25.binds (ps := ["web", "equals", "one", "other"]) fun _ _ _ _ _ _ us hl => match us, hl with | [_, _, _, _], _ => rfl
  have F26 := fun_mk (st := s_law) l26 c26 k26
  have b26 := F26.binds (ps := ["script"]) fun _ _ _ _ _ _ us hl => match us, hl with | [_], _ => rfl
  let T : Txt K mg := {
    f_is_number := f0, fd_is_number := _, F_is_number := F0, g_is_number := PySem.W.mg_of X G a0, b_is_number := b0,
    f_is_row := f1, fd_is_row := _, F_is_row := F1, g_is_row := PySem.W.mg_of X G a1, b_is_row := b1,
    f_replaced := f2, fd_replaced := _, F_replaced := F2, g_replaced := PySem.W.mg_of X G a2, b_replaced := b2,
    f_steps_from := f3, fd_steps_from := _, F_steps_from := F3, g_steps_from := PySem.W.mg_of X G a3, b_steps_from := b3,
    f_put_together := f4, fd_put_together := _, F_put_together := F4, g_put_together := PySem.W.mg_of X G a4, b_put_together := b4,
    f_end_of := f5, fd_end_of := _, F_end_of := F5, g_end_of := PySem.W.mg_of X G a5, b_end_of := b5,
    f_gone_on := f6, fd_gone_on := _, F_gone_on := F6, g_gone_on := PySem.W.mg_of X G a6, b_gone_on := b6,
    f_ways := f7, fd_ways := _, F_ways := F7, g_ways := PySem.W.mg_of X G a7, b_ways := b7,
    f_least_ways := f8, fd_least_ways := _, F_least_ways := F8, g_least_ways := PySem.W.mg_of X G a8, b_least_ways := b8,
    f_least_way := f9, fd_least_way := _, F_least_way := F9, g_least_way := PySem.W.mg_of X G a9, b_least_way := b9,
    f_origins := f10, fd_origins := _, F_origins := F10, g_origins := PySem.W.mg_of X G a10, b_origins := b10,
    f_way_steps := f11, fd_way_steps := _, F_way_steps := F11, g_way_steps := PySem.W.mg_of X G a11, b_way_steps := b11,
    f_word_behind := f12, fd_word_behind := _, F_word_behind := F12, g_word_behind := PySem.W.mg_of X G a12, b_word_behind := b12,
    f_stepped := f13, fd_stepped := _, F_stepped := F13, g_stepped := PySem.W.mg_of X G a13, b_stepped := b13,
    f__law_begun := f14, fd__law_begun := _, F__law_begun := F14, g__law_begun := PySem.W.mg_of X G a14, b__law_begun := b14,
    f__law_draw := f15, fd__law_draw := _, F__law_draw := F15, g__law_draw := PySem.W.mg_of X G a15, b__law_draw := b15,
    f__law_of := f16, fd__law_of := _, F__law_of := F16, g__law_of := PySem.W.mg_of X G a16, b__law_of := b16,
    f__law_like := f17, fd__law_like := _, F__law_like := F17, g__law_like := PySem.W.mg_of X G a17, b__law_like := b17,
    f__law_web := f18, fd__law_web := _, F__law_web := F18, g__law_web := PySem.W.mg_of X G a18, b__law_web := b18,
    f__law_ways := f19, fd__law_ways := _, F__law_ways := F19, g__law_ways := PySem.W.mg_of X G a19, b__law_ways := b19,
    f__law_small_web := f20, fd__law_small_web := _, F__law_small_web := F20, g__law_small_web := PySem.W.mg_of X G a20, b__law_small_web := b20,
    f__law_equals := f21, fd__law_equals := _, F__law_equals := F21, g__law_equals := PySem.W.mg_of X G a21, b__law_equals := b21,
    f__law_near := f22, fd__law_near := _, F__law_near := F22, g__law_near := PySem.W.mg_of X G a22, b__law_near := b22,
    f__law_class := f23, fd__law_class := _, F__law_class := F23, g__law_class := PySem.W.mg_of X G a23, b__law_class := b23,
    f__law_done := f24, fd__law_done := _, F__law_done := F24, g__law_done := PySem.W.mg_of X G a24, b__law_done := b24,
    f__law_pair_right := f25, fd__law_pair_right := _, F__law_pair_right := F25, g__law_pair_right := PySem.W.mg_of X G a25, b__law_pair_right := b25,
    f_law := fa, fd_law := _, F_law := F26, g_law := PySem.W.mg_of X G a26, b_law := b26,
    t_MOST_WAYS := t0, c_MOST_WAYS := PySem.W.mg_of X G v0,
    m_len := PySem.W.mg_none_of X G z_len,
    m_int := PySem.W.mg_none_of X G z_int,
    m_tuple := PySem.W.mg_none_of X G z_tuple,
    m_list := PySem.W.mg_none_of X G z_list,
    m_range := PySem.W.mg_none_of X G z_range,
    m_enumerate := PySem.W.mg_none_of X G z_enumerate,
    m_max := PySem.W.mg_none_of X G z_max,
    m_min := PySem.W.mg_none_of X G z_min,
    m_repr := PySem.W.mg_none_of X G z_repr,
    m_sorted := PySem.W.mg_none_of X G z_sorted,
    m_isinstance := PySem.W.mg_none_of X G z_isinstance,
    m_type := PySem.W.mg_none_of X G z_type,
    m_reversed := PySem.W.mg_none_of X G z_reversed }
  exact ⟨_, fun s v => .of_eq rfl, fun base _ _ => all_fns T⟩
end K02
open PySem PySem.W PyProof.Rows
set_option maxHeartbeats 0 in
theorem PySem.Challenge.cw_arrowworlds_k21_whole_steps_from_way_to_holds : PySem.Challenge.rw_arrowworlds_k21_whole_steps_from_way_to.Holds := by
  w_on; o_law; k_head; (case hw => w_witness2)
  k_fill
  refine DW.walk_G (l := PySem.Challenge.rw_arrowworlds_k21_whole_steps_from_way_to) (n := 63) (k := 6) (x := "script") (sp := fun w => DW.spD _ K02.W_law) rfl (by decide) rfl ⟨rfl, by decide, by decide⟩ (fun w h Y => PySem.W.kIn_of Y) ?F (fun _ H a ns hl hO hS => DW.law_start hl hO hS fun ns h => ⟨ns, rfl, h, by decide, fun _ => rfl⟩)
  case F =>
    intro w mg fa h KX G hmg
    refine' K02.all_mk KX G hmg ?a0 ?l0 ?c0 ?k0 ?a1 ?l1 ?c1 ?k1 ?a2 ?l2 ?c2 ?k2 ?a3 ?l3 ?c3 ?k3 ?a4 ?l4 ?c4 ?k4 ?a5 ?l5 ?c5 ?k5 ?a6 ?l6 ?c6 ?k6 ?a7 ?l7 ?c7 ?k7 ?a8 ?l8 ?c8 ?k8 ?a9 ?l9 ?c9 ?k9 ?a10 ?l10 ?c10 ?k10 ?a11 ?l11 ?c11 ?k11 ?a12 ?l12 ?c12 ?k12 ?a13 ?l13 ?c13 ?k13 ?a14 ?l14 ?c14 ?k14 ?a15 ?l15 ?c15 ?k15 ?a16 ?l16 ?c16 ?k16 ?a17 ?l17 ?c17 ?k17 ?a18 ?l18 ?c18 ?k18 ?a19 ?l19 ?c19 ?k19 ?a20 ?l20 ?c20 ?k20 ?a21 ?l21 ?c21 ?k21 ?a22 ?l22 ?c22 ?k22 ?a23 ?l23 ?c23 ?k23 ?a24 ?l24 ?c24 ?k24 ?a25 ?l25 ?c25 ?k25 ?a26 ?l26 ?c26 ?k26 ?v0 ?z_len ?z_int ?z_tuple ?z_list ?z_range ?z_enumerate ?z_max ?z_min ?z_repr ?z_sorted ?z_isinstance ?z_type ?z_reversed
    (case a0 => k_is); (case l0 => k_is); (case c0 => k_is); (case k0 => k_is); (case a1 => k_is); (case l1 => k_is); (case c1 => k_is); (case k1 => k_is)
    (case a2 => k_is); (case l2 => k_is); (case c2 => k_is); (case k2 => k_is); (case a3 => k_is); (case l3 => k_is); (case c3 => k_is); (case k3 => k_is)
    (case a4 => k_is); (case l4 => k_is); (case c4 => k_is); (case k4 => k_is); (case a5 => k_is); (case l5 => k_is); (case c5 => k_is); (case k5 => k_is)
    (case a6 => k_is); (case l6 => k_is); (case c6 => k_is); (case k6 => k_is); (case a7 => k_is); (case l7 => k_is); (case c7 => k_is); (case k7 => k_is)
    (case a8 => k_is); (case l8 => k_is); (case c8 => k_is); (case k8 => k_is); (case a9 => k_is); (case l9 => k_is); (case c9 => k_is); (case k9 => k_is)
    (case a10 => k_is); (case l10 => k_is); (case c10 => k_is); (case k10 => k_is); (case a11 => k_is); (case l11 => k_is); (case c11 => k_is); (case k11 => k_is)
    (case a12 => k_is); (case l12 => k_is); (case c12 => k_is); (case k12 => k_is); (case a13 => k_is); (case l13 => k_is); (case c13 => k_is); (case k13 => k_is)
    (case a14 => k_is); (case l14 => k_is); (case c14 => k_is); (case k14 => k_is); (case a15 => k_is); (case l15 => k_is); (case c15 => k_is); (case k15 => k_is)
    (case a16 => k_is); (case l16 => k_is); (case c16 => k_is); (case k16 => k_is); (case a17 => k_is); (case l17 => k_is); (case c17 => k_is); (case k17 => k_is)
    (case a18 => k_is); (case l18 => k_is); (case c18 => k_is); (case k18 => k_is); (case a19 => k_is); (case l19 => k_is); (case c19 => k_is); (case k19 => k_is)
    (case a20 => k_is); (case l20 => k_is); (case c20 => k_is); (case k20 => k_is); (case a21 => k_is); (case l21 => k_is); (case c21 => k_is); (case k21 => k_is)
    (case a22 => k_is); (case l22 => k_is); (case c22 => k_is); (case k22 => k_is); (case a23 => k_is); (case l23 => k_is); (case c23 => k_is); (case k23 => k_is)
    (case a24 => k_is); (case l24 => k_is); (case c24 => k_is); (case k24 => k_is); (case a25 => k_is); (case l25 => k_is); (case c25 => k_is); (case k25 => k_is)
    (case a26 => k_is); (case l26 => k_is); (case c26 => k_is); (case k26 => k_is); (case v0 => k_is); (case z_len => k_is); (case z_int => k_is); (case z_tuple => k_is)
    (case z_list => k_is); (case z_range => k_is); (case z_enumerate => k_is); (case z_max => k_is); (case z_min => k_is); (case z_repr => k_is); (case z_sorted => k_is); (case z_isinstance => k_is)
    (case z_type => k_is); (case z_reversed => k_is)
