import PyProof.Rows.All
import Wide.All
import OpenK.AllK
import Wide.FinOn
import HandS.ForMost
import HandS.ForExc
import HandS.Deep
import HandS.Conv
import HandS.Sort
import HandS.Flow
import HandS.IsInst
import HandS.TupAny
import HandS.More
import HandS.Zip
import HandS.Walk
import KE.GoesMore
import KE.GoesEnum
import HandS.ExcIs
import HandS.Ends
import PySem.Challenge.RW_arrowworlds_k10_whole_worlds_of_one_thin
set_option Elab.async false
set_option linter.all false
set_option maxRecDepth 100000
set_option maxHeartbeats 2000000
namespace DW
open PySem PySem.Spec PyProof.Rows L2

abbrev D := PyData
/-- the draws' state as an argument -/
abbrev mD : D := .dict [(.none, .none)]

/-- an error that is held, by its address: nothing of it is told -/
def eD (a : Addr) : D := .dict [(.bool false, .int (a : Nat))]
/-- the script as an argument -/
def sD (ns : List Int) : D := .dict ((.bool true, .none) :: ns.map fun n => (.none, .int n))

def MObj (l s : Int) (c : Addr) (p : Int) : HO := .dK [(.inr "left", .int l), (.inr "seed", .int s), (.inr "cells", .ref c), (.inr "spot", .int p)]
def IsM : HO → Prop
  | .dK ((.inr x, _) :: _) => x = ("left" : Str)
  | _ => False
theorem isM_obj {l s p : Int} {c : Addr} : IsM (MObj l s c p) := rfl
def MOk (A : Addr → Prop) (u : Nat) (K : PySem.W.Frag) (H : Hp) (o : HO) : Prop := ∃ (l s : Int) (c : Addr) (p : Int) (cells : List Int), o = MObj l s c p ∧ 0 ≤ l ∧ 0 ≤ s ∧ s < 2147483647 ∧ 0 ≤ p ∧ p ≤ u ∧ H c = some (.lst (cells.map .int)) ∧ ¬ A c ∧ cells ≠ []
def MInv (A : Addr → Prop) (u : Nat) (K : PySem.W.Frag) (H : Hp) : Prop := ∀ a o, H a = some o → IsM o → MOk A u K H o

/-- what stood stands; only the draws' states may have gone on -/
structure Step (H H' : Hp) : Prop where
  keep : ∀ a o, H a = some o → ¬ IsM o → H' a = some o
  ms : ∀ a o, H a = some o → IsM o → ∃ o', H' a = some o' ∧ IsM o'
theorem Step.refl (H : Hp) : Step H H := ⟨fun _ _ h _ => h, fun _ o h m => ⟨o, h, m⟩⟩
theorem Step.trans {H H1 H2 : Hp} (a : Step H H1) (b : Step H1 H2) : Step H H2 :=
  ⟨fun x o h n => b.keep x o (a.keep x o h n) n, fun x o h m => let ⟨o1, h1, m1⟩ := a.ms x o h m; b.ms x o1 h1 m1⟩
theorem Step.new {H : Hp} {p : Addr} {o : HO} (h : H p = none) : Step H (upd H p o) :=
  ⟨fun a u e _ => by rw [upd_ne (ne_of_none e h)]; exact e, fun a u e m => ⟨u, by rw [upd_ne (ne_of_none e h)]; exact e, m⟩⟩
theorem Step.there {H H' : Hp} (a : Step H H') {x : Addr} (h : H x ≠ none) : H' x ≠ none := by
  cases e : H x with
  | none => exact absurd e h
  | some o =>
    by_cases m : IsM o
    · obtain ⟨o', h', _⟩ := a.ms x o e m
      rw [h']; simp
    · rw [a.keep x o e m]; simp
theorem Step.fresh {H H' : Hp} (a : Step H H') {x : Addr} (h : H' x = none) : H x = none := by
  cases e : H x with
  | none => rfl
  | some o => exact absurd h (a.there (by rw [e]; simp))
theorem Step.rd {H H' : Hp} (s : Step H H') {a : Addr} {xs : List V} (h : Rd H a (.lst xs)) : Rd H' a (.lst xs) := by
  rcases h with h | ⟨o, h⟩
  · exact .inl (s.keep _ _ h (fun m => m))
  · exact .inr ⟨o, s.keep _ _ h (fun m => m)⟩
theorem Step.rdT {H H' : Hp} (s : Step H H') {a : Addr} {xs : List V} (h : Rd H a (.tup xs)) : Rd H' a (.tup xs) := by
  rcases h with h | ⟨o, h⟩
  · exact .inl (s.keep _ _ h (fun m => m))
  · exact .inr ⟨o, s.keep _ _ h (fun m => m)⟩
theorem Step.sql {K : PySem.W.Frag} {H H' : Hp} (s : Step H H') {a : Addr} {xs : List V} (h : SqL K H a xs) : SqL K H' a xs := h.elim (fun h => .inl (s.rd h)) .inr
theorem Step.sqt {K : PySem.W.Frag} {H H' : Hp} (s : Step H H') {a : Addr} {xs : List V} (h : SqT K H a xs) : SqT K H' a xs := h.elim (fun h => .inl (s.rdT h)) .inr
theorem MInv.new {A : Addr → Prop} {u : Nat} {K : PySem.W.Frag} {H : Hp} {p : Addr} {o : HO} (m : MInv A u K H) (h : H p = none) (n : ¬ IsM o) : MInv A u K (upd H p o) := fun a v e i => by
  by_cases q : a = p
  · subst q; rw [upd_same] at e; cases e; exact absurd i n
  · rw [upd_ne q] at e
    obtain ⟨l, s, c, x, cells, h1, h2, h3, h4, h5, h6, h7, h8, h9⟩ := m a v e i
    exact ⟨l, s, c, x, cells, h1, h2, h3, h4, h5, h6, by rw [upd_ne (ne_of_none h7 h)]; exact h7, h8, h9⟩
/-- one's own object changes -/
theorem MInv.putA {A : Addr → Prop} {u : Nat} {K : PySem.W.Frag} {H : Hp} {p : Addr} {o : HO} (m : MInv A u K H) (h : A p) (n : ¬ IsM o) : MInv A u K (upd H p o) := fun a v e i => by
  by_cases q : a = p
  · subst q; rw [upd_same] at e; cases e; exact absurd i n
  · rw [upd_ne q] at e
    obtain ⟨l, s, c, x, cells, h1, h2, h3, h4, h5, h6, h7, h8, h9⟩ := m a v e i
    exact ⟨l, s, c, x, cells, h1, h2, h3, h4, h5, h6, by rw [upd_ne (fun z => h8 (by rw [z]; exact h))]; exact h7, h8, h9⟩
theorem MInv.mono {A : Addr → Prop} {u u' : Nat} {K : PySem.W.Frag} {H : Hp} (m : MInv A u K H) (h : u ≤ u') : MInv A u' K H := fun a v e i => by
  obtain ⟨l, s, c, x, cells, h1, h2, h3, h4, h5, h6, h7, h8, h9⟩ := m a v e i
  exact ⟨l, s, c, x, cells, h1, h2, h3, h4, h5, by omega, h7, h8, h9⟩
theorem MInv.less {A A' : Addr → Prop} {u : Nat} {K : PySem.W.Frag} {H : Hp} (m : MInv A u K H) (h : ∀ a, H a ≠ none → A' a → A a) : MInv A' u K H := fun a v e i => by
  obtain ⟨l, s, c, x, cells, h1, h2, h3, h4, h5, h6, h7, h8, h9⟩ := m a v e i
  exact ⟨l, s, c, x, cells, h1, h2, h3, h4, h5, h6, h7, fun z => h8 (h c (by rw [h7]; simp) z), h9⟩

/-- one's own new object is kept away too -/
def Aand (A : Addr → Prop) (p : Addr) : Addr → Prop := fun a => A a ∨ a = p
theorem MInv.newA {A : Addr → Prop} {u : Nat} {K : PySem.W.Frag} {H : Hp} {p : Addr} {o : HO} (m : MInv A u K H) (h : H p = none) (n : ¬ IsM o) : MInv (Aand A p) u K (upd H p o) := fun a v e i => by
  obtain ⟨l, s, c, x, cells, h1, h2, h3, h4, h5, h6, h7, h8, h9⟩ := m.new h n a v e i
  refine ⟨l, s, c, x, cells, h1, h2, h3, h4, h5, h6, h7, fun z => z.elim h8 fun z => ?_, h9⟩
  by_cases q : a = p
  · subst q; rw [upd_same] at e; cases e; exact n i
  · rw [upd_ne q] at e
    obtain ⟨l', s', c', x', cells', g1, g2, g3, g4, g5, g6, g7, g8, g9⟩ := m a v e i
    rw [h1] at g1
    simp only [MObj, HO.dK.injEq, List.cons.injEq, Prod.mk.injEq, V.ref.injEq, true_and] at g1
    rw [← g1.2.2.1, z, h] at g7
    cases g7
theorem MInv.un {A : Addr → Prop} {u : Nat} {K : PySem.W.Frag} {H : Hp} {p : Addr} (m : MInv (Aand A p) u K H) : MInv A u K H := m.less fun _ _ h => .inl h

/-! ### data in the heap, away from A -/
mutual
inductive Da (K : PySem.W.Frag) (A : Addr → Prop) (H : Hp) : V → D → Prop
  | non : Da K A H .non .none
  | bl (b : Bool) : Da K A H (.bl b) (.bool b)
  | int (i : Int) : Da K A H (.int i) (.int i)
  | str (x : Str) : Da K A H (.str x) (.str x)
  | lst {a : Addr} {xs : List V} {ds : List D} : H a = some (.lst xs) → ¬ A a → DaAll K A H xs ds → Da K A H (.ref a) (.list ds)
  | scr {a : Addr} {ns : List Int} : Rd H a (.lst (ns.map .int)) → ¬ A a → H a ≠ none → Da K A H (.ref a) (sD ns)
  | scrK {a : Addr} {ns : List Int} : SqL K (fun _ => none) a (ns.map .int) → Da K A H (.ref a) (sD ns)
  | tup {a : Addr} {xs : List V} {ds : List D} : H a = some (.tup xs) → ¬ A a → DaAll K A H xs ds → Da K A H (.ref a) (.tuple ds)
  | dct0 {a : Addr} : H a = some (.dK []) → ¬ A a → Da K A H (.ref a) (.dict [])
  | mm {a : Addr} {o : HO} : H a = some o → IsM o → Da K A H (.ref a) mD
  | err (a : Addr) : Da K A H (.ref a) (eD a)
inductive DaAll (K : PySem.W.Frag) (A : Addr → Prop) (H : Hp) : List V → List D → Prop
  | nil : DaAll K A H [] []
  | cons {v : V} {vs : List V} {d : D} {ds : List D} : Da K A H v d → DaAll K A H vs ds → DaAll K A H (v :: vs) (d :: ds)
end
/-- what must hold of two places of time that data go over -/
structure Goes (A A' : Addr → Prop) (H H' : Hp) : Prop where
  keep : ∀ a o, ¬ A a → H a = some o → ¬ IsM o → H' a = some o
  ms : ∀ a o, H a = some o → IsM o → ∃ o', H' a = some o' ∧ IsM o'
  new : ∀ a, A' a → A a ∨ H a = none
theorem Goes.sql {K : PySem.W.Frag} {A A' : Addr → Prop} {H H' : Hp} (g : Goes A A' H H') {a : Addr} {xs : List V} (h : SqL K H a xs) (n : ¬ A a) : SqL K H' a xs := by
  rcases h with (h | ⟨o, h⟩) | h
  · exact .inl (.inl (g.keep _ _ n h (fun m => m)))
  · exact .inl (.inr ⟨o, g.keep _ _ n h (fun m => m)⟩)
  · exact .inr h
theorem Goes.rd {A A' : Addr → Prop} {H H' : Hp} (g : Goes A A' H H') {a : Addr} {xs : List V} (h : Rd H a (.lst xs)) (n : ¬ A a) : Rd H' a (.lst xs) := by
  rcases h with h | ⟨o, h⟩
  · exact .inl (g.keep _ _ n h (fun m => m))
  · exact .inr ⟨o, g.keep _ _ n h (fun m => m)⟩
theorem Goes.sqt {K : PySem.W.Frag} {A A' : Addr → Prop} {H H' : Hp} (g : Goes A A' H H') {a : Addr} {xs : List V} (h : SqT K H a xs) (n : ¬ A a) : SqT K H' a xs := by
  rcases h with (h | ⟨o, h⟩) | h
  · exact .inl (.inl (g.keep _ _ n h (fun m => m)))
  · exact .inl (.inr ⟨o, g.keep _ _ n h (fun m => m)⟩)
  · exact .inr h
theorem Goes.there {A A' : Addr → Prop} {H H' : Hp} (g : Goes A A' H H') {a : Addr} (n : ¬ A a) (h : H a ≠ none) : H' a ≠ none := by
  cases e : H a with
  | none => exact absurd e h
  | some o =>
    by_cases m : IsM o
    · obtain ⟨o', h', _⟩ := g.ms a o e m
      rw [h']; simp
    · rw [g.keep a o n e m]; simp
theorem Goes.notin {A A' : Addr → Prop} {H H' : Hp} (g : Goes A A' H H') {a : Addr} (n : ¬ A a) (h : H a ≠ none) : ¬ A' a := fun q => (g.new a q).elim n h
mutual
theorem Da.goes {K : PySem.W.Frag} {A A' : Addr → Prop} {H H' : Hp} (g : Goes A A' H H') : ∀ {v : V} {d : D}, Da K A H v d → Da K A' H' v d
  | _, _, .non => .non
  | _, _, .bl b => .bl b
  | _, _, .int i => .int i
  | _, _, .str x => .str x
  | _, _, .lst h n hs => .lst (g.keep _ _ n h (fun m => m)) (g.notin n (by rw [h]; simp)) (DaAll.goes g hs)
  | _, _, .scr h n t => .scr (g.rd h n) (g.notin n t) (g.there n t)
  | _, _, .scrK h => .scrK h
  | _, _, .tup h n hs => .tup (g.keep _ _ n h (fun m => m)) (g.notin n (by rw [h]; simp)) (DaAll.goes g hs)
  | _, _, .dct0 h n => .dct0 (g.keep _ _ n h (fun m => m)) (g.notin n (by rw [h]; simp))
  | _, _, .mm h m => let ⟨_, h', m'⟩ := g.ms _ _ h m; .mm h' m'
  | _, _, .err a => .err a
theorem DaAll.goes {K : PySem.W.Frag} {A A' : Addr → Prop} {H H' : Hp} (g : Goes A A' H H') : ∀ {vs : List V} {ds : List D}, DaAll K A H vs ds → DaAll K A' H' vs ds
  | _, _, .nil => .nil
  | _, _, .cons h t => .cons (Da.goes g h) (DaAll.goes g t)
end
theorem Step.goes {A : Addr → Prop} {H H' : Hp} (s : Step H H') : Goes A A H H' := ⟨fun a o _ h m => s.keep a o h m, s.ms, fun _ h => .inl h⟩
theorem goes_and {A : Addr → Prop} {H H' : Hp} {p : Addr} (s : Step H H') (h : H p = none) : Goes A (Aand A p) H H' :=
  ⟨fun a o _ h m => s.keep a o h m, s.ms, fun a q => q.elim .inl fun e => .inr (by rw [e]; exact h)⟩
theorem Goes.refl {A : Addr → Prop} {H : Hp} : Goes A A H H := (Step.refl H).goes
theorem Goes.less {A A' : Addr → Prop} {H : Hp} (h : ∀ a, A' a → A a) : Goes A A' H H := ⟨fun _ _ _ h _ => h, fun _ o h m => ⟨o, h, m⟩, fun a q => .inl (h a q)⟩
theorem Goes.trans {A A1 A2 : Addr → Prop} {H H1 H2 : Hp} (a : Goes A A1 H H1) (b : Goes A1 A2 H1 H2) : Goes A A2 H H2 where
  keep := fun x o n h m => b.keep x o (a.notin n (by rw [h]; simp)) (a.keep x o n h m) m
  ms := fun x o h m => let ⟨o1, h1, m1⟩ := a.ms x o h m; b.ms x o1 h1 m1
  new := fun x h => by
    rcases b.new x h with h | h
    · exact a.new x h
    · by_cases n : A x
      · exact .inl n
      · refine .inr ?_
        cases e : H x with
        | none => rfl
        | some o => exact absurd h (a.there n (by rw [e]; simp))
theorem DaAll.length {K : PySem.W.Frag} {A : Addr → Prop} {H : Hp} : ∀ {vs : List V} {ds : List D}, DaAll K A H vs ds → vs.length = ds.length
  | _, _, .nil => rfl
  | _, _, .cons _ t => congrArg (· + 1) t.length
theorem DaAll.get {K : PySem.W.Frag} {A : Addr → Prop} {H : Hp} : ∀ {vs : List V} {ds : List D} {i : Nat} {d : D}, DaAll K A H vs ds → ds[i]? = some d → ∃ v, vs[i]? = some v ∧ Da K A H v d
  | _, _, _, _, .nil, e => by simp at e
  | _, _, 0, _, .cons h _, e => by simp at e; subst e; exact ⟨_, rfl, h⟩
  | _, _, i + 1, d, .cons _ t, e => by
    obtain ⟨v, h1, h2⟩ := DaAll.get (i := i) (d := d) t (by simpa using e)
    exact ⟨v, by simpa using h1, h2⟩
theorem DaAll.get' {K : PySem.W.Frag} {A : Addr → Prop} {H : Hp} : ∀ {vs : List V} {ds : List D} {i : Nat} {v : V}, DaAll K A H vs ds → vs[i]? = some v → ∃ d, ds[i]? = some d ∧ Da K A H v d
  | _, _, _, _, .nil, e => by simp at e
  | _, _, 0, _, .cons h _, e => by simp at e; subst e; exact ⟨_, rfl, h⟩
  | _, _, i + 1, d, .cons _ t, e => by
    obtain ⟨v, h1, h2⟩ := DaAll.get' (i := i) (v := d) t (by simpa using e)
    exact ⟨v, by simpa using h1, h2⟩
theorem DaAll.append {K : PySem.W.Frag} {A : Addr → Prop} {H : Hp} : ∀ {vs ws : List V} {ds es : List D}, DaAll K A H vs ds → DaAll K A H ws es → DaAll K A H (vs ++ ws) (ds ++ es)
  | _, _, _, _, .nil, s => s
  | _, _, _, _, .cons h t, s => .cons h (t.append s)
theorem DaAll.take {K : PySem.W.Frag} {A : Addr → Prop} {H : Hp} : ∀ {vs : List V} {ds : List D} (n : Nat), DaAll K A H vs ds → DaAll K A H (vs.take n) (ds.take n)
  | _, _, 0, _ => .nil
  | _, _, _ + 1, .nil => .nil
  | _, _, n + 1, .cons h t => .cons h (t.take n)
theorem DaAll.drop {K : PySem.W.Frag} {A : Addr → Prop} {H : Hp} : ∀ {vs : List V} {ds : List D} (n : Nat), DaAll K A H vs ds → DaAll K A H (vs.drop n) (ds.drop n)
  | _, _, 0, h => h
  | _, _, _ + 1, .nil => .nil
  | _, _, n + 1, .cons _ t => t.drop n
theorem DaAll.set {K : PySem.W.Frag} {A : Addr → Prop} {H : Hp} {v : V} {d : D} (hv : Da K A H v d) : ∀ {vs : List V} {ds : List D} (i : Nat), DaAll K A H vs ds → DaAll K A H (vs.set i v) (ds.set i d)
  | _, _, _, .nil => .nil
  | _, _, 0, .cons _ t => .cons hv t
  | _, _, i + 1, .cons h t => .cons h (t.set hv i)
theorem DaAll.reverse {K : PySem.W.Frag} {A : Addr → Prop} {H : Hp} : ∀ {vs : List V} {ds : List D}, DaAll K A H vs ds → DaAll K A H vs.reverse ds.reverse
  | _, _, .nil => .nil
  | _, _, .cons h t => by
    rw [List.reverse_cons, List.reverse_cons]
    exact t.reverse.append (.cons h .nil)
theorem DaAll.ints {K : PySem.W.Frag} {A : Addr → Prop} {H : Hp} : ∀ (ns : List Int), DaAll K A H (ns.map .int) (ns.map .int)
  | [] => .nil
  | n :: r => .cons (.int n) (DaAll.ints r)
theorem DaAll.of_ints {K : PySem.W.Frag} {A : Addr → Prop} {H : Hp} : ∀ {ns : List Int} {vs : List V}, DaAll K A H vs (ns.map .int) → vs = ns.map .int
  | [], _, .nil => rfl
  | n :: r, _, .cons h t => by
    cases h
    rw [DaAll.of_ints t]
    rfl
theorem DaAll.of_bools {K : PySem.W.Frag} {A : Addr → Prop} {H : Hp} : ∀ {ns : List Bool} {vs : List V}, DaAll K A H vs (ns.map .bool) → vs = ns.map .bl
  | [], _, .nil => rfl
  | n :: r, _, .cons h t => by
    cases h
    rw [DaAll.of_bools t]
    rfl
/-! to the layer's own data -/
mutual
theorem Da.dp {K : PySem.W.Frag} {A : Addr → Prop} {H : Hp} : ∀ {v : V} {d : D}, Da K A H v d → d.canLay0 = true → Dp K H v d
  | _, _, .non, _ => .non
  | _, _, .bl b, _ => .bl b
  | _, _, .int i, _ => .int i
  | _, _, .str x, _ => .str x
  | _, _, .lst h _ hs, c => .lst (.inl (.inl h)) (DaAll.dp hs (by simpa [PyData.canLay0] using c))
  | _, _, .scr _ _ _, c => by simp [sD, PyData.canLay0] at c
  | _, _, .scrK _, c => by simp [sD, PyData.canLay0] at c
  | _, _, .tup h _ hs, c => .tup (.inl (.inl h)) (DaAll.dp hs (by simpa [PyData.canLay0] using c))
  | _, _, .dct0 _ _, c => by simp [PyData.canLay0] at c
  | _, _, .mm _ _, c => by simp [PyData.canLay0] at c
  | _, _, .err _, c => by simp [eD, PyData.canLay0] at c
theorem DaAll.dp {K : PySem.W.Frag} {A : Addr → Prop} {H : Hp} : ∀ {vs : List V} {ds : List D}, DaAll K A H vs ds → PyData.canLayAll0 ds = true → DpAll K H vs ds
  | _, _, .nil, _ => .nil
  | _, _, .cons h t, c => by
    simp only [PyData.canLayAll0, Bool.and_eq_true] at c
    exact .cons (Da.dp h c.1) (DaAll.dp t c.2)
end
theorem Da.scrD {K : PySem.W.Frag} {A : Addr → Prop} {H : Hp} {v : V} {ns : List Int} (h : Da K A H v (sD ns)) : ∃ a, v = .ref a ∧ SqL K H a (ns.map .int) := by
  generalize e : sD ns = d at h
  cases h with
  | scr h n t =>
    rename_i a ms
    have e2 : ns = ms := by
      simp only [sD, PyData.dict.injEq, List.cons.injEq, true_and] at e
      have e3 := congrArg (List.map fun p : D × D => match p.2 with | .int i => i | _ => 0) e
      simpa [Function.comp_def] using e3
    subst e2
    exact ⟨_, rfl, .inl h⟩
  | scrK h =>
    rename_i a ms
    have e2 : ns = ms := by
      simp only [sD, PyData.dict.injEq, List.cons.injEq, true_and] at e
      have e3 := congrArg (List.map fun p : D × D => match p.2 with | .int i => i | _ => 0) e
      simpa [Function.comp_def] using e3
    subst e2
    refine ⟨_, rfl, ?_⟩
    rcases h with (h | ⟨o, h⟩) | h
    · cases h
    · cases h
    · exact .inr h
  | dct0 => simp [sD] at e
  | mm => simp [sD, mD] at e
  | err => simp [sD, eD] at e
  | _ => simp [sD] at e
/-- borrowed: its own node may be one that changes later -/
inductive Db (K : PySem.W.Frag) (N A : Addr → Prop) (H : Hp) : V → D → Prop
  | da {v : V} {d : D} : Da K A H v d → Db K N A H v d
  | lst {a : Addr} {xs : List V} {ds : List D} : H a = some (.lst xs) → ¬ N a → DaAll K A H xs ds → Db K N A H (.ref a) (.list ds)
theorem Db.lists {K : PySem.W.Frag} {N A : Addr → Prop} {H : Hp} {v : V} {ds : List D} (h : Db K N A H v (.list ds)) : ∃ a xs, v = .ref a ∧ H a = some (.lst xs) ∧ DaAll K A H xs ds := by
  cases h with
  | da h => cases h with | lst h1 _ h2 => exact ⟨_, _, rfl, h1, h2⟩
  | lst h1 _ h2 => exact ⟨_, _, rfl, h1, h2⟩
theorem Db.tuples {K : PySem.W.Frag} {N A : Addr → Prop} {H : Hp} {v : V} {ds : List D} (h : Db K N A H v (.tuple ds)) : ∃ a xs, v = .ref a ∧ H a = some (.tup xs) ∧ ¬ A a ∧ DaAll K A H xs ds := by
  cases h with
  | da h => cases h with | tup h1 h3 h2 => exact ⟨_, _, rfl, h1, h3, h2⟩
theorem Db.ints {K : PySem.W.Frag} {N A : Addr → Prop} {H : Hp} {v : V} {i : Int} (h : Db K N A H v (.int i)) : v = .int i := by
  cases h with
  | da h => cases h; rfl
theorem Db.bools {K : PySem.W.Frag} {N A : Addr → Prop} {H : Hp} {v : V} {i : Bool} (h : Db K N A H v (.bool i)) : v = .bl i := by
  cases h with
  | da h => cases h; rfl
theorem Db.strs {K : PySem.W.Frag} {N A : Addr → Prop} {H : Hp} {v : V} {i : Str} (h : Db K N A H v (.str i)) : v = .str i := by
  cases h with
  | da h => cases h; rfl
theorem Db.step {K : PySem.W.Frag} {N A : Addr → Prop} {H H' : Hp} (s : Step H H') {v : V} {d : D} (h : Db K N A H v d) : Db K N A H' v d := by
  cases h with
  | da h => exact .da (h.goes s.goes)
  | lst h1 h2 h4 => exact .lst (s.keep _ _ h1 (fun m => m)) h2 (h4.goes s.goes)
theorem Db.dp {K : PySem.W.Frag} {N A : Addr → Prop} {H : Hp} {v : V} {d : D} (h : Db K N A H v d) (c : d.canLay0 = true) : Dp K H v d := by
  cases h with
  | da h => exact h.dp c
  | lst h1 _ h4 => exact .lst (.inl (.inl h1)) (h4.dp (by simpa [PyData.canLay0] using c))
/-- seen from the caller -/
theorem Db.out {K : PySem.W.Frag} {N A : Addr → Prop} {H : Hp} {v : V} {d : D} (h : Db K N A H v d) (na : ∀ a, N a → A a) : Da K N H v d := by
  cases h with
  | da h => exact h.goes (.less na)
  | lst h1 h2 h4 => exact .lst h1 h2 (h4.goes (.less na))

/-! ### slots by data -/
inductive SV where
  | d (x : D)
  /-- a list of one's own, which changes in its place -/
  | own (xs : List D)
abbrev Rho := List (Option SV)
@[simp] def SV.val : SV → D
  | .d x => x
  | .own xs => .list xs
/-- the slots tell the data; N: the callers' lists that change, A: these and one's own -/
structure Rel (K : PySem.W.Frag) (N A : Addr → Prop) (H0 : Hp) (σ : L2.St) (H : Hp) (ρ : Rho) (u : Nat) : Prop where
  len : ρ.length = σ.length
  step : Step H0 H
  minv : MInv A u K H
  sub : ∀ a, N a → A a
  trk : ∀ a, A a → H a ≠ none
  ntrk : ∀ a, N a → H0 a ≠ none
  dat : ∀ (i : Nat) (x : D), ρ[i]? = some (some (SV.d x)) → ∃ v, σ[i]? = some (some v) ∧ Da K A H v x
  own : ∀ (i : Nat) (xs : List D), ρ[i]? = some (some (SV.own xs)) → ∃ a vs, σ[i]? = some (some (V.ref a)) ∧ H a = some (.lst vs) ∧ DaAll K A H vs xs ∧ A a ∧ H0 a = none
  dis : ∀ (i j : Nat) (xs ys : List D) (a : Addr), ρ[i]? = some (some (SV.own xs)) → ρ[j]? = some (some (SV.own ys)) → σ[i]? = some (some (V.ref a)) → σ[j]? = some (some (V.ref a)) → i = j
section
variable {K : PySem.W.Frag} {N A : Addr → Prop} {H0 H H' : Hp} {σ : L2.St} {ρ : Rho} {u u' : Nat}
theorem Rel.go (R : Rel K N A H0 σ H ρ u) (s : Step H H') (m : MInv A u' K H') : Rel K N A H0 σ H' ρ u' where
  len := R.len
  step := R.step.trans s
  minv := m
  sub := R.sub
  trk := fun a h => s.there (R.trk a h)
  ntrk := R.ntrk
  dat := fun i x e => let ⟨v, h1, h2⟩ := R.dat i x e; ⟨v, h1, h2.goes s.goes⟩
  own := fun i xs e => let ⟨a, vs, h1, h2, h3, h4, h5⟩ := R.own i xs e; ⟨a, vs, h1, s.keep _ _ h2 (fun m => m), h3.goes s.goes, h4, h5⟩
  dis := R.dis
theorem Rel.fresh (R : Rel K N A H0 σ H ρ u) {p : Addr} (h : H p = none) : ¬ A p := fun q => R.trk p q h
/-- a slot's value, borrowed -/
theorem Rel.val (R : Rel K N A H0 σ H ρ u) {i : Nat} {s : SV} (e : ρ[i]? = some (some s)) : ∃ v, σ[i]? = some (some v) ∧ Db K N A H v s.val := by
  cases s with
  | d x =>
    obtain ⟨v, h1, h2⟩ := R.dat i x e
    exact ⟨v, h1, .da h2⟩
  | own xs =>
    obtain ⟨a, vs, h1, h2, h3, h4, h5⟩ := R.own i xs e
    exact ⟨.ref a, h1, .lst h2 (fun n => R.ntrk a n h5) h3⟩
/-- a slot is given data -/
theorem Rel.setD (R : Rel K N A H0 σ H ρ u) {i : Nat} {v : V} {x : D} (h : Da K A H v x) : Rel K N A H0 (σ.set i (some v)) H (ρ.set i (some (SV.d x))) u where
  len := by rw [List.length_set, List.length_set]; exact R.len
  step := R.step
  minv := R.minv
  sub := R.sub
  trk := R.trk
  ntrk := R.ntrk
  dat := fun j y e => by
    by_cases q : i = j
    · subst q
      by_cases hl : i < ρ.length
      · rw [List.getElem?_set_self hl] at e
        have e' : x = y := by simpa using e
        subst e'
        exact ⟨v, List.getElem?_set_self (by rw [← R.len]; exact hl), h⟩
      · rw [List.getElem?_eq_none (by rw [List.length_set]; omega)] at e; cases e
    · rw [List.getElem?_set_ne q] at e ⊢
      exact R.dat j y e
  own := fun j y e => by
    by_cases q : i = j
    · subst q
      by_cases hl : i < ρ.length
      · rw [List.getElem?_set_self hl] at e; simp at e
      · rw [List.getElem?_eq_none (by rw [List.length_set]; omega)] at e; cases e
    · rw [List.getElem?_set_ne q] at e ⊢
      exact R.own j y e
  dis := fun j k xs ys a e1 e2 s1 s2 => by
    by_cases q : i = j
    · subst q
      by_cases hl : i < ρ.length
      · rw [List.getElem?_set_self hl] at e1; simp at e1
      · rw [List.getElem?_eq_none (by rw [List.length_set]; omega)] at e1; cases e1
    · by_cases q2 : i = k
      · subst q2
        by_cases hl : i < ρ.length
        · rw [List.getElem?_set_self hl] at e2; simp at e2
        · rw [List.getElem?_eq_none (by rw [List.length_set]; omega)] at e2; cases e2
      · rw [List.getElem?_set_ne q] at e1 s1
        rw [List.getElem?_set_ne q2] at e2 s2
        exact R.dis j k xs ys a e1 e2 s1 s2
end
end DW

set_option Elab.async false
set_option linter.all false
set_option maxRecDepth 100000
set_option maxHeartbeats 2000000
namespace DW
open PySem PySem.Spec PyProof.Rows L2

/-! ### judgements over data -/
abbrev WE := Rho → Nat → (D → Nat → Prop) → Prop
abbrev WT := Rho → Nat → (Bool → Nat → Prop) → Prop
abbrev WA := Rho → Nat → (List D → Nat → Prop) → Prop

section
variable {X : Cx}
theorem PEi {e : Expr} {t t' : TE} (h : PE X e t) (k : ∀ σ H Q, t' σ H Q → t σ H Q) : PE X e t' := ⟨fun pins s σ H Q I q => h.run pins s σ H Q I (k _ _ _ q)⟩
theorem PTi {e : Expr} {t t' : TT} (h : PT X e t) (k : ∀ σ H Q, t' σ H Q → t σ H Q) : PT X e t' := ⟨fun pins s σ H Q I q => h.run pins s σ H Q I (k _ _ _ q)⟩
theorem PWi {e : Expr} {t t' : TT} (h : PW X e t) (k : ∀ σ H Q, t' σ H Q → t σ H Q) : PW X e t' := ⟨fun wh pins s σ H Q I q => h.run wh pins s σ H Q I (k _ _ _ q)⟩
theorem PAi {es : List Expr} {t t' : TA} (h : PA X es t) (k : ∀ σ H Q, t' σ H Q → t σ H Q) : PA X es t' := ⟨fun p pins s σ H Q I q => h.run p pins s σ H Q I (k _ _ _ q)⟩
theorem PSi {st : Stmt} {t t' : TS} (h : PS X st t) (k : ∀ E σ H, t' E σ H → t E σ H) : PS X st t' := ⟨fun pins s σ H E I q => h.run pins s σ H E I (k _ _ _ q)⟩
theorem PSsi {st : List Stmt} {t t' : TS} (h : PSs X st t) (k : ∀ E σ H, t' E σ H → t E σ H) : PSs X st t' := ⟨fun pins s σ H E I q => h.run pins s σ H E I (k _ _ _ q)⟩
end

/-- the value, free of one's own lists -/
def tD (K : PySem.W.Frag) (w : WE) : TE := fun σ H Q => ∃ (N A : Addr → Prop) (H0 : Hp) (ρ : Rho) (u : Nat) (Qd : D → Nat → Prop), Rel K N A H0 σ H ρ u ∧ w ρ u Qd ∧
  ∀ v H' d u', Step H H' → MInv A u' K H' → Da K A H' v d → Qd d u' → Q v H'
/-- the value, borrowed -/
def tBo (K : PySem.W.Frag) (w : WE) : TE := fun σ H Q => ∃ (N A : Addr → Prop) (H0 : Hp) (ρ : Rho) (u : Nat) (Qd : D → Nat → Prop), Rel K N A H0 σ H ρ u ∧ w ρ u Qd ∧
  ∀ v H' d u', Step H H' → MInv A u' K H' → Db K N A H' v d → Qd d u' → Q v H'
/-- a new list -/
def tF (K : PySem.W.Frag) (w : WA) : TE := fun σ H Q => ∃ (N A : Addr → Prop) (H0 : Hp) (ρ : Rho) (u : Nat) (Qd : List D → Nat → Prop), Rel K N A H0 σ H ρ u ∧ w ρ u Qd ∧
  ∀ p vs H' ds u', Step H H' → MInv (Aand A p) u' K H' → H p = none → H' p = some (.lst vs) → DaAll K (Aand A p) H' vs ds → Qd ds u' → Q (.ref p) H'
/-- a test -/
def tTe (K : PySem.W.Frag) (w : WT) : TT := fun σ H Q => ∃ (N A : Addr → Prop) (H0 : Hp) (ρ : Rho) (u : Nat) (Qd : Bool → Nat → Prop), Rel K N A H0 σ H ρ u ∧ w ρ u Qd ∧
  ∀ b H' u', Step H H' → MInv A u' K H' → Qd b u' → Q b H'
/-- arguments -/
def tAr (K : PySem.W.Frag) (w : WA) : TA := fun σ H Q => ∃ (N A : Addr → Prop) (H0 : Hp) (ρ : Rho) (u : Nat) (Qd : List D → Nat → Prop), Rel K N A H0 σ H ρ u ∧ w ρ u Qd ∧
  ∀ vs H' ds u', Step H H' → MInv A u' K H' → DaAll K A H' vs ds → Qd ds u' → Q vs H'
inductive DbAll (K : PySem.W.Frag) (N A : Addr → Prop) (H : Hp) : List V → List D → Prop
  | nil : DbAll K N A H [] []
  | cons {v : V} {vs : List V} {d : D} {ds : List D} : Db K N A H v d → DbAll K N A H vs ds → DbAll K N A H (v :: vs) (d :: ds)
theorem DbAll.step {K : PySem.W.Frag} {N A : Addr → Prop} {H H' : Hp} (s : Step H H') : ∀ {vs : List V} {ds : List D}, DbAll K N A H vs ds → DbAll K N A H' vs ds
  | _, _, .nil => .nil
  | _, _, .cons h t => .cons (h.step s) (t.step s)
/-- arguments, borrowed -/
def tAb (K : PySem.W.Frag) (w : WA) : TA := fun σ H Q => ∃ (N A : Addr → Prop) (H0 : Hp) (ρ : Rho) (u : Nat) (Qd : List D → Nat → Prop), Rel K N A H0 σ H ρ u ∧ w ρ u Qd ∧
  ∀ vs H' ds u', Step H H' → MInv A u' K H' → DbAll K N A H' vs ds → Qd ds u' → Q vs H'

/-- statements: ends over data -/
structure DE where
  nx : Rho → Nat → Prop
  rt : D → Nat → Prop
  bk : Rho → Nat → Prop := fun _ _ => False
  ct : Rho → Nat → Prop := fun _ _ => False
  ex : Value → Nat → Prop := fun _ _ => False
abbrev WS := DE → Rho → Nat → Prop
/-- with what may be let out -/
def tSx (K : PySem.W.Frag) (W : XK) (w : WS) : TS := fun E σ H => ∃ (N A : Addr → Prop) (H0 : Hp) (ρ : Rho) (u : Nat) (F : DE), Rel K N A H0 σ H ρ u ∧ w F ρ u ∧
  (∀ A' σ' H' ρ' u', Goes A A' H H' → Rel K N A' H0 σ' H' ρ' u' → F.nx ρ' u' → E.nx σ' H') ∧
  (∀ v H' d u', Step H0 H' → MInv N u' K H' → Da K N H' v d → F.rt d u' → E.rt v H') ∧
  (∀ A' σ' H' ρ' u', Goes A A' H H' → Rel K N A' H0 σ' H' ρ' u' → F.bk ρ' u' → E.bk σ' H') ∧
  (∀ A' σ' H' ρ' u', Goes A A' H H' → Rel K N A' H0 σ' H' ρ' u' → F.ct ρ' u' → E.ct σ' H') ∧
  (∀ c H' u', Step H0 H' → MInv N u' K H' → F.ex c u' → W c none H')
abbrev tSt (K : PySem.W.Frag) (w : WS) : TS := tSx K (fun _ _ _ => False) w

section
variable {X : Cx} {K : PySem.W.Frag}
theorem pb {e : Expr} {w : WE} (h : PE X e (tD K w)) : PE X e (tBo K w) := PEi h fun σ H Q ⟨N, A, H0, ρ, u, Qd, R, hw, k⟩ =>
  ⟨N, A, H0, ρ, u, Qd, R, hw, fun v H' d u' s m h q => k v H' d u' s m (.da h) q⟩
/-- a new list as a value -/
theorem pf {e : Expr} {w : WA} (h : PE X e (tF K w)) : PE X e (tD K fun ρ u Q => w ρ u fun ds u' => Q (.list ds) u') := PEi h fun σ H Q ⟨N, A, H0, ρ, u, Qd, R, hw, k⟩ =>
  ⟨N, A, H0, ρ, u, fun ds u' => Qd (.list ds) u', R, hw, fun p vs H' ds u' s m hp hq ha q => k (.ref p) H' (.list ds) u' s m.un (.lst hq (R.fresh hp) (ha.goes (.less fun a h => .inl h))) q⟩

/-! ### names, constants -/
@[simp] def wVar (i : Nat) : WE := fun ρ u Q => ∃ s, ρ[i]? = some (some s) ∧ Q s.val u
@[simp] def wVarD (i : Nat) : WE := fun ρ u Q => ∃ x, ρ[i]? = some (some (SV.d x)) ∧ Q x u
@[simp] def wC (d : D) : WE := fun _ u Q => Q d u
theorem pnB {i : Nat} {e : Expr} (h : PE X e (tVar i)) : PE X e (tBo K (wVar i)) := PEi h fun σ H Q ⟨N, A, H0, ρ, u, Qd, R, ⟨s, e, hw⟩, k⟩ => by
  obtain ⟨v, h1, h2⟩ := R.val e
  exact ⟨v, h1, k v H _ u (Step.refl H) R.minv h2 hw⟩
theorem pnD {i : Nat} {e : Expr} (h : PE X e (tVar i)) : PE X e (tD K (wVarD i)) := PEi h fun σ H Q ⟨N, A, H0, ρ, u, Qd, R, ⟨x, e, hw⟩, k⟩ => by
  obtain ⟨v, h1, h2⟩ := R.dat i x e
  exact ⟨v, h1, k v H _ u (Step.refl H) R.minv h2 hw⟩
theorem pcI {e : Expr} {i : Int} (h : PE X e (tC (.int i))) : PE X e (tD K (wC (.int i))) := PEi h fun σ H Q ⟨N, A, H0, ρ, u, Qd, R, hw, k⟩ => k _ H _ u (Step.refl H) R.minv (.int i) hw
theorem pcS {e : Expr} {i : Str} (h : PE X e (tC (.str i))) : PE X e (tD K (wC (.str i))) := PEi h fun σ H Q ⟨N, A, H0, ρ, u, Qd, R, hw, k⟩ => k _ H _ u (Step.refl H) R.minv (.str i) hw
theorem pcB {e : Expr} {i : Bool} (h : PE X e (tC (.bl i))) : PE X e (tD K (wC (.bool i))) := PEi h fun σ H Q ⟨N, A, H0, ρ, u, Qd, R, hw, k⟩ => k _ H _ u (Step.refl H) R.minv (.bl i) hw
theorem pcN {e : Expr} (h : PE X e (tC .non)) : PE X e (tD K (wC .none)) := PEi h fun σ H Q ⟨N, A, H0, ρ, u, Qd, R, hw, k⟩ => k _ H _ u (Step.refl H) R.minv .non hw

/-! ### two operands -/
/-- an operation over data: what it asks and gives (no own lists among what it gives) -/
def OpD (K : PySem.W.Frag) (r : R2) (f : D → D → (D → Prop) → Prop) : Prop :=
  ∀ (N A : Addr → Prop) (H : Hp) (x y : V) (c d : D) (Q : VK) (Qd : D → Prop) (u : Nat), (∀ p, H p = none → ¬ A p) → MInv A u K H → Db K N A H x c → Db K N A H y d → f c d Qd → (∀ v H' z, Step H H' → MInv A u K H' → Da K A H' v z → Qd z → Q v H') → r x y H Q
@[simp] def w2 (f : D → D → (D → Prop) → Prop) (wa wb : WE) : WE := fun ρ u Q => wa ρ u fun c u1 => wb ρ u1 fun d u2 => f c d fun z => Q z u2
theorem tOp_of {r : R2} {f : D → D → (D → Prop) → Prop} (o : OpD K r f) {wa wb : WE} : ∀ σ H Q, tD K (w2 f wa wb) σ H Q → tOp r (tBo K wa) (tBo K wb) σ H Q := fun σ H Q ⟨N, A, H0, ρ, u, Qd, R, hw, k⟩ =>
  ⟨N, A, H0, ρ, u, _, R, hw, fun x H1 c u1 s1 m1 hx q1 => ⟨N, A, H0, ρ, u1, _, R.go s1 m1, q1, fun y H2 d u2 s2 m2 hy q2 =>
    o N A H2 x y c d Q _ u2 (fun p hp => R.fresh ((s1.trans s2).fresh hp)) m2 (hx.step s2) hy q2 fun v H3 z s3 m3 hv qz => k v H3 z u2 ((s1.trans s2).trans s3) m3 hv qz⟩⟩
theorem p2 {r : R2} {f : D → D → (D → Prop) → Prop} {e a b : Expr} {wa wb : WE} (o : OpD K r f) (h : PE X e (tOp r (tBo K wa) (tBo K wb))) : PE X e (tD K (w2 f wa wb)) := PEi h (tOp_of o)
theorem pBin {op : Operator} {r : R2} {f : D → D → (D → Prop) → Prop} {a b : Expr} {pos : Pos} {wa wb : WE} (ho : OpR X (binaryOp op) r) (o : OpD K r f) (ha : PE X a (tBo K wa)) (hb : PE X b (tBo K wb)) : PE X (.BinOp a op b pos) (tD K (w2 f wa wb)) := PEi (pe_op ho ha hb) (tOp_of o)
theorem pCmp {op : CmpOp} {r : R2} {f : D → D → (D → Prop) → Prop} {a b : Expr} {pos : Pos} {wa wb : WE} (ho : OpR X (compareOp op) r) (o : OpD K r f) (ha : PE X a (tBo K wa)) (hb : PE X b (tBo K wb)) (hm : behindInMarks op b = false) : PE X (.Compare a [op] [b] pos) (tD K (w2 f wa wb)) := PEi (pe_cmpR ho ha hb hm) (tOp_of o)
/-- the same as a test -/
@[simp] def wTst (w : WE) : WT := fun ρ u Q => w ρ u fun d u' => ∃ b, d = .bool b ∧ Q b u'
theorem pT {e : Expr} {w : WE} (h : PE X e (tD K w)) (hv : ∀ t, PE X e t → PT X e (tB t)) : PT X e (tTe K (wTst w)) := PTi (hv _ h) fun σ H Q ⟨N, A, H0, ρ, u, Qd, R, hw, k⟩ =>
  ⟨N, A, H0, ρ, u, _, R, hw, fun v H' d u' s m hd ⟨b, e, q⟩ => ⟨b, by subst e; cases hd; rfl, k b H' u' s m q⟩⟩
theorem pTc {op : CmpOp} {r : R2} {f : D → D → (D → Prop) → Prop} {a b : Expr} {pos : Pos} {wa wb : WE} (ho : OpR X (compareOp op) r) (o : OpD K r f) (ha : PE X a (tBo K wa)) (hb : PE X b (tBo K wb)) (hm : behindInMarks op b = false) : PT X (.Compare a [op] [b] pos) (tTe K (wTst (w2 f wa wb))) :=
  PTi (pt_cmpR ho ha hb hm) fun σ H Q ⟨N, A, H0, ρ, u, Qd, R, hw, k⟩ => tOp_of o σ H _ ⟨N, A, H0, ρ, u, _, R, hw, fun v H' d u' s m hd ⟨b, e, q⟩ => ⟨b, by subst e; cases hd; rfl, k b H' u' s m q⟩⟩

/-! the operations -/
@[simp] def fAdd : D → D → (D → Prop) → Prop
  | .int i, .int j, Q => Q (.int (i + j))
  | .list xs, .list ys, Q => xs.length + ys.length ≤ 100000 ∧ Q (.list (xs ++ ys))
  | .tuple xs, .tuple ys, Q => xs.length + ys.length ≤ 100000 ∧ Q (.tuple (xs ++ ys))
  | _, _, _ => False
@[simp] def fII (g : Int → Int → D) (C : Int → Int → Prop) : D → D → (D → Prop) → Prop
  | .int i, .int j, Q => C i j ∧ Q (g i j)
  | _, _, _ => False
@[simp] def fI0 (g : Int → Int → D) : D → D → (D → Prop) → Prop
  | .int i, .int j, Q => Q (g i j)
  | _, _, _ => False
theorem od_II {C : Int → Int → Prop} {g : Int → Int → Int} : OpD K (rI C fun i j => .int (g i j)) (fII (fun i j => .int (g i j)) C) := fun N A H x y c d Q Qd u hf hm hx hy h k => by
  cases c <;> cases d <;> try exact h.elim
  rw [hx.ints, hy.ints]
  exact ⟨_, _, rfl, rfl, h.1, k _ H _ (Step.refl H) hm (.int _) h.2⟩
theorem od_I0 {g : Int → Int → Int} : OpD K (rI0 fun i j => .int (g i j)) (fI0 fun i j => .int (g i j)) := fun N A H x y c d Q Qd u hf hm hx hy h k => by
  cases c <;> cases d <;> try exact h.elim
  rw [hx.ints, hy.ints]
  exact ⟨_, _, rfl, rfl, k _ H _ (Step.refl H) hm (.int _) h⟩
theorem od_B0 {g : Int → Int → Bool} : OpD K (rI0 fun i j => .bl (g i j)) (fI0 fun i j => .bool (g i j)) := fun N A H x y c d Q Qd u hf hm hx hy h k => by
  cases c <;> cases d <;> try exact h.elim
  rw [hx.ints, hy.ints]
  exact ⟨_, _, rfl, rfl, k _ H _ (Step.refl H) hm (.bl _) h⟩
end
end DW

set_option Elab.async false
set_option linter.all false
set_option maxRecDepth 100000
set_option maxHeartbeats 2000000
namespace DW
open PySem PySem.Spec PyProof.Rows L2
theorem szOf {n : Nat} (h : n ≤ 100000) : n ≤ sizeLine := Nat.le_trans h (by decide)
theorem szLt {n : Nat} (h : n < 100000) : n < sizeLine := Nat.lt_of_lt_of_le h (by decide)
section
variable {X : Cx} {K : PySem.W.Frag}
theorem od_or1 {r r' : R2} {f : D → D → (D → Prop) → Prop} (h : OpD K r f) : OpD K (fun x y H Q => r x y H Q ∨ r' x y H Q) f := fun N A H x y c d Q Qd u hf hm hx hy q k => .inl (h N A H x y c d Q Qd u hf hm hx hy q k)

/-! ### + -/
def rAddD (K : PySem.W.Frag) : R2 := fun x y H Q => rI0 (fun i j => .int (i + j)) x y H Q ∨ rCat x y H Q ∨ rCatA K x y H Q
theorem op_addD : OpR X (binaryOp .Add) (rAddD X.K) := OpR.or op_add (OpR.or op_cat op_catA)
theorem od_add : OpD K (rAddD K) fAdd := fun N A H x y c d Q Qd u hf hm hx hy h k => by
  cases c <;> cases d <;> try exact h.elim
  · rw [hx.ints, hy.ints]
    exact .inl ⟨_, _, rfl, rfl, k _ H _ (Step.refl H) hm (.int _) h⟩
  · obtain ⟨a, xs, rfl, ha, hxs⟩ := hx.lists
    obtain ⟨b, ys, rfl, hb, hys⟩ := hy.lists
    refine .inr (.inl ⟨a, b, xs, ys, rfl, rfl, ha, hb, szOf (by rw [hxs.length, hys.length]; exact h.1), fun p hp => ?_⟩)
    exact k _ _ _ (Step.new hp) (hm.new hp (fun m => m)) (.lst upd_same (hf p hp) ((hxs.append hys).goes (Step.new hp).goes)) h.2
  · obtain ⟨a, xs, rfl, ha, na, hxs⟩ := hx.tuples
    obtain ⟨b, ys, rfl, hb, nb, hys⟩ := hy.tuples
    refine .inr (.inr ⟨a, b, xs, ys, rfl, rfl, .inl (.inl ha), .inl (.inl hb), szOf (by rw [hxs.length, hys.length]; exact h.1), fun e => ?_, fun _ e => ?_, fun _ _ p hp => ?_⟩)
    · subst e
      cases hxs
      exact k _ H _ (Step.refl H) hm (.tup hb nb hys) h.2
    · subst e
      cases hys
      have h2 := h.2
      rw [List.append_nil] at h2
      exact k _ H _ (Step.refl H) hm (.tup ha na hxs) h2
    · exact k _ _ _ (Step.new hp) (hm.new hp (fun m => m)) (.tup upd_same (hf p hp) ((hxs.append hys).goes (Step.new hp).goes)) h.2
/-- a new list from two -/
@[simp] def fAddL : D → D → (List D → Prop) → Prop
  | .list xs, .list ys, Q => xs.length + ys.length ≤ 100000 ∧ Q (xs ++ ys)
  | _, _, _ => False
theorem pAddF {a b : Expr} {pos : Pos} {wa wb : WE} (ha : PE X a (tBo X.K wa)) (hb : PE X b (tBo X.K wb)) : PE X (.BinOp a .Add b pos) (tF X.K fun ρ u Q => wa ρ u fun c u1 => wb ρ u1 fun d u2 => fAddL c d fun z => Q z u2) :=
  PEi (pe_op op_addD ha hb) fun σ H Q ⟨N, A, H0, ρ, u, Qd, R, hw, k⟩ => ⟨N, A, H0, ρ, u, _, R, hw, fun x H1 c u1 s1 m1 hx q1 => ⟨N, A, H0, ρ, u1, _, R.go s1 m1, q1, fun y H2 d u2 s2 m2 hy q2 => by
    cases c <;> cases d <;> try exact q2.elim
    obtain ⟨a, xs, rfl, ha, hxs⟩ := (hx.step s2).lists
    obtain ⟨b, ys, rfl, hb, hys⟩ := hy.lists
    refine .inr (.inl ⟨a, b, xs, ys, rfl, rfl, ha, hb, szOf (by rw [hxs.length, hys.length]; exact q2.1), fun p hp => ?_⟩)
    exact k p _ _ _ _ ((s1.trans s2).trans (Step.new hp)) (m2.newA hp (fun m => m)) ((s1.trans s2).fresh hp) upd_same ((hxs.append hys).goes (goes_and (Step.new hp) hp)) q2.2⟩⟩
/-! ### * -/
@[simp] def fMul : D → D → (D → Prop) → Prop
  | .int i, .int j, Q => ((-(2 ^ 64) < i ∧ i < 2 ^ 64) ∨ (-(2 ^ 64) < j ∧ j < 2 ^ 64)) ∧ Q (.int (i * j))
  | .list xs, .int j, Q => 0 ≤ j ∧ j ≤ 1000 ∧ xs.length ≤ 100 ∧ Q (.list (List.replicate j.toNat xs).flatten)
  | _, _, _ => False
def rMulD : R2 := fun x y H Q => rI CMul (fun i j => .int (i * j)) x y H Q ∨ rRep x y H Q
theorem op_mulD : OpR X (binaryOp .Mult) rMulD := OpR.or op_mul op_rep
theorem DaAll.rep {A : Addr → Prop} {H : Hp} {vs : List V} {ds : List D} (h : DaAll K A H vs ds) : ∀ n : Nat, DaAll K A H (List.replicate n vs).flatten (List.replicate n ds).flatten
  | 0 => .nil
  | n + 1 => by
    rw [List.replicate_succ, List.replicate_succ, List.flatten_cons, List.flatten_cons]
    exact h.append (DaAll.rep h n)
theorem od_mul : OpD K rMulD fMul := fun N A H x y c d Q Qd u hf hm hx hy h k => by
  cases c <;> cases d <;> try exact h.elim
  · rw [hx.ints, hy.ints]
    exact .inl ⟨_, _, rfl, rfl, h.1, k _ H _ (Step.refl H) hm (.int _) h.2⟩
  · obtain ⟨a, xs, rfl, ha, hxs⟩ := hx.lists
    rw [hy.ints]
    obtain ⟨h1, h2, h3, h4⟩ := h
    refine .inr ⟨a, _, xs, rfl, rfl, ha, by omega, by omega, szOf ?_, fun p hp => ?_⟩
    · rw [hxs.length]
      rename_i j
      exact Nat.le_trans (Nat.mul_le_mul h3 (by omega : j.toNat ≤ 1000)) (by decide)
    · exact k _ _ _ (Step.new hp) (hm.new hp (fun m => m)) (.lst upd_same (hf p hp) ((hxs.rep _).goes (Step.new hp).goes)) h4
/-! ### == != in -/
@[simp] def fEq (neg : Bool) : D → D → (D → Prop) → Prop := fun c d Q => SeqAt.shaped c = true ∧ SeqAt.shaped d = true ∧ Q (.bool (if neg then !PyData.eqv c d else PyData.eqv c d))
theorem od_eq : OpD K (rEqD K) (fEq false) := fun N A H x y c d Q Qd u hf hm hx hy h k =>
  ⟨c, d, hx.dp (SeqAt.canLay_of_shaped h.1), hy.dp (SeqAt.canLay_of_shaped h.2.1), h.1, h.2.1, k _ H _ (Step.refl H) hm (.bl _) h.2.2⟩
theorem od_ne : OpD K (rNeD K) (fEq true) := fun N A H x y c d Q Qd u hf hm hx hy h k =>
  ⟨c, d, hx.dp (SeqAt.canLay_of_shaped h.1), hy.dp (SeqAt.canLay_of_shaped h.2.1), h.1, h.2.1, k _ H _ (Step.refl H) hm (.bl _) h.2.2⟩
@[simp] def fIn (neg : Bool) : D → D → (D → Prop) → Prop
  | c, .list ds, Q => SeqAt.shaped c = true ∧ SeqAt.shaped (.list ds) = true ∧ Q (.bool (if neg then !ds.any (fun z => PyData.eqv z c) else ds.any (fun z => PyData.eqv z c)))
  | _, _, _ => False
theorem od_in : OpD K (rInD K) (fIn false) := fun N A H x y c d Q Qd u hf hm hx hy h k => by
  cases d <;> try exact h.elim
  exact ⟨c, _, hx.dp (SeqAt.canLay_of_shaped h.1), hy.dp (SeqAt.canLay_of_shaped h.2.1), h.1, h.2.1, k _ H _ (Step.refl H) hm (.bl _) h.2.2⟩
theorem od_notIn : OpD K (rNotInD K) (fIn true) := fun N A H x y c d Q Qd u hf hm hx hy h k => by
  cases d <;> try exact h.elim
  exact ⟨c, _, hx.dp (SeqAt.canLay_of_shaped h.1), hy.dp (SeqAt.canLay_of_shaped h.2.1), h.1, h.2.1, k _ H _ (Step.refl H) hm (.bl _) h.2.2⟩
/-! ### is None -/
@[simp] def isNon : D → Bool
  | .none => true
  | _ => false
theorem Db.isNon {N A : Addr → Prop} {H : Hp} {v : V} {d : D} (h : Db K N A H v d) : decide (v = .non) = isNon d := by
  cases h with
  | da h => cases h <;> simp [DW.isNon, sD, eD]
  | lst => simp [DW.isNon]
@[simp] def wIsN (neg : Bool) (w : WE) : WE := fun ρ u Q => w ρ u fun d u' => Q (.bool (if neg then !isNon d else isNon d)) u'
theorem pIsN {a : Expr} {w : WE} {j : Nat} {p p' : Pos} (h : PE X a (tBo X.K w)) : PE X (.Compare a [.Is] [.Constant .none j p'] p) (tD X.K (wIsN false w)) := PEi (pe_cmp (pc_isN h)) fun σ H Q ⟨N, A, H0, ρ, u, Qd, R, hw, k⟩ =>
  ⟨N, A, H0, ρ, u, _, R, hw, fun x H1 c u1 s1 m1 hx q1 => by
    show Q (.bl (decide (x = .non))) H1
    rw [hx.isNon]
    exact k _ _ _ _ s1 m1 (.bl _) q1⟩
theorem pNotN {a : Expr} {w : WE} {j : Nat} {p p' : Pos} (h : PE X a (tBo X.K w)) : PE X (.Compare a [.IsNot] [.Constant .none j p'] p) (tD X.K (wIsN true w)) := PEi (pe_cmp (pc_notN h)) fun σ H Q ⟨N, A, H0, ρ, u, Qd, R, hw, k⟩ =>
  ⟨N, A, H0, ρ, u, _, R, hw, fun x H1 c u1 s1 m1 hx q1 => by
    show Q (.bl (!decide (x = .non))) H1
    rw [hx.isNon]
    exact k _ _ _ _ s1 m1 (.bl _) q1⟩
/-! ### chains a < b < c -/
@[simp] def w3 (f g : D → D → (D → Prop) → Prop) (wa wb wc : WE) : WE := fun ρ u Q => wa ρ u fun c u1 => wb ρ u1 fun d u2 => f c d fun z => ∃ b, z = .bool b ∧ (if b = true then wc ρ u2 fun e u3 => g d e fun y => Q y u3 else Q (.bool false) u2)
theorem pChain {op op' : CmpOp} {r r' : R2} {f g : D → D → (D → Prop) → Prop} {a b c : Expr} {pos : Pos} {wa wb wc : WE} {t : TE → TE → TE → TE} (ho : OpD X.K r f) (ho' : OpD X.K r' g)
    (h : PE X (.Compare a [op, op'] [b, c] pos) (tChain r r' (tBo X.K wa) (tBo X.K wb) (tBo X.K wc))) : PE X (.Compare a [op, op'] [b, c] pos) (tD X.K (w3 f g wa wb wc)) := PEi h fun σ H Q ⟨N, A, H0, ρ, u, Qd, R, hw, k⟩ =>
  ⟨N, A, H0, ρ, u, _, R, hw, fun x H1 c u1 s1 m1 hx q1 => ⟨N, A, H0, ρ, u1, _, R.go s1 m1, q1, fun y H2 d u2 s2 m2 hy q2 =>
    ho N A H2 x y c d _ _ u2 (fun p hp => R.fresh ((s1.trans s2).fresh hp)) m2 (hx.step s2) hy q2 fun v H3 z s3 m3 hv ⟨b, e, qz⟩ => by
      subst e
      cases hv
      refine ⟨b, rfl, ?_⟩
      cases b with
      | false => exact k _ _ _ u2 ((s1.trans s2).trans s3) m3 (.bl false) qz
      | true => exact ⟨N, A, H0, ρ, u2, _, R.go ((s1.trans s2).trans s3) m3, qz, fun w H4 e u3 s4 m4 hw q4 =>
          ho' N A H4 y w d e _ _ u3 (fun p hp => R.fresh ((((s1.trans s2).trans s3).trans s4).fresh hp)) m4 ((hy.step s3).step s4) hw q4 fun v H5 z s5 m5 hv qz => k v H5 z u3 ((((s1.trans s2).trans s3).trans s4).trans s5) m5 hv qz⟩⟩⟩
/-! ### and, or, not, if -/
@[simp] def wAnd (wa wb : WE) : WE := fun ρ u Q => wa ρ u fun c u1 => ∃ b, c = .bool b ∧ if b = true then wb ρ u1 Q else Q (.bool false) u1
@[simp] def wOr (wa wb : WE) : WE := fun ρ u Q => wa ρ u fun c u1 => ∃ b, c = .bool b ∧ if b = true then Q (.bool true) u1 else wb ρ u1 Q
@[simp] def wNot (wa : WE) : WE := fun ρ u Q => wa ρ u fun c u1 => ∃ b, c = .bool b ∧ Q (.bool (!b)) u1
theorem pAnd {a b : Expr} {rest : List Expr} {pos : Pos} {wa wb : WE} (ha : PE X a (tD X.K wa)) (hb : PE X (.BoolOp .And (b :: rest) pos) (tD X.K wb)) : PE X (.BoolOp .And (a :: b :: rest) pos) (tD X.K (wAnd wa wb)) := PEi (pe_and ha hb) fun σ H Q ⟨N, A, H0, ρ, u, Qd, R, hw, k⟩ =>
  ⟨N, A, H0, ρ, u, _, R, hw, fun x H1 c u1 s1 m1 hx ⟨b, e, q⟩ => by
    subst e
    cases hx
    refine ⟨b, rfl, ?_⟩
    cases b with
    | false => exact k _ _ _ u1 s1 m1 (.bl false) q
    | true => exact ⟨N, A, H0, ρ, u1, _, R.go s1 m1, q, fun v H2 d u2 s2 m2 hd q2 => k v H2 d u2 (s1.trans s2) m2 hd q2⟩⟩
theorem pOr {a b : Expr} {rest : List Expr} {pos : Pos} {wa wb : WE} (ha : PE X a (tD X.K wa)) (hb : PE X (.BoolOp .Or (b :: rest) pos) (tD X.K wb)) : PE X (.BoolOp .Or (a :: b :: rest) pos) (tD X.K (wOr wa wb)) := PEi (pe_or ha hb) fun σ H Q ⟨N, A, H0, ρ, u, Qd, R, hw, k⟩ =>
  ⟨N, A, H0, ρ, u, _, R, hw, fun x H1 c u1 s1 m1 hx ⟨b, e, q⟩ => by
    subst e
    cases hx
    refine ⟨b, rfl, ?_⟩
    cases b with
    | true => exact k _ _ _ u1 s1 m1 (.bl true) q
    | false => exact ⟨N, A, H0, ρ, u1, _, R.go s1 m1, q, fun v H2 d u2 s2 m2 hd q2 => k v H2 d u2 (s1.trans s2) m2 hd q2⟩⟩
theorem pOne {op : BoolOp} {a : Expr} {pos : Pos} {wa : WE} (ha : PE X a (tD X.K wa)) : PE X (.BoolOp op [a] pos) (tD X.K wa) := pe_one ha
theorem pNot {a : Expr} {pos : Pos} {wa : WE} (ha : PE X a (tD X.K wa)) : PE X (.UnaryOp .Not a pos) (tD X.K (wNot wa)) := PEi (pe_not ha) fun σ H Q ⟨N, A, H0, ρ, u, Qd, R, hw, k⟩ =>
  ⟨N, A, H0, ρ, u, _, R, hw, fun x H1 c u1 s1 m1 hx ⟨b, e, q⟩ => ⟨b, by subst e; cases hx; rfl, k _ _ _ u1 s1 m1 (.bl _) q⟩⟩
/-- tests -/
@[simp] def wtAnd (wa wb : WT) : WT := fun ρ u Q => wa ρ u fun b u1 => if b = true then wb ρ u1 Q else Q false u1
@[simp] def wtOr (wa wb : WT) : WT := fun ρ u Q => wa ρ u fun b u1 => if b = true then Q true u1 else wb ρ u1 Q
@[simp] def wtNot (wa : WT) : WT := fun ρ u Q => wa ρ u fun b u1 => Q (!b) u1
theorem ptAnd1 {a : Expr} {pos : Pos} {wa : WT} (ha : PT X a (tTe X.K wa)) : PW X (.BoolOp .And [a] pos) (tTe X.K wa) := pw_and1 ha
theorem ptOr1 {a : Expr} {pos : Pos} {wa : WT} (ha : PT X a (tTe X.K wa)) : PW X (.BoolOp .Or [a] pos) (tTe X.K wa) := pw_or1 ha
theorem ptAnd {a b : Expr} {rest : List Expr} {pos : Pos} {wa wb : WT} (ha : PT X a (tTe X.K wa)) (hb : PW X (.BoolOp .And (b :: rest) pos) (tTe X.K wb)) : PW X (.BoolOp .And (a :: b :: rest) pos) (tTe X.K (wtAnd wa wb)) := PWi (pw_and ha hb) fun σ H Q ⟨N, A, H0, ρ, u, Qd, R, hw, k⟩ =>
  ⟨N, A, H0, ρ, u, _, R, hw, fun b H1 u1 s1 m1 q => by
    cases b with
    | false => exact k _ _ u1 s1 m1 q
    | true => exact ⟨N, A, H0, ρ, u1, _, R.go s1 m1, q, fun v H2 u2 s2 m2 q2 => k v H2 u2 (s1.trans s2) m2 q2⟩⟩
theorem ptOr {a b : Expr} {rest : List Expr} {pos : Pos} {wa wb : WT} (ha : PT X a (tTe X.K wa)) (hb : PW X (.BoolOp .Or (b :: rest) pos) (tTe X.K wb)) : PW X (.BoolOp .Or (a :: b :: rest) pos) (tTe X.K (wtOr wa wb)) := PWi (pw_or ha hb) fun σ H Q ⟨N, A, H0, ρ, u, Qd, R, hw, k⟩ =>
  ⟨N, A, H0, ρ, u, _, R, hw, fun b H1 u1 s1 m1 q => by
    cases b with
    | true => exact k _ _ u1 s1 m1 q
    | false => exact ⟨N, A, H0, ρ, u1, _, R.go s1 m1, q, fun v H2 u2 s2 m2 q2 => k v H2 u2 (s1.trans s2) m2 q2⟩⟩
theorem ptNot {a : Expr} {pos : Pos} {wa : WT} (ha : PT X a (tTe X.K wa)) : PT X (.UnaryOp .Not a pos) (tTe X.K (wtNot wa)) := PTi (pt_not ha) fun σ H Q ⟨N, A, H0, ρ, u, Qd, R, hw, k⟩ =>
  ⟨N, A, H0, ρ, u, _, R, hw, fun b H1 u1 s1 m1 q => k _ _ u1 s1 m1 q⟩
/-- an expression as a test -/
theorem ptV {e : Expr} {w : WE} (h : PE X e (tD X.K w)) (he : ∀ whole, isTrue e X.env whole = (do let v ← whole; standAt e.pos; holding [v] (truthy v)) := by intro _; rfl) : PT X e (tTe X.K (wTst w)) := pT h fun t g => pt_val g he
@[simp] def wIf (wc : WT) (wa wb : WE) : WE := fun ρ u Q => wc ρ u fun b u1 => if b = true then wa ρ u1 Q else wb ρ u1 Q
theorem pIf {c a b : Expr} {pos : Pos} {wc : WT} {wa wb : WE} (hc : PT X c (tTe X.K wc)) (ha : PE X a (tD X.K wa)) (hb : PE X b (tD X.K wb)) : PE X (.IfExp c a b pos) (tD X.K (wIf wc wa wb)) := PEi (pe_ifExp hc ha hb) fun σ H Q ⟨N, A, H0, ρ, u, Qd, R, hw, k⟩ =>
  ⟨N, A, H0, ρ, u, _, R, hw, fun b H1 u1 s1 m1 q => by
    cases b with
    | true => exact ⟨N, A, H0, ρ, u1, _, R.go s1 m1, q, fun v H2 d u2 s2 m2 hd q2 => k v H2 d u2 (s1.trans s2) m2 hd q2⟩
    | false => exact ⟨N, A, H0, ρ, u1, _, R.go s1 m1, q, fun v H2 d u2 s2 m2 hd q2 => k v H2 d u2 (s1.trans s2) m2 hd q2⟩⟩
theorem pIfB {c a b : Expr} {pos : Pos} {wc : WT} {wa wb : WE} (hc : PT X c (tTe X.K wc)) (ha : PE X a (tBo X.K wa)) (hb : PE X b (tBo X.K wb)) : PE X (.IfExp c a b pos) (tBo X.K (wIf wc wa wb)) := PEi (pe_ifExp hc ha hb) fun σ H Q ⟨N, A, H0, ρ, u, Qd, R, hw, k⟩ =>
  ⟨N, A, H0, ρ, u, _, R, hw, fun b H1 u1 s1 m1 q => by
    cases b with
    | true => exact ⟨N, A, H0, ρ, u1, _, R.go s1 m1, q, fun v H2 d u2 s2 m2 hd q2 => k v H2 d u2 (s1.trans s2) m2 hd q2⟩
    | false => exact ⟨N, A, H0, ρ, u1, _, R.go s1 m1, q, fun v H2 d u2 s2 m2 hd q2 => k v H2 d u2 (s1.trans s2) m2 hd q2⟩⟩
@[simp] def wNeg (w : WE) : WE := fun ρ u Q => w ρ u fun d u' => ∃ i, d = .int i ∧ Q (.int (-i)) u'
theorem pNeg {a : Expr} {pos : Pos} {wa : WE} (ha : PE X a (tD X.K wa)) : PE X (.UnaryOp .USub a pos) (tD X.K (wNeg wa)) := PEi (pe_un un_neg ha) fun σ H Q ⟨N, A, H0, ρ, u, Qd, R, hw, k⟩ =>
  ⟨N, A, H0, ρ, u, _, R, hw, fun x H1 c u1 s1 m1 hx ⟨i, e, q⟩ => ⟨i, by subst e; cases hx; rfl, k _ _ _ u1 s1 m1 (.int _) q⟩⟩
end
end DW

set_option Elab.async false
set_option linter.all false
set_option maxRecDepth 100000
set_option maxHeartbeats 2000000
namespace DW
open PySem PySem.Spec PyProof.Rows L2
section
variable {X : Cx} {K : PySem.W.Frag}
/-! ### arguments, displays -/
@[simp] def waNil : WA := fun _ u Q => Q [] u
@[simp] def waCons (w : WE) (ws : WA) : WA := fun ρ u Q => w ρ u fun d u1 => ws ρ u1 fun ds u2 => Q (d :: ds) u2
theorem paN : PA X [] (tAr X.K waNil) := PAi pa_nil fun σ H Q ⟨N, A, H0, ρ, u, Qd, R, hw, k⟩ => k [] H [] u (Step.refl H) R.minv .nil hw
theorem paC {e : Expr} {es : List Expr} {w : WE} {ws : WA} (h : PE X e (tD X.K w)) (hs : PA X es (tAr X.K ws)) (he : starEach (e :: es) X.env = (false, eval e X.env) :: starEach es X.env := by rfl) : PA X (e :: es) (tAr X.K (waCons w ws)) := PAi (pa_cons h hs he) fun σ H Q ⟨N, A, H0, ρ, u, Qd, R, hw, k⟩ =>
  ⟨N, A, H0, ρ, u, _, R, hw, fun v H1 d u1 s1 m1 hd q1 => ⟨N, A, H0, ρ, u1, _, R.go s1 m1, q1, fun vs H2 ds u2 s2 m2 hds q2 => k (v :: vs) H2 (d :: ds) u2 (s1.trans s2) m2 (.cons (hd.goes s2.goes) hds) q2⟩⟩
theorem pbN : PA X [] (tAb X.K waNil) := PAi pa_nil fun σ H Q ⟨N, A, H0, ρ, u, Qd, R, hw, k⟩ => k [] H [] u (Step.refl H) R.minv .nil hw
theorem pbC {e : Expr} {es : List Expr} {w : WE} {ws : WA} (h : PE X e (tBo X.K w)) (hs : PA X es (tAb X.K ws)) (he : starEach (e :: es) X.env = (false, eval e X.env) :: starEach es X.env := by rfl) : PA X (e :: es) (tAb X.K (waCons w ws)) := PAi (pa_cons h hs he) fun σ H Q ⟨N, A, H0, ρ, u, Qd, R, hw, k⟩ =>
  ⟨N, A, H0, ρ, u, _, R, hw, fun v H1 d u1 s1 m1 hd q1 => ⟨N, A, H0, ρ, u1, _, R.go s1 m1, q1, fun vs H2 ds u2 s2 m2 hds q2 => k (v :: vs) H2 (d :: ds) u2 (s1.trans s2) m2 (.cons (hd.step s2) hds) q2⟩⟩
@[simp] def wTup (ws : WA) : WE := fun ρ u Q => ws ρ u fun ds u1 => ds.length ≤ 100000 ∧ Q (.tuple ds) u1
theorem pTup {es : List Expr} {k : Nat} {pos : Pos} {ws : WA} (h : PA X es (tAr X.K ws)) : PE X (.Tuple es k pos) (tD X.K (wTup ws)) := PEi (pe_tup h) fun σ H Q ⟨N, A, H0, ρ, u, Qd, R, hw, k⟩ =>
  ⟨N, A, H0, ρ, u, _, R, hw, fun vs H1 ds u1 s1 m1 hd ⟨hl, q⟩ => ⟨szOf (by rw [hd.length]; exact hl), fun p hp =>
    k _ _ _ u1 (s1.trans (Step.new hp)) (m1.new hp (fun m => m)) (.tup upd_same (R.fresh (s1.fresh hp)) (hd.goes (Step.new hp).goes)) q⟩⟩
@[simp] def wLst (ws : WA) : WA := fun ρ u Q => ws ρ u fun ds u1 => ds.length ≤ 100000 ∧ Q ds u1
theorem pLstF {es : List Expr} {pos : Pos} {ws : WA} (h : PA X es (tAr X.K ws)) : PE X (.List es pos) (tF X.K (wLst ws)) := PEi (pe_lst h) fun σ H Q ⟨N, A, H0, ρ, u, Qd, R, hw, k⟩ =>
  ⟨N, A, H0, ρ, u, _, R, hw, fun vs H1 ds u1 s1 m1 hd ⟨hl, q⟩ => ⟨szOf (by rw [hd.length]; exact hl), fun p hp =>
    k p vs _ ds u1 (s1.trans (Step.new hp)) (m1.newA hp (fun m => m)) (s1.fresh hp) upd_same (hd.goes (goes_and (Step.new hp) hp)) q⟩⟩
theorem pDict0 {pos : Pos} : PE X (.Dict [] [] pos) (tD X.K (wC (.dict []))) := PEi pe_dnewK fun σ H Q ⟨N, A, H0, ρ, u, Qd, R, hw, k⟩ p hp =>
  k _ _ _ u (Step.new hp) (R.minv.new hp (fun m => m)) (.dct0 upd_same (R.fresh hp)) hw

/-! ### items -/
@[simp] def fIx : D → D → (D → Prop) → Prop
  | .list xs, .int i, Q => ∃ z, atI xs i = some z ∧ Q z
  | .tuple xs, .int i, Q => ∃ z, atI xs i = some z ∧ Q z
  | _, _, _ => False
def rIxD2 (K : PySem.W.Frag) : R2 := fun x y H Q => rIxL K x y H Q ∨ rIxT K x y H Q
theorem ix_D : IxR X (rIxD2 X.K) := IxR.or ix_list ix_tup
theorem DaAll.at {A : Addr → Prop} {H : Hp} {vs : List V} {ds : List D} (h : DaAll K A H vs ds) {i : Int} {z : D} (e : atI ds i = some z) : ∃ v, atI vs i = some v ∧ Da K A H v z := by
  unfold atI at e ⊢
  rw [h.length]
  cases q : ixN ds.length i with
  | none => rw [q] at e; cases e
  | some j =>
    rw [q] at e
    exact h.get e
theorem od_ix : OpD K (rIxD2 K) fIx := fun N A H x y c d Q Qd u hf hm hx hy h k => by
  cases c <;> cases d <;> try exact h.elim
  · obtain ⟨a, xs, rfl, ha, hxs⟩ := hx.lists
    rw [hy.ints]
    obtain ⟨z, e, q⟩ := h
    obtain ⟨v, hv, hd⟩ := hxs.at e
    exact .inl ⟨a, xs, _, v, rfl, rfl, .inl (.inl ha), hv, k v H z (Step.refl H) hm hd q⟩
  · obtain ⟨a, xs, rfl, ha, _, hxs⟩ := hx.tuples
    rw [hy.ints]
    obtain ⟨z, e, q⟩ := h
    obtain ⟨v, hv, hd⟩ := hxs.at e
    exact .inr ⟨a, xs, _, v, rfl, rfl, .inl (.inl ha), hv, k v H z (Step.refl H) hm hd q⟩
theorem pIx {a b : Expr} {pos : Pos} {wa wb : WE} (ha : PE X a (tBo X.K wa)) (hb : PE X b (tBo X.K wb)) (hs : PlainIx b := by exact fun _ _ => rfl) : PE X (.Subscript a b pos) (tD X.K (w2 fIx wa wb)) := PEi (pe_ix ix_D ha hb hs) (tOp_of od_ix)
/-! ### slices -/
def cutD (xs : List D) (lo hi : Option Int) : List D := (xs.drop (HT.sIx xs.length 0 lo)).take (HT.sIx xs.length xs.length hi - HT.sIx xs.length 0 lo)
theorem DaAll.cut {A : Addr → Prop} {H : Hp} {vs : List V} {ds : List D} (h : DaAll K A H vs ds) (lo hi : Option Int) : DaAll K A H (cutV vs lo hi) (cutD ds lo hi) := by
  unfold cutV cutD
  rw [h.length]
  exact (h.drop _).take _
/-- a part of a slice -/
abbrev WO := Rho → Nat → (Option Int → Nat → Prop) → Prop
def tPo (K : PySem.W.Frag) (w : WO) : TO := fun σ H Q => ∃ (N A : Addr → Prop) (H0 : Hp) (ρ : Rho) (u : Nat) (Qd : Option Int → Nat → Prop), Rel K N A H0 σ H ρ u ∧ w ρ u Qd ∧
  ∀ o H' u', Step H H' → MInv A u' K H' → Qd o u' → Q o H'
theorem POi {e : Option Expr} {t t' : TO} (h : PO X e t) (k : ∀ σ H Q, t' σ H Q → t σ H Q) : PO X e t' := ⟨fun pins s σ H Q I q => h.run pins s σ H Q I (k _ _ _ q)⟩
@[simp] def woN : WO := fun _ u Q => Q none u
@[simp] def woS (w : WE) : WO := fun ρ u Q => w ρ u fun d u1 => ∃ i, d = .int i ∧ Q (some i) u1
theorem poN : PO X none (tPo X.K woN) := POi po_none fun σ H Q ⟨N, A, H0, ρ, u, Qd, R, hw, k⟩ => k none H u (Step.refl H) R.minv hw
theorem poS {e : Expr} {w : WE} (h : PE X e (tD X.K w)) : PO X (some e) (tPo X.K (woS w)) := POi (po_some h) fun σ H Q ⟨N, A, H0, ρ, u, Qd, R, hw, k⟩ =>
  ⟨N, A, H0, ρ, u, _, R, hw, fun v H1 d u1 s1 m1 hd ⟨i, e, q⟩ => ⟨i, by subst e; cases hd; rfl, k _ _ u1 s1 m1 q⟩⟩
def rSlD (K : PySem.W.Frag) : V → Option Int → Option Int → Hp → VK → Prop := fun x lo hi H Q => rSlL K x lo hi H Q ∨ rSlA K x lo hi H Q
theorem sl_D : SlR X (rSlD X.K) := SlR.or sl_list sl_tupA
@[simp] def wSl (we : WE) (wl wh : WO) : WE := fun ρ u Q => we ρ u fun c u1 => wl ρ u1 fun lo u2 => wh ρ u2 fun hi u3 => match c with
  | .list xs => Q (.list (cutD xs lo hi)) u3
  | .tuple xs => Q (.tuple (cutD xs lo hi)) u3
  | _ => False
theorem pSl {e : Expr} {lo hi : Option Expr} {p1 p2 : Pos} {we : WE} {wl wh : WO} (he : PE X e (tBo X.K we)) (hl : PO X lo (tPo X.K wl)) (hh : PO X hi (tPo X.K wh)) : PE X (.Subscript e (.Slice lo hi none p1) p2) (tD X.K (wSl we wl wh)) :=
  PEi (pe_slice sl_D he hl hh) fun σ H Q ⟨N, A, H0, ρ, u, Qd, R, hw, k⟩ => ⟨N, A, H0, ρ, u, _, R, hw, fun x H1 c u1 s1 m1 hx q1 => ⟨N, A, H0, ρ, u1, _, R.go s1 m1, q1, fun lo H2 u2 s2 m2 q2 => ⟨N, A, H0, ρ, u2, _, R.go (s1.trans s2) m2, q2, fun hi H3 u3 s3 m3 q3 => by
    have hx3 := hx.step (s2.trans s3)
    have s := (s1.trans s2).trans s3
    cases c <;> try exact q3.elim
    · obtain ⟨a, xs, rfl, ha, hxs⟩ := hx3.lists
      exact .inl ⟨a, xs, rfl, .inl (.inl ha), fun p hp => k _ _ _ u3 (s.trans (Step.new hp)) (m3.new hp (fun m => m)) (.lst upd_same (R.fresh (s.fresh hp)) ((hxs.cut lo hi).goes (Step.new hp).goes)) q3⟩
    · obtain ⟨a, xs, rfl, ha, na, hxs⟩ := hx3.tuples
      refine .inr ⟨a, xs, rfl, .inl (.inl ha), fun e => ?_, fun _ p hp => ?_⟩
      · rename_i ds
        have e2 : cutD ds lo hi = ds := by
          unfold cutD
          rw [← hxs.length, e.1, e.2, List.drop_zero, Nat.sub_zero, hxs.length, List.take_length]
        have q3' : Qd (.tuple (cutD ds lo hi)) u3 := q3
        rw [e2] at q3'
        exact k _ _ _ u3 s m3 (.tup ha na hxs) q3'
      · exact k _ _ _ u3 (s.trans (Step.new hp)) (m3.new hp (fun m => m)) (.tup upd_same (R.fresh (s.fresh hp)) ((hxs.cut lo hi).goes (Step.new hp).goes)) q3⟩⟩⟩
/-- a slice of a list is a new list -/
@[simp] def wSlF (we : WE) (wl wh : WO) : WA := fun ρ u Q => we ρ u fun c u1 => wl ρ u1 fun lo u2 => wh ρ u2 fun hi u3 => match c with
  | .list xs => Q (cutD xs lo hi) u3
  | _ => False
theorem pSlF {e : Expr} {lo hi : Option Expr} {p1 p2 : Pos} {we : WE} {wl wh : WO} (he : PE X e (tBo X.K we)) (hl : PO X lo (tPo X.K wl)) (hh : PO X hi (tPo X.K wh)) : PE X (.Subscript e (.Slice lo hi none p1) p2) (tF X.K (wSlF we wl wh)) :=
  PEi (pe_slice sl_D he hl hh) fun σ H Q ⟨N, A, H0, ρ, u, Qd, R, hw, k⟩ => ⟨N, A, H0, ρ, u, _, R, hw, fun x H1 c u1 s1 m1 hx q1 => ⟨N, A, H0, ρ, u1, _, R.go s1 m1, q1, fun lo H2 u2 s2 m2 q2 => ⟨N, A, H0, ρ, u2, _, R.go (s1.trans s2) m2, q2, fun hi H3 u3 s3 m3 q3 => by
    have hx3 := hx.step (s2.trans s3)
    have s := (s1.trans s2).trans s3
    cases c <;> try exact q3.elim
    obtain ⟨a, xs, rfl, ha, hxs⟩ := hx3.lists
    exact .inl ⟨a, xs, rfl, .inl (.inl ha), fun p hp => k p _ _ _ u3 (s.trans (Step.new hp)) (m3.newA hp (fun m => m)) (s.fresh hp) upd_same ((hxs.cut lo hi).goes (goes_and (Step.new hp) hp)) q3⟩⟩⟩⟩
/-! ### built-ins of one argument -/
/-- a call by values, over data -/
def CallD (K : PySem.W.Frag) (r : List V → Hp → VK → Prop) (f : List D → (D → Prop) → Prop) : Prop :=
  ∀ (N A : Addr → Prop) (H : Hp) (xs : List V) (ds : List D) (Q : VK) (Qd : D → Prop) (u : Nat), (∀ p, H p = none → ¬ A p) → MInv A u K H → DbAll K N A H xs ds → f ds Qd → (∀ v H' z, Step H H' → MInv A u K H' → Da K A H' v z → Qd z → Q v H') → r xs H Q
@[simp] def wCall (f : List D → (D → Prop) → Prop) (ws : WA) : WE := fun ρ u Q => ws ρ u fun ds u1 => f ds fun z => Q z u1
theorem tCB_of {r : List V → Hp → VK → Prop} {f : List D → (D → Prop) → Prop} (o : CallD K r f) {ws : WA} : ∀ σ H Q, tD K (wCall f ws) σ H Q → tCB r (tAb K ws) σ H Q := fun σ H Q ⟨N, A, H0, ρ, u, Qd, R, hw, k⟩ =>
  ⟨N, A, H0, ρ, u, _, R, hw, fun vs H1 ds u1 s1 m1 hd q1 => o N A H1 vs ds Q _ u1 (fun p hp => R.fresh (s1.fresh hp)) m1 hd q1 fun v H2 z s2 m2 hv qz => k v H2 z u1 (s1.trans s2) m2 hv qz⟩
theorem pCB {e : Expr} {w : WA} {t : TE} {r : List V → Hp → VK → Prop} {f : List D → (D → Prop) → Prop} {ws : WA} (o : CallD X.K r f) (h : PE X e (tCB r (tAb X.K ws))) : PE X e (tD X.K (wCall f ws)) := PEi h (tCB_of o)
@[simp] def fLen : List D → (D → Prop) → Prop
  | [.list xs], Q => Q (.int xs.length)
  | [.tuple xs], Q => Q (.int xs.length)
  | [.dict kvs], Q => ∃ ns, .dict kvs = sD ns ∧ Q (.int (ns.length : Nat))
  | _, _ => False
def rLenD (K : PySem.W.Frag) : List V → Hp → VK → Prop := fun xs H Q => ∃ p ys, xs = [.ref p] ∧ (SqL K H p ys ∨ SqT K H p ys) ∧ Q (.int ys.length) H
theorem cd_len : CallD K (rLenD K) fLen := fun N A H xs ds Q Qd u hf hm hx h k => by
  cases hx with
  | nil => exact h.elim
  | cons h1 ht =>
    rename_i v vs d ds
    cases ht with
    | cons _ _ => cases d <;> exact h.elim
    | nil =>
      cases d <;> try exact h.elim
      · obtain ⟨a, xs, rfl, ha, hxs⟩ := h1.lists
        exact ⟨a, xs, rfl, .inl (.inl (.inl ha)), by rw [hxs.length]; exact k _ H _ (Step.refl H) hm (.int _) h⟩
      · obtain ⟨a, xs, rfl, ha, _, hxs⟩ := h1.tuples
        exact ⟨a, xs, rfl, .inr (.inl (.inl ha)), by rw [hxs.length]; exact k _ H _ (Step.refl H) hm (.int _) h⟩
      · obtain ⟨ns, e, q⟩ := h
        rw [e] at h1
        cases h1 with
        | da h1 =>
          obtain ⟨a, rfl, ha⟩ := h1.scrD
          exact ⟨a, _, rfl, .inl ha, by rw [List.length_map]; exact k _ H _ (Step.refl H) hm (.int _) q⟩
theorem pLen {x : Str} {e : Expr} {p pos : Pos} {w : WE} (hx : x = "len") (hg : Gl X x) (hm : X.mg x = none) (h : PE X e (tBo X.K w)) (he : starEach [e] X.env = (false, eval e X.env) :: starEach [] X.env := by rfl) : PE X (.Call (.Name x p) [e] [] pos) (tD X.K (wCall fLen (waCons w waNil))) := by
  subst hx
  exact PEi (pe_callB call_len_seq hg hm PySem.boot_len (pbC h pbN he) (by decide) (by decide) he rfl) (tCB_of cd_len)
end
end DW

set_option Elab.async false
set_option linter.all false
set_option maxRecDepth 100000
set_option maxHeartbeats 2000000
namespace DW
open PySem PySem.Spec PyProof.Rows L2
section
variable {X : Cx} {K : PySem.W.Frag}
theorem pB1 {id : String} {x : Str} {e : Expr} {p pos : Pos} {w : WE} {r : List V → Hp → VK → Prop} {f : List D → (D → Prop) → Prop} (hc : CallR X (.builtin id) r) (o : CallD X.K r f) (hg : Gl X x) (hm : X.mg x = none) (hv : bootBuiltins x = some (.builtin id)) (h : PE X e (tBo X.K w))
    (hn : x ≠ "__name__" := by decide) (hdb : (x == ("__debug__" : Str)) = false := by decide) (he : starEach [e] X.env = (false, eval e X.env) :: starEach [] X.env := by rfl) : PE X (.Call (.Name x p) [e] [] pos) (tD X.K (wCall f (waCons w waNil))) :=
  PEi (pe_callB hc hg hm hv (pbC h pbN he) hn hdb he rfl) (tCB_of o)
theorem pB2 {id : String} {x : Str} {e e2 : Expr} {p pos : Pos} {w w2 : WE} {r : List V → Hp → VK → Prop} {f : List D → (D → Prop) → Prop} (hc : CallR X (.builtin id) r) (o : CallD X.K r f) (hg : Gl X x) (hm : X.mg x = none) (hv : bootBuiltins x = some (.builtin id)) (h : PE X e (tBo X.K w)) (h2 : PE X e2 (tBo X.K w2))
    (hn : x ≠ "__name__" := by decide) (hdb : (x == ("__debug__" : Str)) = false := by decide) (he : starEach [e, e2] X.env = (false, eval e X.env) :: starEach [e2] X.env := by rfl) (he2 : starEach [e2] X.env = (false, eval e2 X.env) :: starEach [] X.env := by rfl)
    (hpl : (backTo pos (starEach [e2] X.env)).any (·.1) = false := by rfl) : PE X (.Call (.Name x p) [e, e2] [] pos) (tD X.K (wCall f (waCons w (waCons w2 waNil)))) :=
  PEi (pe_callB hc hg hm hv (pbC h (pbC h2 pbN he2) he) hn hdb he hpl) (tCB_of o)
theorem pT1 {T : String} {x : Str} {e : Expr} {p pos : Pos} {w : WE} {r : List V → Hp → VK → Prop} {f : List D → (D → Prop) → Prop} (hc : CallR X (.type T) r) (o : CallD X.K r f) (hg : Gl X x) (hm : X.mg x = none) (hv : bootBuiltins x = some (.type T)) (h : PE X e (tBo X.K w))
    (hn : x ≠ "__name__" := by decide) (hdb : (x == ("__debug__" : Str)) = false := by decide) (he : starEach [e] X.env = (false, eval e X.env) :: starEach [] X.env := by rfl) : PE X (.Call (.Name x p) [e] [] pos) (tD X.K (wCall f (waCons w waNil))) :=
  PEi (pe_callTy hc hg hm hv (pbC h pbN he) hn hdb he rfl) (tCB_of o)
theorem db1 {N A : Addr → Prop} {H : Hp} {xs : List V} {ds : List D} {d : D} (h : DbAll K N A H xs ds) (e : ds = [d]) : ∃ v, xs = [v] ∧ Db K N A H v d := by
  subst e
  cases h with
  | cons h1 ht => cases ht; exact ⟨_, rfl, h1⟩
theorem db2 {N A : Addr → Prop} {H : Hp} {xs : List V} {ds : List D} {d d2 : D} (h : DbAll K N A H xs ds) (e : ds = [d, d2]) : ∃ v v2, xs = [v, v2] ∧ Db K N A H v d ∧ Db K N A H v2 d2 := by
  subst e
  cases h with
  | cons h1 ht =>
    obtain ⟨v2, e, h2⟩ := db1 ht rfl
    subst e
    exact ⟨_, _, rfl, h1, h2⟩
/-- int(i) -/
@[simp] def fInt : List D → (D → Prop) → Prop
  | [.int i], Q => Q (.int i)
  | _, _ => False
theorem cd_int : CallD K (fun xs H Q => (∃ i, xs = [.int i] ∧ Q (.int i) H) ∨ ∃ k, xs = [.bl k] ∧ Q (.int (if k then 1 else 0)) H) fInt := fun N A H xs ds Q Qd u hf hm hx h k => by
  unfold fInt at h
  split at h
  · obtain ⟨v, rfl, hv⟩ := db1 hx rfl
    rw [hv.ints]
    exact .inl ⟨_, rfl, k _ H _ (Step.refl H) hm (.int _) h⟩
  · exact h.elim
/-- max, min of two ints -/
@[simp] def fMax2 : List D → (D → Prop) → Prop
  | [.int i, .int j], Q => Q (.int (if j > i then j else i))
  | _, _ => False
@[simp] def fMin2 : List D → (D → Prop) → Prop
  | [.int i, .int j], Q => Q (.int (if j < i then j else i))
  | _, _ => False
theorem cd_max2 : CallD K (fun xs H Q => ∃ i j, xs = [.int i, .int j] ∧ Q (.int (if j > i then j else i)) H) fMax2 := fun N A H xs ds Q Qd u hf hm hx h k => by
  unfold fMax2 at h
  split at h
  · obtain ⟨v, v2, rfl, hv, hv2⟩ := db2 hx rfl
    rw [hv.ints, hv2.ints]
    exact ⟨_, _, rfl, k _ H _ (Step.refl H) hm (.int _) h⟩
  · exact h.elim
theorem cd_min2 : CallD K (fun xs H Q => ∃ i j, xs = [.int i, .int j] ∧ Q (.int (if j < i then j else i)) H) fMin2 := fun N A H xs ds Q Qd u hf hm hx h k => by
  unfold fMin2 at h
  split at h
  · obtain ⟨v, v2, rfl, hv, hv2⟩ := db2 hx rfl
    rw [hv.ints, hv2.ints]
    exact ⟨_, _, rfl, k _ H _ (Step.refl H) hm (.int _) h⟩
  · exact h.elim
/-- all, any of a list of bools -/
def fAll (g : List Bool → Bool) : List D → (D → Prop) → Prop := fun ds Q => ∃ bs : List Bool, ds = [.list (bs.map .bool)] ∧ Q (.bool (g bs))
theorem cd_all : CallD K (rAll K) (fAll fun bs => bs.all id) := fun N A H xs ds Q Qd u hf hm hx ⟨bs, e, q⟩ k => by
  obtain ⟨v, rfl, hv⟩ := db1 hx e
  obtain ⟨a, vs, rfl, ha, hvs⟩ := hv.lists
  rw [hvs.of_bools] at ha
  exact ⟨a, bs, rfl, .inl (.inl ha), k _ H _ (Step.refl H) hm (.bl _) q⟩
theorem cd_any : CallD K (rAny K) (fAll fun bs => bs.any id) := fun N A H xs ds Q Qd u hf hm hx ⟨bs, e, q⟩ k => by
  obtain ⟨v, rfl, hv⟩ := db1 hx e
  obtain ⟨a, vs, rfl, ha, hvs⟩ := hv.lists
  rw [hvs.of_bools] at ha
  exact ⟨a, bs, rfl, .inl (.inl ha), k _ H _ (Step.refl H) hm (.bl _) q⟩
/-- tuple(x), list(x) -/
@[simp] def fTupOf : List D → (D → Prop) → Prop
  | [.list xs], Q => Q (.tuple xs)
  | [.tuple xs], Q => Q (.tuple xs)
  | _, _ => False
theorem cd_tup : CallD K (fun xs H Q => ∃ p ys, xs = [.ref p] ∧ ((SqL K H p ys ∧ ∀ l, H l = none → Q (.ref l) (upd H l (.tup ys))) ∨ (SqT K H p ys ∧ Q (.ref p) H))) fTupOf := fun N A H xs ds Q Qd u hf hm hx h k => by
  unfold fTupOf at h
  split at h
  · obtain ⟨v, rfl, hv⟩ := db1 hx rfl
    obtain ⟨a, vs, rfl, ha, hvs⟩ := hv.lists
    exact ⟨a, vs, rfl, .inl ⟨.inl (.inl ha), fun p hp => k _ _ _ (Step.new hp) (hm.new hp (fun m => m)) (.tup upd_same (hf p hp) (hvs.goes (Step.new hp).goes)) h⟩⟩
  · obtain ⟨v, rfl, hv⟩ := db1 hx rfl
    obtain ⟨a, vs, rfl, ha, na, hvs⟩ := hv.tuples
    exact ⟨a, vs, rfl, .inr ⟨.inl (.inl ha), k _ H _ (Step.refl H) hm (.tup ha na hvs) h⟩⟩
  · exact h.elim
@[simp] def fLstOf : List D → (List D → Prop) → Prop
  | [.list xs], Q => Q xs
  | [.tuple xs], Q => Q xs
  | _, _ => False
theorem pListOfF {x : Str} {e : Expr} {p pos : Pos} {w : WE} (hx : x = "list") (hg : Gl X x) (hm : X.mg x = none) (h : PE X e (tBo X.K w)) (he : starEach [e] X.env = (false, eval e X.env) :: starEach [] X.env := by rfl) :
    PE X (.Call (.Name x p) [e] [] pos) (tF X.K fun ρ u Q => w ρ u fun d u1 => fLstOf [d] fun z => Q z u1) := by
  subst hx
  refine PEi (pe_callTy call_list_of hg hm boot_list (pbC h pbN he) (by decide) (by decide) he rfl) fun σ H Q ⟨N, A, H0, ρ, u, Qd, R, hw, k⟩ => ?_
  refine ⟨N, A, H0, ρ, u, fun ds u1 => ∃ d, ds = [d] ∧ fLstOf [d] fun z => Qd z u1, R, ?_, ?_⟩
  · show w ρ u fun d u1 => ∃ d', [d] = [d'] ∧ _
    have e : (fun (d : D) (u1 : Nat) => ∃ d', [d] = [d'] ∧ fLstOf [d'] fun z => Qd z u1) = fun d u1 => fLstOf [d] fun z => Qd z u1 := by
      funext d u1
      exact propext ⟨fun ⟨d', e, h⟩ => by cases e; exact h, fun h => ⟨d, rfl, h⟩⟩
    rw [e]
    exact hw
  · rintro vs H1 ds u1 s1 m1 hd ⟨d, rfl, q⟩
    obtain ⟨v, rfl, hv⟩ := db1 hd rfl
    cases d <;> try exact q.elim
    · obtain ⟨a, vs, rfl, ha, hvs⟩ := hv.lists
      exact ⟨a, vs, rfl, .inl (.inl (.inl ha)), fun p hp => k p _ _ _ u1 (s1.trans (Step.new hp)) (m1.newA hp (fun m => m)) (s1.fresh hp) upd_same (hvs.goes (goes_and (Step.new hp) hp)) q⟩
    · obtain ⟨a, vs, rfl, ha, na, hvs⟩ := hv.tuples
      exact ⟨a, vs, rfl, .inr (.inl (.inl ha)), fun p hp => k p _ _ _ u1 (s1.trans (Step.new hp)) (m1.newA hp (fun m => m)) (s1.fresh hp) upd_same (hvs.goes (goes_and (Step.new hp) hp)) q⟩
/-! ### ranges -/
def rgD (a b : Int) : List D := (List.range (b - a).toNat).map fun i => .int (a + (i : Nat))
theorem da_rg {A : Addr → Prop} {H : Hp} (a b : Int) : DaAll K A H (rgV a b) (rgD a b) := by
  unfold rgV rgD
  generalize (List.range (b - a).toNat) = l
  induction l with
  | nil => exact .nil
  | cons i r ih => exact .cons (.int _) ih
/-- a range's ends -/
abbrev WR := Rho → Nat → (Int → Int → Nat → Prop) → Prop
def tRg (K : PySem.W.Frag) (w : WR) : L2.St → Hp → (Int → Int → Hp → Prop) → Prop := fun σ H Q => ∃ (N A : Addr → Prop) (H0 : Hp) (ρ : Rho) (u : Nat) (Qd : Int → Int → Nat → Prop), Rel K N A H0 σ H ρ u ∧ w ρ u Qd ∧
  ∀ a b H' u', Step H H' → MInv A u' K H' → Qd a b u' → Q a b H'
theorem PRgi {e : Expr} {t t' : L2.St → Hp → (Int → Int → Hp → Prop) → Prop} (h : PRg X e t) (k : ∀ σ H Q, t' σ H Q → t σ H Q) : PRg X e t' := fun pins s σ H Q I q => h pins s σ H Q I (k _ _ _ q)
@[simp] def wr1 (w : WE) : WR := fun ρ u Q => w ρ u fun d u1 => ∃ n, d = .int n ∧ Q 0 n u1
@[simp] def wr2 (w w2 : WE) : WR := fun ρ u Q => w ρ u fun d u1 => w2 ρ u1 fun d2 u2 => ∃ n n2, d = .int n ∧ d2 = .int n2 ∧ Q n n2 u2
theorem pRg1 {a : Expr} {p pos : Pos} {w : WE} (hg : Gl X "range") (hm : X.mg "range" = none) (h : PE X a (tD X.K w)) (na : starEach [a] X.env = (false, eval a X.env) :: starEach [] X.env := by rfl) : PRg X (.Call (.Name "range" p) [a] [] pos) (tRg X.K (wr1 w)) :=
  PRgi (prg_1 hg hm h na) fun σ H Q ⟨N, A, H0, ρ, u, Qd, R, hw, k⟩ => ⟨N, A, H0, ρ, u, _, R, hw, fun v H1 d u1 s1 m1 hd ⟨n, e, q⟩ => ⟨n, by subst e; cases hd; rfl, k _ _ _ u1 s1 m1 q⟩⟩
theorem pRg2 {a b : Expr} {p pos : Pos} {w w2 : WE} (hg : Gl X "range") (hm : X.mg "range" = none) (h : PE X a (tD X.K w)) (h2 : PE X b (tD X.K w2)) (na : starEach [a, b] X.env = (false, eval a X.env) :: starEach [b] X.env := by rfl) (nb : starEach [b] X.env = (false, eval b X.env) :: starEach [] X.env := by rfl) (hp : (backTo pos (starEach [b] X.env)).any (·.1) = false := by rfl) :
    PRg X (.Call (.Name "range" p) [a, b] [] pos) (tRg X.K (wr2 w w2)) :=
  PRgi (prg_2 hg hm h h2 na nb hp) fun σ H Q ⟨N, A, H0, ρ, u, Qd, R, hw, k⟩ => ⟨N, A, H0, ρ, u, _, R, hw, fun v H1 d u1 s1 m1 hd q1 => ⟨N, A, H0, ρ, u1, _, R.go s1 m1, q1, fun v2 H2 d2 u2 s2 m2 hd2 ⟨n, n2, e, e2, q⟩ =>
    ⟨n, n2, by subst e; cases hd; rfl, by subst e2; cases hd2; rfl, k _ _ _ u2 (s1.trans s2) m2 q⟩⟩⟩
theorem pListRgF {e : Expr} {p pos : Pos} {w : WR} (hc : X.calm = true) (hg : Gl X "list") (hm : X.mg "list" = none) (h : PRg X e (tRg X.K w)) (na : starEach [e] X.env = (false, eval e X.env) :: starEach [] X.env := by rfl) :
    PE X (.Call (.Name "list" p) [e] [] pos) (tF X.K fun ρ u Q => w ρ u fun a b u1 => RgOk a b ∧ Q (rgD a b) u1) := PEi (pe_listRg hc hg hm h na) fun σ H Q ⟨N, A, H0, ρ, u, Qd, R, hw, k⟩ =>
  ⟨N, A, H0, ρ, u, _, R, hw, fun a b H1 u1 s1 m1 ⟨ok, q⟩ => ⟨ok, fun p hp => k p _ _ _ u1 (s1.trans (Step.new hp)) (m1.newA hp (fun m => m)) (s1.fresh hp) upd_same (da_rg a b) q⟩⟩
theorem pTupRg {e : Expr} {p pos : Pos} {w : WR} (hc : X.calm = true) (hg : Gl X "tuple") (hm : X.mg "tuple" = none) (h : PRg X e (tRg X.K w)) (na : starEach [e] X.env = (false, eval e X.env) :: starEach [] X.env := by rfl) :
    PE X (.Call (.Name "tuple" p) [e] [] pos) (tD X.K fun ρ u Q => w ρ u fun a b u1 => RgOk a b ∧ Q (.tuple (rgD a b)) u1) := PEi (pe_tupRg hc hg hm h na) fun σ H Q ⟨N, A, H0, ρ, u, Qd, R, hw, k⟩ =>
  ⟨N, A, H0, ρ, u, _, R, hw, fun a b H1 u1 s1 m1 ⟨ok, q⟩ => ⟨ok, fun p hp => k _ _ _ u1 (s1.trans (Step.new hp)) (m1.new hp (fun m => m)) (.tup upd_same (R.fresh (s1.fresh hp)) (da_rg a b)) q⟩⟩
end
end DW

set_option Elab.async false
set_option linter.all false
set_option maxRecDepth 100000
set_option maxHeartbeats 2000000
namespace DW
open PySem PySem.Spec PyProof.Rows L2
/-! ### enumerate of a tuple -/
theorem meets_enum1 {v : Value} {o : Obj} {H : Heap → Prop} (B : Begins v o H) :
    Meets (Builtin.«enumerate.__new__» ⟨[.type "enumerate", v], []⟩) (fun _ R s => H s.heap ∧
      R (.ok (.ret (.ref (s.heap.push o).objs.size))) { s with heap := (s.heap.push o).push { cls := .type "enumerate", data := .fields #[.none, .bool false, .ref s.heap.objs.size, rawInt 0, .none, .none] } }) :=
  .of_wp fun prog w A R s h => by
    obtain ⟨hp, g, d, tk, os⟩ := s; obtain ⟨h1, h⟩ := h
    have hsub := sub_enumerate
    have q1 : ∀ {A' : Around} {E : Value → Shared → Prop} {Q : Value → Shared → Prop}, Q (.ref hp.objs.size) ⟨hp.push o, g, d, tk, os⟩ → wpAny (model prog w) A' (pyIter v) Q E ⟨hp, g, d, tk, os⟩ :=
      fun q => B.iter prog w _ _ ⟨hp, g, d, tk, os⟩ _ h1 q
    wp_walk using q1
    refine wpAny_stack_any fun st => wpAny_pure ?_
    split
    · rename_i c _ _ _ _ _
      cases (c == Value.type "enumerate")
      · wp_walk using q1
        exact ⟨_, rfl, h⟩
      · wp_walk using q1
        exact ⟨_, rfl, h⟩
    · wp_walk using q1
      exact ⟨_, rfl, h⟩
theorem call_enum1 {prog : Program} {w : World} {A : Around} {E : Value → Shared → Prop} {s : Shared} {v : Value} {o : Obj} {H : Heap → Prop} {Q : Value → Shared → Prop} (B : Begins v o H) (h1 : H s.heap)
    (h : ∀ h', IsEnum h' (s.heap.objs.size + 1) s.heap.objs.size 0 .none → h'.get? s.heap.objs.size = some o → h'.objs.size = s.heap.objs.size + 2 →
      (∀ b o, s.heap.get? b = some o → h'.get? b = some o) → Q (.ref (s.heap.objs.size + 1)) { s with heap := h' }) :
    wpAny (model prog w) A (call (.type "enumerate") [v]) Q E s := by
  refine callType_new F.called_enumerate (by decide) (F.typeCall_enumerate_1 _) (F.newCall_enumerate_1 _) (fun obj => F.args_object_init_2 obj _) F.entry_enumerate_new
    (meets_enum1 B) ⟨h1, ?_⟩
  have hz : (s.heap.push o).objs.size = s.heap.objs.size + 1 := Heap.size_push ..
  show _ ∧ _
  rw [hz]
  have he : IsEnum ((s.heap.push o).push { cls := .type "enumerate", data := .fields #[.none, .bool false, .ref s.heap.objs.size, rawInt 0, .none, .none] }) (s.heap.objs.size + 1) s.heap.objs.size 0 .none := by
    have := Heap.get?_push_size (s.heap.push o) (o := { cls := .type "enumerate", data := .fields #[.none, .bool false, .ref s.heap.objs.size, rawInt 0, .none, .none] }) rfl
    rw [hz] at this; exact this
  refine ⟨⟨_, he, rfl⟩, h _ he (Heap.get?_push_of_some _ (Heap.get?_push_size _ B.free)) (by rw [Heap.size_push, hz]) fun b o x => Heap.get?_push_of_some _ (Heap.get?_push_of_some _ x)⟩
/-- the tuple at a, each item in a new pair -/
def IteT (K : PySem.W.Frag) (a : Addr) : It :=
  ⟨fun i H => ∃ (xs : List V) (x : V), SqT K H a xs ∧ xs[i]? = some x, fun i H v H' => ∃ T x, v = .ref T ∧ H T = none ∧ H' = upd H T (.tup [.int (i : Nat), x]) ∧ ∀ xs, SqT K H a xs → xs[i]? = some x, fun i H => ∃ xs : List V, SqT K H a xs ∧ xs.length ≤ i⟩
theorem turn_enumT {P : Program} {w : World} {K : PySem.W.Frag} {elts : List Expr} {kk : Nat} {tpos : Pos} (a e it : Addr) :
    Turn P w K (.Tuple elts kk tpos) (IteT K a) [e, it] e (fun i h => (∃ old, IsEnum h e it ((i : Nat) : Int) old) ∧ h.IsTupleIter it a i ∧ e ≠ it ∧ e ≠ a ∧ a ≠ it) where
  mem := by simp
  obj := fun i h st b hb => by
    obtain ⟨⟨old, he⟩, ⟨o, ho, hc, hd⟩, _⟩ := st
    have e' : b = e ∨ b = it := by simpa using hb
    rcases e' with z | z
    · rw [z]; exact ⟨_, he, fun v q => nomatch q⟩
    · rw [z]; exact ⟨o, ho, fun v q => by rw [hd] at q; cases q⟩
  keep := fun i h h' st k => let ⟨⟨old, he⟩, hi, hne⟩ := st; ⟨⟨old, k e (by simp) _ he⟩, hi.at fun o q => k it (by simp) o q, hne⟩
  item := by
    intro X hP hw hK hc i pins s σ H E I hf st hg
    subst hP hw hK
    obtain ⟨⟨old, he⟩, hit, hne, hea, hai⟩ := st
    obtain ⟨xs, x, hq, hx⟩ := hg
    obtain ⟨its, rv, p, hz⟩ := I.tuple hq
    obtain ⟨u, hu, ru⟩ := rv.get hx
    have hel : e < s.heap.objs.size := Heap.lt_size he
    have hil : it < s.heap.objs.size := by obtain ⟨_, q, _⟩ := hit; exact Heap.lt_size q
    have hi : i < its.toArray.size := by
      have := (List.getElem?_eq_some_iff.mp hu).1
      simpa using this
    have Dr := Draws.tuple (prog := X.prog) (w := X.w) (A := X.A.in1) (I.ok.hd hc) it a hai its.toArray
    refine wpAny_pyNext_enum_itemD Dr he ⟨hit, p⟩ hi hne (by simp [hne, hea]) fun x' h' tk hP ho hs' hT hsz hk => ?_
    have ex : x' = u := by
      have h1 : its.toArray[i]? = some u := by simpa using hu
      rw [h1] at hP; exact (Option.some.inj hP).symm
    subst ex
    refine ⟨_, rfl, wpAny_letOwnedTupleGo_enum (s := { s with heap := h', toks := tk + 1 }) ho fun h'' he' sb => ?_⟩
    have hT2 : h''.get? s.heap.objs.size = some { cls := .type "tuple", data := .seq #[.int i tk, x'] } := (sb.2 _ (Nat.ne_of_gt hel)).trans hT
    have new : ObjOk X.prog X.w (upd H s.heap.objs.size (.tup [.int (i : Nat), x])) h'' s.heap.objs.size (.tup [.int (i : Nat), x]) :=
      ⟨by show 2 ≤ sizeLine; decide, [.int i tk, x'], .cons ⟨_, rfl⟩ (.cons ru .nil), ⟨_, hT2, rfl, _, rfl⟩⟩
    have I1 : Inv X pins σ (upd H s.heap.objs.size (.tup [.int (i : Nat), x])) { s with heap := h'', toks := tk + 1 } :=
      I.turnedNew (ch := [e, it]) (fun b ob hb q => (sb.2 b (fun z => hb (by simp [z]))).trans (hk b ob (fun z => hb (by simp [z])) (fun z => hb (by simp [z])) q)) hf (Nat.le_refl _) new
    refine ⟨.ref s.heap.objs.size, _, I1, rfl, ⟨_, x, rfl, I.hok.fresh (Nat.le_refl _), rfl, fun ys hy => by rw [I.tuple_inj hy hq]; exact hx⟩, ⟨⟨x', ?_⟩, hs'.1.at fun o q => (sb.2 it (Ne.symm hne)).trans q, hne, hea, hai⟩, fun b hb => ?_⟩
    · have e1 : ((i + 1 : Nat) : Int) = (i : Int) + 1 := by omega
      rw [e1]; exact he'
    · have hb' : b < s.heap.objs.size := by
        have e' : b = e ∨ b = it := by simpa using hb
        rcases e' with z | z
        · rw [z]; exact hel
        · rw [z]; exact hil
      rw [upd_ne (Nat.ne_of_lt hb')]
      exact (hf b hb).1
  done := by
    intro X hP hw hK hc i pins s σ H E I hf st hg
    subst hP hw hK
    obtain ⟨⟨old, he⟩, hit, hne, hea, hai⟩ := st
    obtain ⟨xs, hq, hx⟩ := hg
    obtain ⟨its, rv, p, hz⟩ := I.tuple hq
    obtain ⟨f0, f1, f2, f3, f4, f5⟩ := hf it (by simp)
    have hl := rv.length
    have hT : s.TypeIs (.ref e) "enumerate" := ⟨_, he, rfl⟩
    unfold pyNext
    refine wpAny_bind (wpAny_attempt (wpAny_callSpecial?_slot (name := Str.ofString "__next__") hT F.slot_enumerate_next
      (wpAny_call_entry F.slot_enumerate_next hT F.entry_enumerate_next ?_ (F.args_enumerate_next_1 _))))
    show wpAny _ _ (field (.ref e) 2 >>= _) _ _ _
    refine wpAny_bind (wpAny_field he rfl (x := .ref it) rfl ?_)
    refine wpAny_bind (wpAny_nextOf_tuple_end (I.ok.hd hc) hit p (by simp; omega) fun h' x he' hx' => ?_)
    obtain ⟨o, ho, hcl⟩ := hx'
    refine wpAny_bind (wpAny_isInstance (T := "StopIteration") (b := true) ⟨o, ho, hcl⟩ isSubtype_stop ?_)
    exact wpAny_pure ⟨rfl, I.turned (t' := s.toks) (fun b o hb q => he' b o hb q) f0 f1 f3 f4 f5⟩
  self := fun A i s Q E st h => let ⟨⟨_, he⟩, _⟩ := st; wpAny_pyIter_enum he h
def iEnumT (K : PySem.W.Frag) (ta : TA) : TI := fun σ H R => ta σ H fun vs H1 => ∃ a xs, vs = [.ref a] ∧ ((SqL K H1 a xs ∧ R (Ite K a) H1) ∨ (SqT K H1 a xs ∧ R (IteT K a) H1))
theorem pi_enumA {X : Cx} {e : Expr} {ta : TA} {p pos tpos : Pos} {elts : List Expr} {kk : Nat} (hg : Gl X "enumerate") (hm : X.mg "enumerate" = none) (ha : PA X [e] ta) (hs : starEach [e] X.env = [(false, eval e X.env)] := by rfl) :
    PI X (.Tuple elts kk tpos) (.Call (.Name "enumerate" p) [e] [] pos) (iEnumT X.K ta) := by
  refine ⟨fun pins s σ H R I h => ?_⟩
  refine Call_ (ld_blt I hg hm boot_enumerate (PyProof.Rows.callWith_type1 (thn (ha.run pos pins s σ H _ I h) fun us s1 ⟨vs, H1, I1, r1, q1⟩ => ?_) hs rfl))
  obtain ⟨a, xs, ex, hq⟩ := q1
  subst ex
  cases r1 with
  | cons r rr =>
    cases rr
    cases r
    have fpok : ∀ b ∈ [s1.heap.objs.size + 1, s1.heap.objs.size], FpOk X pins H1 b := fun b hb => by
      have e' : b = s1.heap.objs.size + 1 ∨ b = s1.heap.objs.size := by simpa using hb
      have hle : s1.heap.objs.size ≤ b := by
        rcases e' with z | z
        · rw [z]; exact Nat.le_add_right _ _
        · rw [z]; exact Nat.le_refl _
      exact I1.fpOk hle (I1.hok.fresh hle)
    rcases hq with ⟨hq, q⟩ | ⟨hq, q⟩
    · obtain ⟨its, rv, p', hz⟩ := I1.list hq
      refine call_enumerate_list p'.isList fun h' he hit hsz hk => wpAny_pyIter_enum he ?_
      have I2 : Inv X pins σ H1 { s1 with heap := h' } := I1.kept (t' := s1.toks) hk
      exact ⟨s1.heap.objs.size + 1, [s1.heap.objs.size + 1, s1.heap.objs.size], _, _, H1, rfl, I2, turn_enum a (s1.heap.objs.size + 1) s1.heap.objs.size, ⟨⟨.none, he⟩, hit, Nat.succ_ne_self _⟩, fpok, q⟩
    · obtain ⟨its, rv, p', hz⟩ := I1.tuple hq
      have hal : a < s1.heap.objs.size := p'.lt
      refine call_enum1 (begins_tuple a its.toArray) p' fun h' he hit hsz hk => wpAny_pyIter_enum he ?_
      have I2 : Inv X pins σ H1 { s1 with heap := h' } := I1.kept (t' := s1.toks) hk
      exact ⟨s1.heap.objs.size + 1, [s1.heap.objs.size + 1, s1.heap.objs.size], _, _, H1, rfl, I2, turn_enumT a (s1.heap.objs.size + 1) s1.heap.objs.size, ⟨⟨.none, he⟩, ⟨_, hit, rfl, rfl⟩, Nat.succ_ne_self _, Nat.ne_of_gt (Nat.lt_succ_of_lt hal), Nat.ne_of_lt hal⟩, fpok, q⟩
/-! ### a list or a tuple, walked -/
def iSeq (K : PySem.W.Frag) (tl : TE) : TI := fun σ H R => tl σ H fun x H1 => ∃ a xs, x = .ref a ∧ ((SqL K H1 a xs ∧ R (Itl K a) H1) ∨ (SqT K H1 a xs ∧ R (Itt K a) H1))
theorem pi_seq {X : Cx} {tg l : Expr} {tl : TE} (hl : PE X l tl) : PI X tg l (iSeq X.K tl) := by
  refine ⟨fun pins s σ H R I h => ?_⟩
  refine thn (hl.run pins s σ H _ I h) fun v s1 ⟨x, H1, I1, r1, q1⟩ => ?_
  obtain ⟨a, xs, e, hq⟩ := q1
  subst e
  cases r1
  rcases hq with ⟨hq, q⟩ | ⟨hq, q⟩
  · obtain ⟨its, rv, p, hz⟩ := I1.list hq
    refine wpAny_pyIter_list p.isList ?_
    refine ⟨s1.heap.objs.size, [s1.heap.objs.size], _, _, H1, rfl, I1.kept (t' := s1.toks) fun b o e => Heap.get?_push_of_some _ e, turn_list a _, ⟨_, Heap.get?_push_size _ rfl, rfl, rfl⟩, fun b hb => ?_, q⟩
    have e : b = s1.heap.objs.size := by simpa using hb
    subst e
    exact I1.fpOk (Nat.le_refl _) (I1.hok.fresh (Nat.le_refl _))
  · obtain ⟨its, rv, p, hz⟩ := I1.tuple hq
    refine wpAny_pyIter_tuple (show s1.heap.IsTuple a its.toArray from p) ?_
    refine ⟨s1.heap.objs.size, [s1.heap.objs.size], _, _, H1, rfl, I1.kept (t' := s1.toks) fun b o e => Heap.get?_push_of_some _ e, turn_tuple a _, ⟨_, Heap.get?_push_size _ rfl, rfl, rfl⟩, fun b hb => ?_, q⟩
    have e : b = s1.heap.objs.size := by simpa using hb
    subst e
    exact I1.fpOk (Nat.le_refl _) (I1.hok.fresh (Nat.le_refl _))
end DW

set_option Elab.async false
set_option linter.all false
set_option maxRecDepth 100000
set_option maxHeartbeats 2000000
namespace DW
open PySem PySem.Spec PyProof.Rows L2
/-! ### walks over data -/
structure ItG (K : PySem.W.Frag) (J : It) (ds : List D) (G : (Addr → Prop) → Hp → Prop) : Prop where
  over : ∀ A A' H H', Goes A A' H H' → G A H → G A' H'
  goes : ∀ i A H, i < ds.length → G A H → J.go i H
  stops : ∀ A H, G A H → J.stop ds.length H
  yields : ∀ i A H x H', i < ds.length → G A H → (∀ p, H p = none → ¬ A p) → J.yld i H x H' → Step H H' ∧ (∀ u, MInv A u K H → MInv A u K H') ∧ ∃ d, ds[i]? = some d ∧ Da K A H' x d
def ItOk (K : PySem.W.Frag) (A : Addr → Prop) (J : It) (ds : List D) (H : Hp) : Prop := ∃ G, ItG K J ds G ∧ G A H
def tIt (K : PySem.W.Frag) (w : WA) : TI := fun σ H R => ∃ (N A : Addr → Prop) (H0 : Hp) (ρ : Rho) (u : Nat) (Qd : List D → Nat → Prop), Rel K N A H0 σ H ρ u ∧ w ρ u Qd ∧
  ∀ J H' ds u', Step H H' → MInv A u' K H' → ItOk K A J ds H' → Qd ds u' → R J H'
section
variable {X : Cx} {K : PySem.W.Frag}
theorem PIi {tg e : Expr} {t t' : TI} (h : PI X tg e t) (k : ∀ σ H Q, t' σ H Q → t σ H Q) : PI X tg e t' := ⟨fun pins s σ H Q I q => h.run pins s σ H Q I (k _ _ _ q)⟩
theorem PIor {tg e : Expr} {t t' : TI} (h : PI X tg e t) (h' : PI X tg e t') : PI X tg e (fun σ H R => t σ H R ∨ t' σ H R) := ⟨fun pins s σ H Q I q => q.elim (fun q => h.run pins s σ H Q I q) fun q => h'.run pins s σ H Q I q⟩
theorem it_list {a : Addr} {vs : List V} {ds : List D} {A : Addr → Prop} {H : Hp} (h : H a = some (.lst vs)) (n : ¬ A a) (hd : DaAll K A H vs ds) : ItOk K A (Itl K a) ds H := by
  refine ⟨fun A H => H a = some (.lst vs) ∧ ¬ A a ∧ DaAll K A H vs ds, ⟨fun A A' H H' g ⟨h1, h2, h3⟩ => ⟨g.keep _ _ h2 h1 (fun m => m), g.notin h2 (by rw [h1]; simp), h3.goes g⟩, fun i A H hi ⟨h1, h2, h3⟩ => ?_, fun A H ⟨h1, h2, h3⟩ => ?_, fun i A H x H' hi ⟨h1, h2, h3⟩ _ y => ?_⟩, h, n, hd⟩
  · have hl : i < vs.length := by rw [h3.length]; exact hi
    exact ⟨vs, vs[i], .inl (.inl h1), by simp [hl]⟩
  · exact ⟨vs, .inl (.inl h1), by rw [h3.length]; exact Nat.le_refl _⟩
  · obtain ⟨e, y⟩ := y
    subst e
    have e := y vs (.inl (.inl h1))
    obtain ⟨d, h4, h5⟩ := h3.get' e
    exact ⟨Step.refl _, fun _ m => m, d, h4, h5⟩
theorem it_tup {a : Addr} {vs : List V} {ds : List D} {A : Addr → Prop} {H : Hp} (h : SqT K H a vs) (n : ¬ A a) (t : H a ≠ none) (hd : DaAll K A H vs ds) : ItOk K A (Itt K a) ds H := by
  refine ⟨fun A H => SqT K H a vs ∧ ¬ A a ∧ H a ≠ none ∧ DaAll K A H vs ds, ⟨fun A A' H H' g ⟨h1, h2, h4, h3⟩ => ⟨g.sqt h1 h2, g.notin h2 h4, g.there h2 h4, h3.goes g⟩, fun i A H hi ⟨h1, h2, h4, h3⟩ => ?_, fun A H ⟨h1, h2, h4, h3⟩ => ?_, fun i A H x H' hi ⟨h1, h2, h4, h3⟩ _ y => ?_⟩, h, n, t, hd⟩
  · have hl : i < vs.length := by rw [h3.length]; exact hi
    exact ⟨vs, vs[i], h1, by simp [hl]⟩
  · exact ⟨vs, h1, by rw [h3.length]; exact Nat.le_refl _⟩
  · obtain ⟨e, y⟩ := y
    subst e
    have e := y vs h1
    obtain ⟨d, h4, h5⟩ := h3.get' e
    exact ⟨Step.refl _, fun _ m => m, d, h4, h5⟩
theorem it_rng {lo : Int} {n : Nat} {A : Addr → Prop} {H : Hp} : ItOk K A (Itr lo n) ((List.range n).map fun i => .int (lo + (i : Nat))) H := by
  refine ⟨fun _ _ => True, ⟨fun _ _ _ _ _ h => h, fun i A H hi _ => by simpa [Itr] using hi, fun A H _ => by simp [Itr], fun i A H x H' hi _ _ y => ?_⟩, trivial⟩
  obtain ⟨e, y⟩ := y
  subst e y
  have hi' : i < n := by simpa using hi
  exact ⟨Step.refl _, fun _ m => m, .int (lo + i), by simp [hi'], .int _⟩
theorem it_enum {a : Addr} {vs : List V} {ds : List D} {A : Addr → Prop} {H : Hp} (h : H a = some (.lst vs)) (n : ¬ A a) (hd : DaAll K A H vs ds) : ItOk K A (Ite K a) (ds.zipIdx.map fun p => .tuple [.int (p.2 : Nat), p.1]) H := by
  refine ⟨fun A H => H a = some (.lst vs) ∧ ¬ A a ∧ DaAll K A H vs ds, ⟨fun A A' H H' g ⟨h1, h2, h3⟩ => ⟨g.keep _ _ h2 h1 (fun m => m), g.notin h2 (by rw [h1]; simp), h3.goes g⟩, fun i A H hi ⟨h1, h2, h3⟩ => ?_, fun A H ⟨h1, h2, h3⟩ => ?_, fun i A H x H' hi ⟨h1, h2, h3⟩ hf y => ?_⟩, h, n, hd⟩
  · have hl : i < vs.length := by rw [h3.length]; simpa using hi
    exact ⟨vs, vs[i], .inl (.inl h1), by simp [hl]⟩
  · exact ⟨vs, .inl (.inl h1), by rw [h3.length]; simp⟩
  · obtain ⟨T, z, e, hT, e2, y⟩ := y
    subst e e2
    have e := y vs (.inl (.inl h1))
    obtain ⟨d, h4, h5⟩ := h3.get' e
    refine ⟨Step.new hT, fun u m => m.new hT (fun m => m), .tuple [.int (i : Nat), d], ?_, .tup upd_same (hf T hT) (.cons (.int _) (.cons (h5.goes (Step.new hT).goes) .nil))⟩
    rw [List.getElem?_map, List.getElem?_zipIdx, h4]
    simp
theorem it_enumT {a : Addr} {vs : List V} {ds : List D} {A : Addr → Prop} {H : Hp} (h : SqT K H a vs) (n : ¬ A a) (t : H a ≠ none) (hd : DaAll K A H vs ds) : ItOk K A (IteT K a) (ds.zipIdx.map fun p => .tuple [.int (p.2 : Nat), p.1]) H := by
  refine ⟨fun A H => SqT K H a vs ∧ ¬ A a ∧ H a ≠ none ∧ DaAll K A H vs ds, ⟨fun A A' H H' g ⟨h1, h2, h4, h3⟩ => ⟨g.sqt h1 h2, g.notin h2 h4, g.there h2 h4, h3.goes g⟩, fun i A H hi ⟨h1, h2, h4, h3⟩ => ?_, fun A H ⟨h1, h2, h4, h3⟩ => ?_, fun i A H x H' hi ⟨h1, h2, h4, h3⟩ hf y => ?_⟩, h, n, t, hd⟩
  · have hl : i < vs.length := by rw [h3.length]; simpa using hi
    exact ⟨vs, vs[i], h1, by simp [hl]⟩
  · exact ⟨vs, h1, by rw [h3.length]; simp⟩
  · obtain ⟨T, z, e, hT, e2, y⟩ := y
    subst e e2
    have e := y vs h1
    obtain ⟨d, h4, h5⟩ := h3.get' e
    refine ⟨Step.new hT, fun u m => m.new hT (fun m => m), .tuple [.int (i : Nat), d], ?_, .tup upd_same (hf T hT) (.cons (.int _) (.cons (h5.goes (Step.new hT).goes) .nil))⟩
    rw [List.getElem?_map, List.getElem?_zipIdx, h4]
    simp
@[simp] def seqD : D → (List D → Prop) → Prop
  | .list xs, Q => Q xs
  | .tuple xs, Q => Q xs
  | _, _ => False
def enumD (ds : List D) : List D := ds.zipIdx.map fun p => .tuple [.int (p.2 : Nat), p.1]
@[simp] def wi1 (w : WE) : WA := fun ρ u Q => w ρ u fun d u1 => seqD d fun ds => Q ds u1
@[simp] def wiE (w : WE) : WA := fun ρ u Q => w ρ u fun d u1 => seqD d fun ds => Q (enumD ds) u1
theorem piSeq {tg e : Expr} {w : WE} (h : PE X e (tD X.K w)) : PI X tg e (tIt X.K (wi1 w)) := PIi (pi_seq h) fun σ H Q ⟨N, A, H0, ρ, u, Qd, R, hw, k⟩ =>
  ⟨N, A, H0, ρ, u, _, R, hw, fun v H1 d u1 s1 m1 hd q => by
    cases d <;> try exact q.elim
    · cases hd with
      | lst h1 h2 h3 => exact ⟨_, _, rfl, .inl ⟨.inl (.inl h1), k _ _ _ u1 s1 m1 (it_list h1 h2 h3) q⟩⟩
    · cases hd with
      | tup h1 h2 h3 => exact ⟨_, _, rfl, .inr ⟨.inl (.inl h1), k _ _ _ u1 s1 m1 (it_tup (.inl (.inl h1)) h2 (by rw [h1]; simp) h3) q⟩⟩⟩
theorem piEnum {elts : List Expr} {kk : Nat} {tpos : Pos} {e : Expr} {p pos : Pos} {w : WE} (hg : Gl X "enumerate") (hm : X.mg "enumerate" = none) (h : PE X e (tD X.K w)) (he : starEach [e] X.env = (false, eval e X.env) :: starEach [] X.env := by rfl) :
    PI X (.Tuple elts kk tpos) (.Call (.Name "enumerate" p) [e] [] pos) (tIt X.K (wiE w)) := PIi (pi_enumA hg hm (paC h paN he) he) fun σ H Q ⟨N, A, H0, ρ, u, Qd, R, hw, k⟩ =>
  ⟨N, A, H0, ρ, u, fun ds u1 => ∃ d, ds = [d] ∧ seqD d fun ds => Qd (enumD ds) u1, R, by
    show w ρ u fun d u1 => ∃ d', [d] = [d'] ∧ _
    have e : (fun (d : D) (u1 : Nat) => ∃ d', [d] = [d'] ∧ seqD d' fun ds => Qd (enumD ds) u1) = fun d u1 => seqD d fun ds => Qd (enumD ds) u1 := by
      funext d u1
      exact propext ⟨fun ⟨d', e, h⟩ => by cases e; exact h, fun h => ⟨d, rfl, h⟩⟩
    rw [e]
    exact hw, fun vs H1 ds u1 s1 m1 hd ⟨d, e, q⟩ => by
    subst e
    cases hd with
    | cons hd ht =>
      cases ht
      cases d <;> try exact q.elim
      · cases hd with
        | lst h1 h2 h3 => exact ⟨_, _, rfl, .inl ⟨.inl (.inl h1), k _ _ _ u1 s1 m1 (it_enum h1 h2 h3) q⟩⟩
      · cases hd with
        | tup h1 h2 h3 => exact ⟨_, _, rfl, .inr ⟨.inl (.inl h1), k _ _ _ u1 s1 m1 (it_enumT (.inl (.inl h1)) h2 (by rw [h1]; simp) h3) q⟩⟩⟩
theorem one_arg_w {w : WE} {ρ : Rho} {u : Nat} {P : D → Nat → Prop} (h : w ρ u P) : waCons w waNil ρ u fun ds u1 => ∃ d, ds = [d] ∧ P d u1 := by
  show w ρ u fun d u1 => ∃ d', [d] = [d'] ∧ P d' u1
  have e : (fun (d : D) (u1 : Nat) => ∃ d', [d] = [d'] ∧ P d' u1) = P := by
    funext d u1
    exact propext ⟨fun ⟨d', e, h⟩ => by cases e; exact h, fun h => ⟨d, rfl, h⟩⟩
  rw [e]
  exact h
theorem two_arg_w {w w2 : WE} {ρ : Rho} {u : Nat} {P : D → D → Nat → Prop} (h : w ρ u fun d u1 => w2 ρ u1 fun d2 u2 => P d d2 u2) : waCons w (waCons w2 waNil) ρ u fun ds u1 => ∃ d d2, ds = [d, d2] ∧ P d d2 u1 := by
  show w ρ u fun d u1 => w2 ρ u1 fun d2 u2 => ∃ e e2, [d, d2] = [e, e2] ∧ P e e2 u2
  have e : (fun (d : D) (u1 : Nat) => w2 ρ u1 fun d2 u2 => ∃ e e2, [d, d2] = [e, e2] ∧ P e e2 u2) = fun d u1 => w2 ρ u1 fun d2 u2 => P d d2 u2 := by
    funext d u1
    have e2 : (fun (d2 : D) (u2 : Nat) => ∃ e e2, [d, d2] = [e, e2] ∧ P e e2 u2) = fun d2 u2 => P d d2 u2 := by
      funext d2 u2
      exact propext ⟨fun ⟨e, e2, h1, h2⟩ => by cases h1; exact h2, fun h => ⟨d, d2, rfl, h⟩⟩
    rw [e2]
  rw [e]
  exact h
def big62 (j : Int) : Prop := -(2 ^ 62) ≤ j ∧ j < 2 ^ 62
@[simp] def wiR1 (w : WE) : WA := fun ρ u Q => w ρ u fun d u1 => ∃ j, d = .int j ∧ big62 j ∧ Q (rgD 0 j) u1
@[simp] def wiR2 (w w2 : WE) : WA := fun ρ u Q => w ρ u fun d u1 => w2 ρ u1 fun d2 u2 => ∃ i j, d = .int i ∧ d2 = .int j ∧ big62 i ∧ big62 j ∧ Q (rgD i j) u2
theorem piRg1 {tg a : Expr} {p pos : Pos} {w : WE} (hg : Gl X "range") (hm : X.mg "range" = none) (h : PE X a (tD X.K w)) (he : starEach [a] X.env = (false, eval a X.env) :: starEach [] X.env := by rfl) : PI X tg (.Call (.Name "range" p) [a] [] pos) (tIt X.K (wiR1 w)) :=
  PIi (pi_range1 hg hm (paC h paN he) he) fun σ H Q ⟨N, A, H0, ρ, u, Qd, R, hw, k⟩ => ⟨N, A, H0, ρ, u, _, R, one_arg_w hw, fun vs H1 ds u1 s1 m1 hd ⟨d, e, j, e2, b, q⟩ => by
    subst e e2
    cases hd with
    | cons hd ht =>
      cases ht
      cases hd
      refine ⟨j, rfl, b.1, b.2, ?_⟩
      have := k (Itr 0 j.toNat) H1 (rgD 0 j) u1 s1 m1 (by unfold rgD; rw [Int.sub_zero]; exact it_rng) q
      exact this⟩
theorem piRg2 {tg a b : Expr} {p pos : Pos} {w w2 : WE} (hg : Gl X "range") (hm : X.mg "range" = none) (h : PE X a (tD X.K w)) (h2 : PE X b (tD X.K w2)) (he : starEach [a, b] X.env = (false, eval a X.env) :: starEach [b] X.env := by rfl) (he2 : starEach [b] X.env = (false, eval b X.env) :: starEach [] X.env := by rfl)
    (he3 : starEach [a, b] X.env = [(false, eval a X.env), (false, eval b X.env)] := by rfl) (he4 : starEach [b] X.env = [(false, eval b X.env)] := by rfl) : PI X tg (.Call (.Name "range" p) [a, b] [] pos) (tIt X.K (wiR2 w w2)) :=
  PIi (pi_range2 hg hm (paC h (paC h2 paN he2) he) he3 he4) fun σ H Q ⟨N, A, H0, ρ, u, Qd, R, hw, k⟩ => ⟨N, A, H0, ρ, u, _, R, two_arg_w hw, fun vs H1 ds u1 s1 m1 hd ⟨d, d2, e, i, j, e2, e3, b, b2, q⟩ => by
    subst e e2 e3
    cases hd with
    | cons hd ht =>
      cases ht with
      | cons hd2 ht =>
        cases ht
        cases hd
        cases hd2
        exact ⟨i, j, rfl, ⟨b.1, b.2, b2.1, b2.2⟩, k (Itr i (j - i).toNat) H1 (rgD i j) u1 s1 m1 it_rng q⟩⟩
/-! ### targets -/
def Off (is : List Nat) (σ σ' : L2.St) : Prop := σ'.length = σ.length ∧ ∀ i : Nat, i ∉ is → σ'[i]? = σ[i]?
theorem Off.refl {is : List Nat} {σ : L2.St} : Off is σ σ := ⟨rfl, fun _ _ => rfl⟩
theorem Off.trans {is js : List Nat} {σ σ1 σ2 : L2.St} (a : Off is σ σ1) (b : Off js σ1 σ2) : Off (is ++ js) σ σ2 := ⟨b.1.trans a.1, fun i h => by
  rw [List.mem_append, not_or] at h
  rw [b.2 i h.2, a.2 i h.1]⟩
theorem wipe_get (σ : L2.St) : ∀ (vs : List Nat) (i : Nat), (wipe σ vs)[i]? = if i ∈ vs then (σ[i]?).map (fun _ => none) else σ[i]?
  | [], i => by simp [wipe]
  | v :: vs, i => by
    unfold wipe
    have hl := wipe_length σ vs
    by_cases h : v = i
    · subst h
      rw [if_pos (by simp)]
      by_cases hi : v < σ.length
      · rw [List.getElem?_set_self (by omega), List.getElem?_eq_getElem hi]; rfl
      · rw [List.getElem?_eq_none (by rw [List.length_set]; omega), List.getElem?_eq_none (by omega)]; rfl
    · rw [List.getElem?_set_ne h, wipe_get σ vs i]
      have e : i ∈ v :: vs ↔ i ∈ vs := by
        rw [List.mem_cons]
        exact ⟨fun q => q.elim (fun q => absurd q.symm h) id, .inr⟩
      by_cases q : i ∈ vs
      · rw [if_pos q, if_pos (e.mpr q)]
      · rw [if_neg q, if_neg (fun z => q (e.mp z))]
theorem Off.wiped {is vs : List Nat} {σ σ2 : L2.St} (h : Off is (wipe σ vs) σ2) (sub : ∀ i ∈ is, i ∈ vs) : wipe σ2 vs = wipe σ vs := by
  apply List.ext_getElem?
  intro i
  rw [wipe_get, wipe_get]
  by_cases q : i ∈ vs
  · rw [if_pos q, if_pos q]
    have hl : σ2.length = σ.length := by rw [h.1, wipe_length]
    by_cases hi : i < σ.length
    · rw [List.getElem?_eq_getElem hi, List.getElem?_eq_getElem (by omega)]; rfl
    · rw [List.getElem?_eq_none (by omega), List.getElem?_eq_none (by omega)]
  · rw [if_neg q, if_neg q, h.2 i (fun z => q (sub i z)), wipe_get, if_neg q]
abbrev WB := D → Rho → Option Rho
def tGt (K : PySem.W.Frag) (is : List Nat) (b : WB) : TG := fun v σ H Q => ∃ (N A : Addr → Prop) (H0 : Hp) (ρ ρ' : Rho) (u : Nat) (d : D), Rel K N A H0 σ H ρ u ∧ Da K A H v d ∧ b d ρ = some ρ' ∧ ∀ σ', Off is σ σ' → Rel K N A H0 σ' H ρ' u → Q σ' H
abbrev WBs := List D → Rho → Option Rho
def tGs (K : PySem.W.Frag) (is : List Nat) (b : WBs) : TGs := fun vs σ H Q => ∃ (N A : Addr → Prop) (H0 : Hp) (ρ ρ' : Rho) (u : Nat) (ds : List D), Rel K N A H0 σ H ρ u ∧ DaAll K A H vs ds ∧ b ds ρ = some ρ' ∧ ∀ σ', Off is σ σ' → Rel K N A H0 σ' H ρ' u → Q σ' H
theorem PGi {tg : Expr} {t t' : TG} (h : PG X tg t) (k : ∀ v σ H Q, t' v σ H Q → t v σ H Q) : PG X tg t' := ⟨fun pins s σ H v u Q I r q => h.run pins s σ H v u Q I r (k _ _ _ _ q)⟩
theorem PGsi {ts : List Expr} {t t' : TGs} (h : PGs X ts t) (k : ∀ v σ H Q, t' v σ H Q → t v σ H Q) : PGs X ts t' := ⟨fun pins s σ H v u Q I r q => h.run pins s σ H v u Q I r (k _ _ _ _ q)⟩
@[simp] def bName (i : Nat) : WB := fun d ρ => some (ρ.set i (some (.d d)))
@[simp] def bTup (b : WBs) : WB := fun d ρ => match d with
  | .tuple ds => b ds ρ
  | _ => none
@[simp] def bNil : WBs := fun ds ρ => match ds with
  | [] => some ρ
  | _ => none
@[simp] def bCons (b : WB) (bs : WBs) : WBs := fun ds ρ => match ds with
  | d :: r => (b d ρ).bind fun ρ' => bs r ρ'
  | [] => none
theorem pgName {i : Nat} {e : Expr} (h : PG X e (gName i)) : PG X e (tGt X.K [i] (bName i)) := PGi h fun v σ H Q ⟨N, A, H0, ρ, ρ', u, d, R, hd, hb, k⟩ => by
  have e : ρ.set i (some (.d d)) = ρ' := Option.some.inj hb
  subst e
  exact k _ ⟨List.length_set, fun j hj => List.getElem?_set_ne (fun z => hj (by simp [z]))⟩ (R.setD hd)
theorem pgNil : PGs X [] (tGs X.K [] bNil) := PGsi pgs_nil fun vs σ H Q ⟨N, A, H0, ρ, ρ', u, ds, R, hd, hb, k⟩ => by
  cases hd with
  | cons _ _ => cases hb
  | nil =>
    have e : ρ = ρ' := Option.some.inj hb
    subst e
    exact ⟨rfl, k _ Off.refl R⟩
theorem pgCons {e : Expr} {es : List Expr} {is js : List Nat} {b : WB} {bs : WBs} (h : PG X e (tGt X.K is b)) (hs : PGs X es (tGs X.K js bs)) (he : (assignEach (e :: es) X.env).map (·.2) = assign e X.env :: (assignEach es X.env).map (·.2) := by rfl) : PGs X (e :: es) (tGs X.K (is ++ js) (bCons b bs)) :=
  PGsi (pgs_cons h hs he) fun vs σ H Q ⟨N, A, H0, ρ, ρ', u, ds, R, hd, hb, k⟩ => by
    cases hd with
    | nil => cases hb
    | @cons v vs d ds h1 ht =>
      have hb' : (b d ρ).bind (fun ρ' => bs ds ρ') = some ρ' := hb
      cases q : b d ρ with
      | none => rw [q] at hb'; cases hb'
      | some ρ1 =>
        rw [q] at hb'
        exact ⟨v, vs, rfl, N, A, H0, ρ, ρ1, u, d, R, h1, q, fun σ1 o1 R1 => ⟨N, A, H0, ρ1, ρ', u, ds, R1, ht, hb', fun σ2 o2 R2 => k σ2 (o1.trans o2) R2⟩⟩
theorem pgTup {es : List Expr} {kk : Nat} {pos : Pos} {is : List Nat} {b : WBs} {n : Nat} (hc : X.calm = true) (h : PGs X es (tGs X.K is b)) (hn : (assignEach es X.env).length = n := by rfl) (hst : (assignEach es X.env).findIdx? (·.1) = none := by rfl)
    (hlen : ∀ ds ρ ρ', b ds ρ = some ρ' → ds.length = n) : PG X (.Tuple es kk pos) (tGt X.K is (bTup b)) := PGi (pg_tup hc h hn hst) fun v σ H Q ⟨N, A, H0, ρ, ρ', u, d, R, hd, hb, k⟩ => by
  cases d <;> first | (cases hb; done) | skip
  cases hd with
  | tup h1 h2 h3 => exact ⟨_, _, rfl, .inl (.inl h1), by rw [h3.length]; exact hlen _ _ _ hb, N, A, H0, ρ, ρ', u, _, R, h3, hb, k⟩
theorem bNil_len : ∀ ds ρ ρ', bNil ds ρ = some ρ' → ds.length = 0 := fun ds ρ ρ' h => by
  cases ds with
  | nil => rfl
  | cons _ _ => cases h
theorem bCons_len {b : WB} {bs : WBs} {n : Nat} (h : ∀ ds ρ ρ', bs ds ρ = some ρ' → ds.length = n) : ∀ ds ρ ρ', bCons b bs ds ρ = some ρ' → ds.length = n + 1 := fun ds ρ ρ' e => by
  cases ds with
  | nil => cases e
  | cons d r =>
    have e' : (b d ρ).bind (fun ρ' => bs r ρ') = some ρ' := e
    cases q : b d ρ with
    | none => rw [q] at e'; cases e'
    | some ρ1 => rw [q] at e'; exact congrArg (· + 1) (h r ρ1 ρ' e')
theorem bLen {b : WBs} {n m : Nat} (h : ∀ ds ρ ρ', b ds ρ = some ρ' → ds.length = n) (e : n = m) : ∀ ds ρ ρ', b ds ρ = some ρ' → ds.length = m := by
  subst e; exact h
/-! ### for -/
@[simp] def wLoop (b : WB) (body : WS) (F : DE) : List D → Rho → Nat → Prop
  | [], ρ, u => F.nx ρ u
  | x :: xs, ρ, u => ∃ ρ', b x ρ = some ρ' ∧ body { nx := wLoop b body F xs, rt := F.rt, bk := F.nx, ct := wLoop b body F xs, ex := F.ex } ρ' u
@[simp] def wFor (wi : WA) (b : WB) (body : WS) : WS := fun F ρ u => wi ρ u fun ds u1 => wLoop b body F ds ρ u1
theorem Rel.goes0 {K : PySem.W.Frag} {N A : Addr → Prop} {H0 : Hp} {σ : L2.St} {H : Hp} {ρ : Rho} {u : Nat} (R : Rel K N A H0 σ H ρ u) : ∀ p, H p = none → ¬ A p := fun p hp => R.fresh hp
theorem psFor {tg iter : Expr} {body : List Stmt} {pos : Pos} {wi : WA} {is : List Nat} {b : WB} {wb : WS} {W : XK} (hp : PassesOwn (model X.prog X.w) X.A X.env X.xe) (hc : X.calm = true) (hi : PI X tg iter (tIt X.K wi)) (hg : PG X tg (tGt X.K is b)) (hb : PSs X body (tSx X.K W wb))
    (hs : ∀ x, foldedSetIterable iter X.env x = pure x := by intro _; rfl) : PS X (.For tg iter body [] pos) (tSx X.K W (wFor wi b wb)) := PSi (ps_for hp hc hi hg hb hs) fun E σ H ⟨N, A, H0, ρ, u, F, R, hw, k1, k2, k3, k4, k5⟩ =>
  ⟨N, A, H0, ρ, u, _, R, hw, fun J H1 ds u1 s1 m1 ⟨G, hG, g1⟩ q1 => by
    refine ⟨fun i m σ' H' => m = ds.length - i ∧ i ≤ ds.length ∧ ∃ A' ρ' u', Goes A A' H H' ∧ Goes A A' H1 H' ∧ G A' H' ∧ Rel X.K N A' H0 σ' H' ρ' u' ∧ wLoop b wb F (ds.drop i) ρ' u',
      ⟨ds.length, by simp, Nat.zero_le _, A, ρ, u1, s1.goes, Goes.refl, g1, R.go s1 m1, q1⟩, ?_⟩
    rintro i m σ2 H2 ⟨rfl, hi, A2, ρ2, u2, g2, g2', gg2, R2, w2⟩
    by_cases hlt : i < ds.length
    · refine .inr ⟨hG.goes i A2 H2 hlt gg2, fun σ' H' => ∃ A' ρ' u', Goes A A' H H' ∧ Goes A A' H1 H' ∧ G A' H' ∧ Rel X.K N A' H0 σ' H' ρ' u' ∧ wLoop b wb F (ds.drop (i + 1)) ρ' u', fun σ' H' h => ⟨ds.length - (i + 1), by omega, rfl, hlt, h⟩, fun x H3 y => ?_⟩
      obtain ⟨s3, m3, d, hd, hda⟩ := hG.yields i A2 H2 x H3 hlt gg2 R2.goes0 y
      have e : ds.drop i = d :: ds.drop (i + 1) := by
        obtain ⟨h1, h2⟩ := List.getElem?_eq_some_iff.mp hd
        rw [← h2]
        exact List.drop_eq_getElem_cons h1
      rw [e] at w2
      obtain ⟨ρ3, hb3, w3⟩ := w2
      have R3 := R2.go s3 (m3 _ R2.minv)
      refine ⟨N, A2, H0, ρ2, ρ3, u2, d, R3, hda, hb3, fun σ4 _ R4 => ⟨N, A2, H0, ρ3, u2, _, R4, w3, ?_, ?_, ?_, ?_, k5⟩⟩
      · exact fun A' σ' H' ρ' u' g R' q => ⟨A', ρ', u', (g2.trans s3.goes).trans g, (g2'.trans s3.goes).trans g, hG.over _ _ _ _ g (hG.over _ _ _ _ s3.goes gg2), R', q⟩
      · exact fun v H' d u' s m hd q => k2 v H' d u' s m hd q
      · exact fun A' σ' H' ρ' u' g R' q => k1 A' σ' H' ρ' u' ((g2.trans s3.goes).trans g) R' q
      · exact fun A' σ' H' ρ' u' g R' q => ⟨A', ρ', u', (g2.trans s3.goes).trans g, (g2'.trans s3.goes).trans g, hG.over _ _ _ _ g (hG.over _ _ _ _ s3.goes gg2), R', q⟩
    · have e : i = ds.length := by omega
      subst e
      rw [List.drop_length] at w2
      exact .inl ⟨hG.stops A2 H2 gg2, k1 A2 σ2 H2 ρ2 u2 g2 R2 w2⟩⟩
end
end DW

set_option Elab.async false
set_option linter.all false
set_option maxRecDepth 100000
set_option maxHeartbeats 2000000
namespace DW
open PySem PySem.Spec PyProof.Rows L2
@[simp] def wipeR (ρ : Rho) : List Nat → Rho
  | [] => ρ
  | v :: vs => (wipeR ρ vs).set v none
section
variable {X : Cx} {K : PySem.W.Frag}
theorem wipeR_len (ρ : Rho) : ∀ vs : List Nat, (wipeR ρ vs).length = ρ.length
  | [] => rfl
  | v :: vs => by unfold wipeR; rw [List.length_set, wipeR_len ρ vs]
theorem wipeR_get {ρ : Rho} : ∀ {vs : List Nat} {i : Nat} {s : SV}, (wipeR ρ vs)[i]? = some (some s) → ρ[i]? = some (some s) ∧ i ∉ vs
  | [], _, _, h => ⟨h, by simp⟩
  | v :: vs, i, s, h => by
    unfold wipeR at h
    by_cases q : v = i
    · subst q
      by_cases hv : v < (wipeR ρ vs).length
      · rw [List.getElem?_set_self hv] at h; cases h
      · rw [List.getElem?_eq_none (by simpa using hv)] at h; cases h
    · rw [List.getElem?_set_ne q] at h
      obtain ⟨h1, h2⟩ := wipeR_get h
      exact ⟨h1, by simp only [List.mem_cons, not_or]; exact ⟨fun e => q e.symm, h2⟩⟩
theorem wipe_out {σ : L2.St} {vs : List Nat} {i : Nat} (h : i ∉ vs) : (wipe σ vs)[i]? = σ[i]? := by rw [wipe_get, if_neg h]
theorem Rel.wiped {N A : Addr → Prop} {H0 : Hp} {σ : L2.St} {H H' : Hp} {ρ : Rho} {u u' : Nat} {p : Addr} (R : Rel K N A H0 σ H ρ u) (s : Step H H') (m : MInv (Aand A p) u' K H') (hp : H p = none) (hp' : H' p ≠ none) (vs : List Nat) : Rel K N (Aand A p) H0 (wipe σ vs) H' (wipeR ρ vs) u' where
  len := by rw [wipeR_len, wipe_length]; exact R.len
  step := R.step.trans s
  minv := m
  sub := fun a h => .inl (R.sub a h)
  trk := fun a h => h.elim (fun h => s.there (R.trk a h)) fun e => by rw [e]; exact hp'
  ntrk := R.ntrk
  dat := fun i x e => by
    obtain ⟨e1, e2⟩ := wipeR_get e
    obtain ⟨v, h1, h2⟩ := R.dat i x e1
    exact ⟨v, by rw [wipe_out e2]; exact h1, h2.goes (goes_and s hp)⟩
  own := fun i xs e => by
    obtain ⟨e1, e2⟩ := wipeR_get e
    obtain ⟨a, vs, h1, h2, h3, h4, h5⟩ := R.own i xs e1
    exact ⟨a, vs, by rw [wipe_out e2]; exact h1, s.keep _ _ h2 (fun m => m), h3.goes (goes_and s hp), .inl h4, h5⟩
  dis := fun i j xs ys a e1 e2 s1 s2 => by
    obtain ⟨f1, g1⟩ := wipeR_get e1
    obtain ⟨f2, g2⟩ := wipeR_get e2
    rw [wipe_out g1] at s1
    rw [wipe_out g2] at s2
    exact R.dis i j xs ys a f1 f2 s1 s2
/-! ### comprehensions -/
@[simp] def wComp (b : WB) (wt : WT) (we : WE) (ρ : Rho) : List D → List D → Nat → (List D → Nat → Prop) → Prop
  | [], acc, u, Q => Q acc u
  | x :: xs, acc, u, Q => ∃ ρ', b x ρ = some ρ' ∧ wt ρ' u fun t u1 => if t = true then we ρ' u1 fun y u2 => wComp b wt we ρ xs (acc ++ [y]) u2 Q else wComp b wt we ρ xs acc u1 Q
@[simp] def wLc (wi : WA) (b : WB) (wt : WT) (we : WE) (vs : List Nat) : WA := fun ρ u Q => wi ρ u fun ds u1 => ds.length < 100000 ∧ wComp b wt we (wipeR ρ vs) ds [] u1 Q
/-- the tests of a comprehension -/
@[simp] def wTy : WT := fun _ u Q => Q true u
def tTs (K : PySem.W.Frag) (w : WT) := tTe K w
theorem PTsi {ts : List Expr} {t t' : TT} (h : PTs X ts t) (k : ∀ σ H Q, t' σ H Q → t σ H Q) : PTs X ts t' := ⟨fun pins s σ H Q I q => h.run pins s σ H Q I (k _ _ _ q)⟩
theorem ptsN : PTs X [] (tTe X.K wTy) := PTsi pts_nil fun σ H Q ⟨N, A, H0, ρ, u, Qd, R, hw, k⟩ => k true H u (Step.refl H) R.minv hw
theorem ptsO {e : Expr} {w : WT} (h : PT X e (tTe X.K w)) : PTs X [e] (tTe X.K w) := pts_one h
theorem lc_imp {wi : WA} {is own2 : List Nat} {b : WB} {wt : WT} {we : WE} (sub : ∀ i ∈ is, i ∈ own2) : ∀ σ H Q, tF X.K (wLc wi b wt we own2) σ H Q → tLc (tIt X.K wi) (tGt X.K is b) (tTe X.K wt) (tD X.K we) own2 σ H Q := fun σ H Q ⟨N, A, H0, ρ, u, Qd, R, hw, k⟩ =>
  ⟨N, A, H0, ρ, u, _, R, hw, fun J H1 ds u1 s1 m1 ⟨G, hG, g1⟩ ⟨hlen, q1⟩ P hP => by
    have hPH : H P = none := s1.fresh hP
    have nA : ¬ A P := R.fresh hPH
    have s2 : Step H1 (upd H1 P (.lst [])) := Step.new hP
    have m2 : MInv (Aand A P) u1 X.K (upd H1 P (.lst [])) := fun a o h m => by
      by_cases e : a = P
      · subst e; rw [upd_same] at h; cases h; exact m.elim
      · rw [upd_ne e] at h
        obtain ⟨l, s, c, x, cells, h1, h2, h3, h4, h5, h6, h7, h8, h9⟩ := m1 a o h m
        exact ⟨l, s, c, x, cells, h1, h2, h3, h4, h5, h6, by rw [upd_ne (ne_of_none h7 hP)]; exact h7, (fun z => z.elim h8 fun z => by rw [z, hP] at h7; cases h7), h9⟩
    refine ⟨fun i m H' => m = ds.length - i ∧ i ≤ ds.length ∧ ∃ vs acc u', Step H H' ∧ MInv (Aand A P) u' X.K H' ∧ H' P = some (.lst vs) ∧ DaAll X.K (Aand A P) H' vs acc ∧ acc.length ≤ i ∧ G (Aand A P) H' ∧ wComp b wt we (wipeR ρ own2) (ds.drop i) acc u' Qd,
      ⟨ds.length, by simp, Nat.zero_le _, [], [], u1, s1.trans s2, m2, upd_same, .nil, Nat.le_refl _, hG.over _ _ _ _ (goes_and s2 hP) g1, q1⟩, ?_⟩
    rintro i m H2 ⟨rfl, hi, vs, acc, u2, st2, m2, p2, da2, al2, g2, w2⟩
    have R2 : Rel X.K N (Aand A P) H0 (wipe σ own2) H2 (wipeR ρ own2) u2 := R.wiped st2 m2 hPH (by rw [p2]; simp) _
    by_cases hlt : i < ds.length
    · refine .inr ⟨hG.goes i _ H2 hlt g2, fun H' => ∃ vs acc u', Step H H' ∧ MInv (Aand A P) u' X.K H' ∧ H' P = some (.lst vs) ∧ DaAll X.K (Aand A P) H' vs acc ∧ acc.length ≤ i + 1 ∧ G (Aand A P) H' ∧ wComp b wt we (wipeR ρ own2) (ds.drop (i + 1)) acc u' Qd,
        fun H' h => ⟨ds.length - (i + 1), by omega, rfl, hlt, h⟩, fun x H3 y => ?_⟩
      obtain ⟨s3, m3, d, hd, hda⟩ := hG.yields i _ H2 x H3 hlt g2 R2.goes0 y
      have e : ds.drop i = d :: ds.drop (i + 1) := by
        obtain ⟨h1, h2⟩ := List.getElem?_eq_some_iff.mp hd
        rw [← h2]
        exact List.drop_eq_getElem_cons h1
      rw [e] at w2
      obtain ⟨ρ3, hb3, w3⟩ := w2
      have m3' := m3 _ m2
      have R3 := R2.go s3 m3'
      have g3 := hG.over _ _ _ _ s3.goes g2
      have p3 : H3 P = some (.lst vs) := s3.keep _ _ p2 (fun m => m)
      refine ⟨N, Aand A P, H0, wipeR ρ own2, ρ3, u2, d, R3, hda, hb3, fun σ4 o4 R4 => ⟨o4.wiped sub, N, Aand A P, H0, ρ3, u2, _, R4, w3, fun t H5 u5 s5 m5 q5 => ?_⟩⟩
      have p5 : H5 P = some (.lst vs) := s5.keep _ _ p3 (fun m => m)
      have g5 := hG.over _ _ _ _ s5.goes g3
      cases t with
      | false =>
        exact ⟨vs, acc, u5, (st2.trans s3).trans s5, m5, p5, (da2.goes s3.goes).goes s5.goes, by omega, g5, q5⟩
      | true =>
        refine ⟨N, Aand A P, H0, ρ3, u5, _, R4.go s5 m5, q5, fun v H6 z u6 s6 m6 hz q6 => ?_⟩
        have p6 : H6 P = some (.lst vs) := s6.keep _ _ p5 (fun m => m)
        have da6 : DaAll X.K (Aand A P) H6 vs acc := ((da2.goes s3.goes).goes s5.goes).goes s6.goes
        have gp : Goes (Aand A P) (Aand A P) H6 (upd H6 P (.lst (vs ++ [v]))) := ⟨fun a o n h _ => by
          rw [upd_ne (fun e => n (.inr e))]; exact h, fun a o h m => by
          by_cases e : a = P
          · subst e; rw [p6] at h; cases h; exact m.elim
          · exact ⟨o, by rw [upd_ne e]; exact h, m⟩, fun a h => .inl h⟩
        have hs6 : Step H (upd H6 P (.lst (vs ++ [v]))) := by
          have hh := ((st2.trans s3).trans s5).trans s6
          refine ⟨fun a o h m => ?_, fun a o h m => ?_⟩
          · rw [upd_ne (ne_of_none h hPH)]; exact hh.keep a o h m
          · obtain ⟨o', h', m'⟩ := hh.ms a o h m
            exact ⟨o', by rw [upd_ne (ne_of_none h hPH)]; exact h', m'⟩
        have m7 : MInv (Aand A P) u6 X.K (upd H6 P (.lst (vs ++ [v]))) := m6.putA (.inr rfl) (fun m => m)
        exact ⟨vs, p6, szLt (by have := da6.length; omega), vs ++ [v], acc ++ [z], u6, hs6, m7, upd_same, (da6.append (.cons hz .nil)).goes gp, by simp; omega, hG.over _ _ _ _ gp (hG.over _ _ _ _ s6.goes g5), q6⟩
    · have e : i = ds.length := by omega
      subst e
      rw [List.drop_length] at w2
      exact .inl ⟨hG.stops _ H2 g2, k P vs H2 acc u2 st2 m2 hPH p2 da2 w2⟩⟩
theorem pLc {elt tg iter : Expr} {ifs : List Expr} {scope : Scope} {own : List (Str × Nat)} {pos : Pos} {wi : WA} {is : List Nat} {b : WB} {wt : WT} {we : WE} (hc : X.calm = true) (hN : X.N.Nodup) (hi : PI X tg iter (tIt X.K wi)) (ok : BlkOk X.N X.env.scope scope own)
    (hg : ∀ (s : Shared) (H : Hp) (C : Addr) (cl : List (Str × Addr)) (fp : List Addr), PG (X.blk s H scope (compEnvC scope cl C X.env) fp) tg (tGt X.K is b)) (ht : ∀ (s : Shared) (H : Hp) (C : Addr) (cl : List (Str × Addr)) (fp : List Addr), PTs (X.blk s H scope (compEnvC scope cl C X.env) fp) ifs (tTe X.K wt))
    (he : ∀ (s : Shared) (H : Hp) (C : Addr) (cl : List (Str × Addr)) (fp : List Addr), PE (X.blk s H scope (compEnvC scope cl C X.env) fp) elt (tD X.K we)) (sub : ∀ i ∈ is, i ∈ own.map (·.2)) (hs : ∀ x, foldedSetIterable iter X.env x = pure x := by intro _; rfl) :
    PE X (.ListComp elt [⟨tg, iter, ifs, 0⟩] scope pos) (tF X.K (wLc wi b wt we (own.map (·.2)))) := PEi (pe_lc hc hN hi ok hg ht he hs) (lc_imp sub)
theorem psSetLc {i : Nat} {y : Str} {py spos : Pos} {elt tg iter : Expr} {ifs : List Expr} {scope : Scope} {own : List (Str × Nat)} {pos : Pos} {wi : WA} {is : List Nat} {b : WB} {wt : WT} {we : WE} (hN : X.N.Nodup) (hy : X.N[i]? = some y) (hyl : X.env.scope.names.lookup y = some .local) (hsw : swapsWith (.ListComp elt [⟨tg, iter, ifs, 0⟩] scope pos) (some (.Name y py)) spos.line X.env = pure true) (hc : X.calm = true) (hi : PI X tg iter (tIt X.K wi)) (ok : BlkOk X.N X.env.scope scope own)
    (hg : ∀ (s : Shared) (H : Hp) (C : Addr) (cl : List (Str × Addr)) (fp : List Addr), PG (X.blk s H scope (compEnvC scope cl C X.env) fp) tg (tGt X.K is b)) (ht : ∀ (s : Shared) (H : Hp) (C : Addr) (cl : List (Str × Addr)) (fp : List Addr), PTs (X.blk s H scope (compEnvC scope cl C X.env) fp) ifs (tTe X.K wt))
    (he : ∀ (s : Shared) (H : Hp) (C : Addr) (cl : List (Str × Addr)) (fp : List Addr), PE (X.blk s H scope (compEnvC scope cl C X.env) fp) elt (tD X.K we)) (sub : ∀ i ∈ is, i ∈ own.map (·.2)) (hs : ∀ x, foldedSetIterable iter X.env x = pure x := by intro _; rfl) :
    PS X (.Assign [.Name y py] (.ListComp elt [⟨tg, iter, ifs, 0⟩] scope pos) spos) (tAsg (tF X.K (wLc wi b wt we (own.map (·.2)))) (gName i)) :=
  PSi (ps_setLc hc hN hy hyl hsw hi ok hg ht he hs) fun E σ H h => lc_imp sub σ H _ h
end
end DW

set_option Elab.async false
set_option linter.all false
set_option maxRecDepth 100000
set_option maxHeartbeats 2000000
namespace DW
open PySem PySem.Spec PyProof.Rows L2
section
variable {K : PySem.W.Frag} {N A : Addr → Prop} {H0 H H' : Hp} {σ : L2.St} {ρ : Rho} {u u' : Nat}
theorem set_self {ρ : Rho} {i : Nat} {s t : SV} (h : (ρ.set i (some s))[i]? = some (some t)) : s = t := by
  by_cases hl : i < ρ.length
  · rw [List.getElem?_set_self hl] at h; exact Option.some.inj (Option.some.inj h)
  · rw [List.getElem?_eq_none (by rw [List.length_set]; omega)] at h; cases h
/-- a slot gets a new list of its own -/
theorem Rel.setOwn (R : Rel K N A H0 σ H ρ u) (s : Step H H') {i : Nat} {p : Addr} {vs : List V} {ds : List D} (m : MInv (Aand A p) u' K H') (hp : H p = none) (hp' : H' p = some (.lst vs)) (hd : DaAll K (Aand A p) H' vs ds) :
    Rel K N (Aand A p) H0 (σ.set i (some (.ref p))) H' (ρ.set i (some (.own ds))) u' where
  len := by rw [List.length_set, List.length_set]; exact R.len
  step := R.step.trans s
  minv := m
  sub := fun a h => .inl (R.sub a h)
  trk := fun a h => h.elim (fun h => s.there (R.trk a h)) fun e => by rw [e, hp']; simp
  ntrk := R.ntrk
  dat := fun j x e => by
    by_cases q : i = j
    · subst q; exact nomatch (set_self e)
    · rw [List.getElem?_set_ne q] at e ⊢
      obtain ⟨v, h1, h2⟩ := R.dat j x e
      exact ⟨v, h1, h2.goes (goes_and s hp)⟩
  own := fun j xs e => by
    by_cases q : i = j
    · subst q
      have e' := set_self e
      cases e'
      refine ⟨p, vs, ?_, hp', hd, .inr rfl, R.step.fresh hp⟩
      · have hl : i < ρ.length := by
          by_cases hl : i < ρ.length
          · exact hl
          · rw [List.getElem?_eq_none (by rw [List.length_set]; omega)] at e; cases e
        exact List.getElem?_set_self (by rw [← R.len]; exact hl)
    · rw [List.getElem?_set_ne q] at e ⊢
      obtain ⟨a, ws, h1, h2, h3, h4, h5⟩ := R.own j xs e
      exact ⟨a, ws, h1, s.keep _ _ h2 (fun m => m), h3.goes (goes_and s hp), .inl h4, h5⟩
  dis := fun j k xs ys a e1 e2 s1 s2 => by
    have old : ∀ j xs, i ≠ j → (ρ.set i (some (SV.own ds)))[j]? = some (some (SV.own xs)) → (σ.set i (some (V.ref p)))[j]? = some (some (V.ref p)) → False := fun j xs q e s => by
      rw [List.getElem?_set_ne q] at e s
      obtain ⟨a, ws, h1, h2, _⟩ := R.own j xs e
      rw [h1] at s
      have e3 : a = p := by simpa using s
      subst e3
      rw [h2] at hp; cases hp
    have val : ∀ a, (σ.set i (some (V.ref p)))[i]? = some (some (V.ref a)) → a = p := fun a h => by
      by_cases hl : i < σ.length
      · rw [List.getElem?_set_self hl] at h
        have e3 : p = a := by simpa using h
        exact e3.symm
      · rw [List.getElem?_eq_none (by rw [List.length_set]; omega)] at h; cases h
    by_cases q : i = j
    · by_cases q2 : i = k
      · exact q.symm.trans q2
      · subst q
        have e3 := val a s1
        subst e3
        exact (old k ys q2 e2 s2).elim
    · by_cases q2 : i = k
      · subst q2
        have e3 := val a s2
        subst e3
        exact (old j xs q e1 s1).elim
      · rw [List.getElem?_set_ne q] at e1 s1
        rw [List.getElem?_set_ne q2] at e2 s2
        exact R.dis j k xs ys a e1 e2 s1 s2
/-- a list of one's own changes -/
theorem Rel.putOwn (R : Rel K N A H0 σ H ρ u) {i : Nat} {a : Addr} {vs vs' : List V} {xs xs' : List D} (e : ρ[i]? = some (some (SV.own xs))) (es : σ[i]? = some (some (V.ref a))) (ha : H a = some (.lst vs)) (hA : A a) (h0 : H0 a = none) (hd : DaAll K A H vs' xs') :
    Rel K N A H0 σ (upd H a (.lst vs')) (ρ.set i (some (.own xs'))) u where
  len := by rw [List.length_set]; exact R.len
  step := ⟨fun b o h m => by rw [upd_ne (ne_of_none h h0)]; exact R.step.keep b o h m, fun b o h m => by
    obtain ⟨o', h', m'⟩ := R.step.ms b o h m
    exact ⟨o', by rw [upd_ne (ne_of_none h h0)]; exact h', m'⟩⟩
  minv := R.minv.putA hA (fun m => m)
  sub := R.sub
  trk := fun b h => by
    by_cases q : b = a
    · rw [q, upd_same]; simp
    · rw [upd_ne q]; exact R.trk b h
  ntrk := R.ntrk
  dat := fun j x f => by
    by_cases q : i = j
    · subst q; exact nomatch (set_self f)
    · rw [List.getElem?_set_ne q] at f
      obtain ⟨v, h1, h2⟩ := R.dat j x f
      exact ⟨v, h1, h2.goes ⟨fun b o n h _ => by rw [upd_ne (fun z => n (by rw [z]; exact hA))]; exact h, fun b o h m => by
        by_cases z : b = a
        · rw [z, ha] at h; cases h; exact m.elim
        · exact ⟨o, by rw [upd_ne z]; exact h, m⟩, fun b h => .inl h⟩⟩
  own := fun j ys f => by
    have g : Goes A A H (upd H a (.lst vs')) := ⟨fun b o n h _ => by rw [upd_ne (fun z => n (by rw [z]; exact hA))]; exact h, fun b o h m => by
        by_cases z : b = a
        · rw [z, ha] at h; cases h; exact m.elim
        · exact ⟨o, by rw [upd_ne z]; exact h, m⟩, fun b h => .inl h⟩
    by_cases q : i = j
    · subst q
      have f' := set_self f
      cases f'
      exact ⟨a, vs', es, upd_same, hd.goes g, hA, h0⟩
    · rw [List.getElem?_set_ne q] at f
      obtain ⟨b, ws, h1, h2, h3, h4, h5⟩ := R.own j ys f
      have nb : b ≠ a := fun z => q (R.dis i j xs ys a e f es (by rw [← z]; exact h1))
      exact ⟨b, ws, h1, by rw [upd_ne nb]; exact h2, h3.goes g, h4, h5⟩
  dis := fun j k xs1 ys b e1 e2 s1 s2 => by
    have back : ∀ j ys, (ρ.set i (some (SV.own xs')))[j]? = some (some (SV.own ys)) → ∃ zs, ρ[j]? = some (some (SV.own zs)) := fun j ys f => by
      by_cases q : i = j
      · subst q; exact ⟨xs, e⟩
      · rw [List.getElem?_set_ne q] at f; exact ⟨ys, f⟩
    obtain ⟨z1, f1⟩ := back j xs1 e1
    obtain ⟨z2, f2⟩ := back k ys e2
    exact R.dis j k z1 z2 b f1 f2 s1 s2
theorem goes_put {a : Addr} {vs vs' : List V} (ha : H a = some (.lst vs)) (hA : A a) : Goes A A H (upd H a (.lst vs')) := ⟨fun b o n h _ => by rw [upd_ne (fun z => n (by rw [z]; exact hA))]; exact h, fun b o h m => by
  by_cases z : b = a
  · rw [z, ha] at h; cases h; exact m.elim
  · exact ⟨o, by rw [upd_ne z]; exact h, m⟩, fun b h => .inl h⟩
/-- a list of one's own that changes no more -/
theorem Rel.freeze (R : Rel K N A H0 σ H ρ u) {i : Nat} {xs : List D} (e : ρ[i]? = some (some (SV.own xs))) : ∃ A', Goes A A' H H ∧ Rel K N A' H0 σ H (ρ.set i (some (.d (.list xs)))) u := by
  obtain ⟨a, vs, h1, h2, h3, h4, h5⟩ := R.own i xs e
  refine ⟨fun b => A b ∧ b ≠ a, .less fun b h => h.1, ?_⟩
  have g : Goes A (fun b => A b ∧ b ≠ a) H H := .less fun b h => h.1
  exact {
    len := by rw [List.length_set]; exact R.len
    step := R.step
    minv := R.minv.less fun b _ h => h.1
    sub := fun b h => ⟨R.sub b h, fun z => R.ntrk b h (by rw [z]; exact h5)⟩
    trk := fun b h => R.trk b h.1
    ntrk := R.ntrk
    dat := fun j x f => by
      by_cases q : i = j
      · subst q
        have f' := set_self f
        cases f'
        exact ⟨.ref a, h1, .lst h2 (fun z => z.2 rfl) (h3.goes g)⟩
      · rw [List.getElem?_set_ne q] at f
        obtain ⟨v, g1, g2⟩ := R.dat j x f
        exact ⟨v, g1, g2.goes g⟩
    own := fun j ys f => by
      by_cases q : i = j
      · subst q; exact nomatch (set_self f)
      · rw [List.getElem?_set_ne q] at f
        obtain ⟨b, ws, g1, g2, g3, g4, g5⟩ := R.own j ys f
        exact ⟨b, ws, g1, g2, g3.goes g, ⟨g4, fun z => q (R.dis i j xs ys a e f h1 (by rw [← z]; exact g1))⟩, g5⟩
    dis := fun j k xs1 ys b e1 e2 s1 s2 => by
      by_cases q : i = j
      · subst q; exact nomatch (set_self e1)
      · by_cases q2 : i = k
        · subst q2; exact nomatch (set_self e2)
        · rw [List.getElem?_set_ne q] at e1
          rw [List.getElem?_set_ne q2] at e2
          exact R.dis j k xs1 ys b e1 e2 s1 s2 }
end
section
variable {X : Cx} {W : XK}
/-! ### statements -/
@[simp] def wSetD (i : Nat) (w : WE) : WS := fun F ρ u => w ρ u fun d u1 => F.nx (ρ.set i (some (.d d))) u1
@[simp] def wSetF (i : Nat) (w : WA) : WS := fun F ρ u => w ρ u fun ds u1 => F.nx (ρ.set i (some (.own ds))) u1
theorem psSetD {st : Stmt} {i : Nat} {w : WE} (h : PS X st (tAsg (tD X.K w) (gName i))) : PS X st (tSx X.K W (wSetD i w)) := PSi h fun E σ H ⟨N, A, H0, ρ, u, F, R, hw, k1, k2, k3, k4, k5⟩ =>
  ⟨N, A, H0, ρ, u, _, R, hw, fun v H1 d u1 s1 m1 hd q => k1 A _ _ _ u1 s1.goes ((R.go s1 m1).setD hd) q⟩
theorem psSetF {st : Stmt} {i : Nat} {w : WA} (h : PS X st (tAsg (tF X.K w) (gName i))) : PS X st (tSx X.K W (wSetF i w)) := PSi h fun E σ H ⟨N, A, H0, ρ, u, F, R, hw, k1, k2, k3, k4, k5⟩ =>
  ⟨N, A, H0, ρ, u, _, R, hw, fun p vs H1 ds u1 s1 m1 hp hp' hd q => k1 _ _ _ _ u1 (goes_and s1 hp) (R.setOwn s1 m1 hp hp' hd) q⟩
theorem psSetFD {st : Stmt} {i : Nat} {w : WA} (h : PS X st (tAsg (tF X.K w) (gName i))) : PS X st (tSx X.K W (wSetD i fun ρ u Q => w ρ u fun ds u' => Q (.list ds) u')) := PSi h fun E σ H ⟨N, A, H0, ρ, u, F, R, hw, k1, k2, k3, k4, k5⟩ =>
  ⟨N, A, H0, ρ, u, _, R, hw, fun p vs H1 ds u1 s1 m1 hp hp' hd q => k1 A _ _ _ u1 s1.goes ((R.go s1 m1.un).setD (.lst hp' (R.fresh hp) (hd.goes (.less fun a h => .inl h)))) q⟩
@[simp] def wUnp (b : WB) (w : WE) : WS := fun F ρ u => w ρ u fun d u1 => ∃ ρ', b d ρ = some ρ' ∧ F.nx ρ' u1
theorem psUnp {st : Stmt} {is : List Nat} {b : WB} {w : WE} (h : PS X st (tAsg (tD X.K w) (tGt X.K is b))) : PS X st (tSx X.K W (wUnp b w)) := PSi h fun E σ H ⟨N, A, H0, ρ, u, F, R, hw, k1, k2, k3, k4, k5⟩ =>
  ⟨N, A, H0, ρ, u, _, R, hw, fun v H1 d u1 s1 m1 hd ⟨ρ', e, q⟩ => ⟨N, A, H0, ρ, ρ', u1, d, R.go s1 m1, hd, e, fun σ' _ R' => k1 A _ _ _ u1 s1.goes R' q⟩⟩
@[simp] def wPar (i j : Nat) (w : WA) : WS := fun F ρ u => w ρ u fun ds u1 => ∃ c d, ds = [c, d] ∧ F.nx ((ρ.set i (some (.d c))).set j (some (.d d))) u1
theorem psPar {st : Stmt} {i j : Nat} {w : WA} (h : PS X st (tPar i j (tAr X.K w))) : PS X st (tSx X.K W (wPar i j w)) := PSi h fun E σ H ⟨N, A, H0, ρ, u, F, R, hw, k1, k2, k3, k4, k5⟩ =>
  ⟨N, A, H0, ρ, u, _, R, hw, fun vs H1 ds u1 s1 m1 hd ⟨c, d, e, q⟩ => by
    subst e
    cases hd with
    | cons h1 ht =>
      cases ht with
      | cons h2 ht =>
        cases ht
        exact ⟨_, _, rfl, k1 A _ _ _ u1 s1.goes (((R.go s1 m1).setD h1).setD h2) q⟩⟩
@[simp] def wRet (w : WE) : WS := fun F ρ u => w ρ u fun d u1 => F.rt d u1
theorem psRet {e : Expr} {pos : Pos} {w : WE} (h : PE X e (tBo X.K w)) : PS X (.Return (some e) pos) (tSx X.K W (wRet w)) := PSi (ps_ret h) fun E σ H ⟨N, A, H0, ρ, u, F, R, hw, k1, k2, k3, k4, k5⟩ =>
  ⟨N, A, H0, ρ, u, _, R, hw, fun v H1 d u1 s1 m1 hd q => k2 v H1 d u1 (R.step.trans s1) (m1.less fun a _ h => R.sub a h) (hd.out R.sub) q⟩
@[simp] def wIfS (wc : WT) (a b : WS) : WS := fun F ρ u => wc ρ u fun t u1 => if t = true then a F ρ u1 else b F ρ u1
theorem psIf {c : Expr} {a b : List Stmt} {pos : Pos} {wc : WT} {wa wb : WS} (hc : PT X c (tTe X.K wc)) (ha : PSs X a (tSx X.K W wa)) (hb : PSs X b (tSx X.K W wb)) : PS X (.If c a b pos) (tSx X.K W (wIfS wc wa wb)) := PSi (ps_if hc ha hb) fun E σ H ⟨N, A, H0, ρ, u, F, R, hw, k1, k2, k3, k4, k5⟩ =>
  ⟨N, A, H0, ρ, u, _, R, hw, fun t H1 u1 s1 m1 q => by
    cases t with
    | true => exact ⟨N, A, H0, ρ, u1, F, R.go s1 m1, q, fun A' σ' H' ρ' u' g R' q => k1 A' σ' H' ρ' u' (s1.goes.trans g) R' q, k2, fun A' σ' H' ρ' u' g R' q => k3 A' σ' H' ρ' u' (s1.goes.trans g) R' q, fun A' σ' H' ρ' u' g R' q => k4 A' σ' H' ρ' u' (s1.goes.trans g) R' q, k5⟩
    | false => exact ⟨N, A, H0, ρ, u1, F, R.go s1 m1, q, fun A' σ' H' ρ' u' g R' q => k1 A' σ' H' ρ' u' (s1.goes.trans g) R' q, k2, fun A' σ' H' ρ' u' g R' q => k3 A' σ' H' ρ' u' (s1.goes.trans g) R' q, fun A' σ' H' ρ' u' g R' q => k4 A' σ' H' ρ' u' (s1.goes.trans g) R' q, k5⟩⟩
@[simp] def wNil : WS := fun F ρ u => F.nx ρ u
@[simp] def wSeq (a b : WS) : WS := fun F ρ u => a { F with nx := b F } ρ u
theorem pssNil : PSs X [] (tSx X.K W wNil) := PSsi pss_nil fun E σ H ⟨N, A, H0, ρ, u, F, R, hw, k1, k2, k3, k4, k5⟩ => k1 A σ H ρ u Goes.refl R hw
theorem pssCons {st : Stmt} {rest : List Stmt} {a b : WS} (h1 : PS X st (tSx X.K W a)) (h2 : PSs X rest (tSx X.K W b)) : PSs X (st :: rest) (tSx X.K W (wSeq a b)) := PSsi (pss_cons h1 h2) fun E σ H ⟨N, A, H0, ρ, u, F, R, hw, k1, k2, k3, k4, k5⟩ =>
  ⟨N, A, H0, ρ, u, { F with nx := b F }, R, hw, fun A1 σ1 H1 ρ1 u1 g1 R1 q1 => ⟨N, A1, H0, ρ1, u1, F, R1, q1, fun A' σ' H' ρ' u' g R' q => k1 A' σ' H' ρ' u' (g1.trans g) R' q, k2, fun A' σ' H' ρ' u' g R' q => k3 A' σ' H' ρ' u' (g1.trans g) R' q, fun A' σ' H' ρ' u' g R' q => k4 A' σ' H' ρ' u' (g1.trans g) R' q, k5⟩, k2, k3, k4, k5⟩
theorem pssOne {st : Stmt} {a : WS} (h1 : PS X st (tSx X.K W a)) : PSs X [st] (tSx X.K W a) := pss_one h1
theorem psPass {pos : Pos} : PS X (.Pass pos) (tSx X.K W wNil) := PSi ps_pass fun E σ H ⟨N, A, H0, ρ, u, F, R, hw, k1, k2, k3, k4, k5⟩ => k1 A σ H ρ u Goes.refl R hw
/-- from here on slot i changes no more -/
@[simp] def wFrz (i : Nat) (a : WS) : WS := fun F ρ u => ∃ xs, ρ[i]? = some (some (SV.own xs)) ∧ a F (ρ.set i (some (.d (.list xs)))) u
theorem pssFrz {sts : List Stmt} {i : Nat} {a : WS} (h : PSs X sts (tSx X.K W a)) : PSs X sts (tSx X.K W (wFrz i a)) := PSsi h fun E σ H ⟨N, A, H0, ρ, u, F, R, ⟨xs, e, hw⟩, k1, k2, k3, k4, k5⟩ => by
  obtain ⟨A', g0, R'⟩ := R.freeze e
  exact ⟨N, A', H0, _, u, F, R', hw, fun A1 σ' H' ρ' u' g R' q => k1 A1 σ' H' ρ' u' (g0.trans g) R' q, k2, fun A1 σ' H' ρ' u' g R' q => k3 A1 σ' H' ρ' u' (g0.trans g) R' q, fun A1 σ' H' ρ' u' g R' q => k4 A1 σ' H' ρ' u' (g0.trans g) R' q, k5⟩
/-- xs.append(e) -/
@[simp] def wApp (i : Nat) (w : WE) : WS := fun F ρ u => ∃ xs, ρ[i]? = some (some (SV.own xs)) ∧ w ρ u fun d u1 => xs.length < 100000 ∧ F.nx (ρ.set i (some (.own (xs ++ [d])))) u1
theorem psApp {st : Stmt} {i : Nat} {w : WE} (h : PS X st (tDrop (tBM X.K "list" rAppend (tVar i) (tCons (tD X.K w) tNil)))) : PS X st (tSx X.K W (wApp i w)) := PSi h fun E σ H ⟨N, A, H0, ρ, u, F, R, ⟨xs, e0, hw⟩, k1, k2, k3, k4, k5⟩ => by
  obtain ⟨a, vs, h1, h2, h3, h4, h5⟩ := R.own i xs e0
  refine ⟨.ref a, h1, .inl ⟨rfl, vs, .inl (.inl h2)⟩, N, A, H0, ρ, u, _, R, hw, fun v H1 d u1 s1 m1 hd ⟨hl, q⟩ => ?_⟩
  have ha := s1.keep a _ h2 (fun m => m)
  have h3' := h3.goes (A' := A) s1.goes
  refine ⟨a, vs, v, rfl, rfl, ha, szLt (by rw [h3.length]; exact hl), ?_⟩
  exact k1 A σ _ _ u1 (s1.goes.trans (goes_put ha h4)) ((R.go s1 m1).putOwn e0 h1 ha h4 h5 (h3'.append (.cons hd .nil))) q
end
/-! ### calls -/
/-- what a def does, over data -/
abbrev WF := Nat → List D → (D → Nat → Prop) → Prop
def spD (K : PySem.W.Frag) (W : WF) : Sp := fun vs H Q _ => ∃ (N : Addr → Prop) (ds : List D) (u : Nat) (Qd : D → Nat → Prop), (∀ a, N a → H a ≠ none) ∧ MInv N u K H ∧ DaAll K N H vs ds ∧ W u ds Qd ∧
  ∀ v H' d u', Step H H' → MInv N u' K H' → Da K N H' v d → Qd d u' → Q v H'
@[simp] def wFn (W : WF) (ws : WA) : WE := fun ρ u Q => ws ρ u fun ds u1 => W u1 ds Q
section
variable {X : Cx}
theorem tCall_of {K : PySem.W.Frag} {W : WF} {ws : WA} {E : XK} : ∀ σ H Q, tD K (wFn W ws) σ H Q → tCall (spD K W) [] E (tAr K ws) σ H Q := fun σ H Q ⟨N, A, H0, ρ, u, Qd, R, hw, k⟩ =>
  ⟨N, A, H0, ρ, u, _, R, hw, fun vs H1 ds u1 s1 m1 hd q => by
    show spD K W (vs ++ []) H1 Q E
    rw [List.append_nil]
    exact ⟨A, ds, u1, Qd, fun a h => s1.there (R.trk a h), m1, hd, q, fun v H2 d u2 s2 m2 hd2 q2 => k v H2 d u2 (s1.trans s2) m2 hd2 q2⟩⟩
theorem pFn {k : Nat} {f : Addr} {fd : FuncData} {ps : List Str} {x : Str} {p pos : Pos} {e : Expr} {es : List Expr} {W : WF} {ws : WA} (F : FnOk X.prog X.w X.K X.mg X.base CX0 k f fd ps (spD X.K W)) (hr : Room k X.A) (hg : Gl X x) (hm : X.mg x = some (.ref f)) (hk : PySem.W.keepIn X.K (.ref f) = true) (hb : Binds X.K fd ps [])
    (ha : PA X (e :: es) (tAr X.K ws)) (hdb : (x == ("__debug__" : Str)) = false := by decide) (he : starEach (e :: es) X.env = (false, eval e X.env) :: starEach es X.env := by rfl) (hpl : (backTo pos (starEach es X.env)).any (·.1) = false := by rfl) :
    PE X (.Call (.Name x p) (e :: es) [] pos) (tD X.K (wFn W ws)) := PEi (pe_call F hr hg hm hk hb .nil pass0 ha hdb he hpl) tCall_of
theorem pFn0 {k : Nat} {f : Addr} {fd : FuncData} {ps : List Str} {x : Str} {p pos : Pos} {W : WF} (F : FnOk X.prog X.w X.K X.mg X.base CX0 k f fd ps (spD X.K W)) (hr : Room k X.A) (hg : Gl X x) (hm : X.mg x = some (.ref f)) (hk : PySem.W.keepIn X.K (.ref f) = true) (hb : Binds X.K fd ps [])
    (hdb : (x == ("__debug__" : Str)) = false := by decide) : PE X (.Call (.Name x p) [] [] pos) (tD X.K (wFn W waNil)) := PEi (pe_call0 F hr hg hm hk hb .nil pass0 hdb) fun σ H Q ⟨N, A, H0, ρ, u, Qd, R, hw, k⟩ =>
  ⟨A, [], u, Qd, R.trk, R.minv, .nil, hw, k⟩
end
/-! ### a def -/
@[simp] def startR (N : List Str) (ds : List D) : Rho := ds.map (fun d => some (.d d)) ++ List.replicate (N.length - ds.length) none
theorem start_rel {K : PySem.W.Frag} {N : Addr → Prop} {H : Hp} {Ns : List Str} {vs : List V} {ds : List D} {u : Nat} (hN : ∀ a, N a → H a ≠ none) (m : MInv N u K H) (hd : DaAll K N H vs ds) : Rel K N N H (L2.start Ns vs) H (startR Ns ds) u := by
  have hl := hd.length
  refine ⟨by simp [startR, L2.start, hl], Step.refl H, m, fun _ h => h, hN, hN, fun i x e => ?_, fun i xs e => ?_, fun i j xs ys a e1 e2 _ _ => ?_⟩
  · unfold startR at e
    by_cases hi : i < ds.length
    · rw [List.getElem?_append_left (by simpa using hi), List.getElem?_map] at e
      cases q : ds[i]? with
      | none => rw [q] at e; cases e
      | some d =>
        rw [q] at e
        have e' : d = x := by simpa using e
        subst e'
        obtain ⟨v, h1, h2⟩ := hd.get q
        refine ⟨v, ?_, h2⟩
        unfold L2.start
        rw [List.getElem?_append_left (by rw [List.length_map]; omega), List.getElem?_map, h1]
        rfl
    · rw [List.getElem?_append_right (by simpa using Nat.le_of_not_lt hi), List.getElem?_replicate] at e
      split at e <;> cases e
  all_goals
    exfalso
    have key : ∀ i xs, (startR Ns ds)[i]? = some (some (SV.own xs)) → False := fun i xs e => by
      unfold startR at e
      by_cases hi : i < ds.length
      · rw [List.getElem?_append_left (by simpa using hi), List.getElem?_map] at e
        cases q : ds[i]? with
        | none => rw [q] at e; cases e
        | some d => rw [q] at e; simp at e
      · rw [List.getElem?_append_right (by simpa using Nat.le_of_not_lt hi), List.getElem?_replicate] at e
        split at e <;> cases e
    first | exact key _ _ e | exact key _ _ e1
section
variable {P : Program} {w : World} {K : PySem.W.Frag} {mg : Str → Option Value} {base : Heap}
/-- THE RULE for a def over data -/
theorem fnD {x qual : Str} {st : Stmt} {f : Addr} {fd : FuncData} {Ns ps : List Str} {k : Nat} {W : WF} {wb : WS} (F : Fun K x qual st f fd) (S : FnScope Ns ps (defScope st))
    (hbody : ∀ (cdv : Value) (A : Around) (outer : List Env) (s : Shared) (H : Hp) (E : XK), Room k (A.deeper (envOfC qual (defScope st) s.heap.objs.size f cdv)) → PSs (cxOf CX0 P w K mg base Ns qual (defScope st) f cdv A outer s H E).nox (defBody st) (tSt K wb))
    (h : ∀ u ds Qd, W u ds Qd → ds.length = ps.length ∧ wb { nx := fun _ u' => Qd .none u', rt := Qd } (startR Ns ds) u) : FnOk P w K mg base CX0 (k + 1) f fd ps (spD K W) := by
  refine F.ok S (fun vs H Q E hs => ?_) (fun cdv A outer s H vs Q E hr hs => ?_)
  · obtain ⟨N, ds, u, Qd, hN, m, hd, hw, k⟩ := hs
    rw [hd.length]
    exact (h u ds Qd hw).1
  · obtain ⟨N, ds, u, Qd, hN, m, hd, hw, k⟩ := hs
    refine ⟨_, hbody cdv A outer s H E hr, N, N, H, startR Ns ds, u, _, start_rel hN m hd, (h u ds Qd hw).2, fun A' σ' H' ρ' u' g R' q => ?_, fun v H' d u' s m hd q => k v H' d u' s m hd q, fun _ _ _ _ _ _ _ q => q, fun _ _ _ _ _ _ _ q => q, fun _ _ _ _ _ q => q⟩
    exact k .non H' .none u' R'.step (R'.minv.less fun a _ h => R'.sub a h) .non q
end
end DW

set_option Elab.async false
set_option linter.all false
set_option maxRecDepth 100000
set_option maxHeartbeats 2000000
namespace DW
open PySem PySem.Spec PyProof.Rows L2
/-! ### promises where no text of a list is being made (repr) -/
structure FnG (P : Program) (w : World) (K : PySem.W.Frag) (mg : Str → Option Value) (base : Heap) (k : Nat) (f : Addr) (fd : FuncData) (ps : List Str) (sp : Sp) : Prop where
  len : ∀ vs H Q E, sp vs H Q E → vs.length = ps.length
  go : ∀ (A : Around) (outer : List Env) (s : Shared) (H : Hp) (args : Args) (us : List Value) (vs : List V) (Q : VK) (E : XK), A.guards = some [] → Room k A → Env0 P w K mg base A outer s H → BindsTo s fd args (ps.zip us) → Vals vs us → sp vs H Q E →
    codeAny (model P w) A (.call (.ref f) args) (CR CX0 outer P w H s Q E) s
section
variable {P : Program} {w : World} {K : PySem.W.Frag} {mg : Str → Option Value} {base : Heap}
theorem fnG_of {x qual : Str} {st : Stmt} {f : Addr} {fd : FuncData} {Ns ps : List Str} {k : Nat} {sp : Sp} (F : Fun K x qual st f fd) (S : FnScope Ns ps (defScope st)) (len : ∀ vs H Q E, sp vs H Q E → vs.length = ps.length)
    (hbody : ∀ (cdv : Value) (A : Around) (outer : List Env) (s : Shared) (H : Hp) (vs : List V) (Q : VK) (E : XK), (A.deeper (envOfC qual (defScope st) s.heap.objs.size f cdv)).guards = some [] → Room k (A.deeper (envOfC qual (defScope st) s.heap.objs.size f cdv)) → sp vs H Q E →
      ∃ t, PSs (cxOf CX0 P w K mg base Ns qual (defScope st) f cdv A outer s H E).nox (defBody st) t ∧ t { nx := fun _ H' => Q .non H', rt := Q } (L2.start Ns vs) H) : FnG P w K mg base (k + 1) f fd ps sp := by
  obtain ⟨oc, od, kV, doc, pm, an, cdv, ct, osl, rfl, lk, hcd⟩ := F.ex
  refine ⟨len, fun A outer s H args us vs Q E hG hr env0 hbind rel hsp => ?_⟩
  have inK : K.In s.heap := env0.mod.kin.keeps fun b o e => (env0.bs b o e).1
  have noLim : s.heap.NoLimit := env0.mod.nolimit.keeps fun b o e => (env0.bs b o e).1
  refine codeAny_call_function hr.depth (inK _ _ lk) rfl S.co S.gen rfl (PySem.W.codeRec_of inK hcd) (hbind _ _ _ _ ?_)
  refine wpAny_newFunctionEnv_cells S.kind (fun p hp => ?_) fun env he s1 x => ?_
  · rcases S.par p.1 (List.of_mem_zip (show (p.1, p.2) ∈ ps.zip us from hp)).1 with q | q
    · exact Or.inl q
    · exact Or.inr ⟨q, PySem.W.cellsFrom_some _ _ _ (.inl q)⟩
  subst he
  refine ⟨noLim.keeps x.toInCall.keep, codeAny_func ?_⟩
  obtain ⟨t, der, start⟩ := hbody cdv A outer s H vs Q E (show A.guards = some [] from hG) (hr.deeper _) hsp
  have I0 := inv_start (CX := CX0) (E := E) S hr.hd env0 (len _ _ _ _ hsp) rel x
  refine wpAny_mono (der.nox.run [] s1 (L2.start Ns vs) H _ I0 start) (fun fl s' hs => ?_) fun e s' hs => hs
  have close : ∀ {σ' : L2.St} {H' : Hp} {v : V} {u : Value}, Inv (cxOf CX0 P w K mg base Ns qual (defScope st) f cdv A outer s H E) [] σ' H' s' → RelV v u → Q v H' → CE outer P w H s Q u s' := by
    intro σ' H' v u J rv q
    exact ⟨v, H', J.os, J.bare, J.base, J.hok, rv, q⟩
  cases fl with
  | ret u => exact let ⟨v, σ', H', J, rv, q⟩ := hs; close J rv q
  | next => exact let ⟨σ', H', J, q⟩ := hs; close (v := V.non) (u := Value.none) J rfl q
  | brk => exact let ⟨_, _, _, q⟩ := hs; q.elim
  | cont => exact let ⟨_, _, _, q⟩ := hs; q.elim
theorem FnOk.g {k : Nat} {f : Addr} {fd : FuncData} {ps : List Str} {sp : Sp} (F : FnOk P w K mg base CX0 k f fd ps sp) : FnG P w K mg base k f fd ps sp := ⟨F.len, fun A outer s H args us vs Q E _ hr => F.run A outer s H args us vs Q E hr⟩
theorem fnDG {x qual : Str} {st : Stmt} {f : Addr} {fd : FuncData} {Ns ps : List Str} {k : Nat} {W : WF} {wb : WS} (F : Fun K x qual st f fd) (S : FnScope Ns ps (defScope st))
    (hbody : ∀ (cdv : Value) (A : Around) (outer : List Env) (s : Shared) (H : Hp) (E : XK), (A.deeper (envOfC qual (defScope st) s.heap.objs.size f cdv)).guards = some [] → Room k (A.deeper (envOfC qual (defScope st) s.heap.objs.size f cdv)) → PSs (cxOf CX0 P w K mg base Ns qual (defScope st) f cdv A outer s H E).nox (defBody st) (tSt K wb))
    (h : ∀ u ds Qd, W u ds Qd → ds.length = ps.length ∧ wb { nx := fun _ u' => Qd .none u', rt := Qd } (startR Ns ds) u) : FnG P w K mg base (k + 1) f fd ps (spD K W) := by
  refine fnG_of F S (fun vs H Q E hs => ?_) (fun cdv A outer s H vs Q E hG hr hs => ?_)
  · obtain ⟨N, ds, u, Qd, hN, m, hd, hw, k⟩ := hs
    rw [hd.length]
    exact (h u ds Qd hw).1
  · obtain ⟨N, ds, u, Qd, hN, m, hd, hw, k⟩ := hs
    refine ⟨_, hbody cdv A outer s H E hG hr, N, N, H, startR Ns ds, u, _, start_rel hN m hd, (h u ds Qd hw).2, fun A' σ' H' ρ' u' g R' q => ?_, fun v H' d u' s m hd q => k v H' d u' s m hd q, fun _ _ _ _ _ _ _ q => q, fun _ _ _ _ _ _ _ q => q, fun _ _ _ _ _ q => q⟩
    exact k .non H' .none u' R'.step (R'.minv.less fun a _ h => R'.sub a h) .non q
end
section
variable {X : Cx} {K : PySem.W.Frag}
/-- a call of such a def -/
theorem pFnG {k : Nat} {f : Addr} {fd : FuncData} {ps : List Str} {x : Str} {p pos : Pos} {e : Expr} {es : List Expr} {W : WF} {ws : WA} (F : FnG X.prog X.w X.K X.mg X.base k f fd ps (spD X.K W)) (hG : X.A.guards = some []) (hr : Room k X.A) (hg : Gl X x) (hm : X.mg x = some (.ref f)) (hk : PySem.W.keepIn X.K (.ref f) = true) (hb : Binds X.K fd ps [])
    (ha : PA X (e :: es) (tAr X.K ws)) (hdb : (x == ("__debug__" : Str)) = false := by decide) (he : starEach (e :: es) X.env = (false, eval e X.env) :: starEach es X.env := by rfl) (hpl : (backTo pos (starEach es X.env)).any (·.1) = false := by rfl) :
    PE X (.Call (.Name x p) (e :: es) [] pos) (tD X.K (wFn W ws)) := by
  refine ⟨fun pins s σ H Q I hq => ?_⟩
  refine wpAny_Call_Name_kw (ld_glob I hg hm ?_ hdb)
  have q0 : tAr X.K ws σ H fun vs H1 => spD X.K W vs H1 Q fun _ _ _ => False := by
    have q1 := tCall_of (E := fun _ _ _ => False) σ H Q hq
    unfold tCall at q1
    simpa only [List.append_nil] using q1
  refine PySem.W.callWith_K (h₀ := X.base) I.ok.mod.kin hk (thn (ha.run pos pins s σ H _ I q0) fun us s1 ⟨vs, H1, I1, r, q⟩ => ⟨I1.kIn, ?_⟩) he hpl
  have hl : us.length = ps.length := by rw [← r.length]; exact F.len _ _ _ _ q
  have bnd := hb s1 us I1.kIn (by rw [List.append_nil]; exact hl)
  rw [List.append_nil] at bnd
  refine wpAny_call (codeAny_mono (F.go X.A X.stack s1 H1 ⟨us, []⟩ us vs Q _ hG hr I1.env0 bnd r q) fun res s' hq' => ?_)
  cases res with
  | error e => exact hq'.elim
  | ok fl =>
    cases fl with
    | ret u => exact I1.after hq'
    | next => exact hq'.elim
    | brk => exact hq'.elim
    | cont => exact hq'.elim
/-! ### repr -/
def reprOk (d : D) : Bool := d.layable0 && d.intsShort 13 && d.showable
theorem reprOk_lay {d : D} (h : reprOk d = true) : d.layable0 = true ∧ d.intsShort 13 = true ∧ d.showable = true := by
  unfold reprOk at h
  simp only [Bool.and_eq_true] at h
  exact ⟨h.1.1, h.1.2, h.2⟩
theorem reprOk_len {d : D} (h : reprOk d = true) : d.shown.length ≤ sizeLine := Nat.le_trans (shown_le13 (reprOk_lay h).1 (reprOk_lay h).2.1) (by decide)
@[simp] def fRepr : List D → (D → Prop) → Prop := fun ds Q => ∃ d, ds = [d] ∧ reprOk d = true ∧ Q (.str d.shown)
def rReprD (K : PySem.W.Frag) : List V → Hp → VK → Prop := fun xs H Q => ∃ v d, xs = [v] ∧ Dp K H v d ∧ reprOk d = true ∧ Q (.str d.shown) H
theorem call_reprD (hG : X.A.guards = some []) (hu : X.A.units + 65 < cLine) : CallR X (.builtin "repr") (rReprD X.K) := by
  intro pins s σ H xs us Q I r h
  obtain ⟨v, d, rfl, hd, ok, q⟩ := h
  obtain ⟨v', rfl, rv⟩ := vals1 r
  obtain ⟨hl, hi, hs⟩ := reprOk_lay ok
  have hz := reprOk_len ok
  obtain ⟨as, rd⟩ := Dp.reads I d v v' hd rv
  have fin : ∀ (h' : Heap) (t : Tok) (tk : Nat), (∀ b o, s.heap.get? b = some o → h'.get? b = some o) → EP X pins σ Q (.str d.shown t) { s with heap := h', toks := tk } := fun h' t tk hk => ⟨.str d.shown, H, I.kept (t' := tk) hk, ⟨t, rfl⟩, q⟩
  have self : ∀ (t : Tok) (tk : Nat), EP X pins σ Q (.str d.shown t) { s with toks := tk } := fun t tk => fin s.heap t tk fun _ _ e => e
  cases hd with
  | non => cases rv; exact PySem.P.repr_of_none (self _ _)
  | bl b => cases rv; exact PySem.P.repr_of_bool (self _ _)
  | int i => obtain ⟨t, rfl⟩ := rv; exact PySem.P.repr_of_int (by simpa [PyData.showable] using hs) (self _ _)
  | str x => obtain ⟨t, rfl⟩ := rv; exact PySem.P.repr_of_str (self _ _) hz
  | lst h1 h2 =>
    cases rv
    exact repr_of_reads' rd hs (PyData.noDict_hsm (PyData.hasDict_of_layable hl)) hG (by have := PyData.depth_le_of_layable hl; omega) (fun _ _ e => e) (fun h' u tk hk => fin h' u tk hk) hz
  | tup h1 h2 =>
    cases rv
    exact repr_of_reads' rd hs (PyData.noDict_hsm (PyData.hasDict_of_layable hl)) hG (by have := PyData.depth_le_of_layable hl; omega) (fun _ _ e => e) (fun h' u tk hk => fin h' u tk hk) hz
theorem cd_repr : CallD K (rReprD K) fRepr := fun N A H xs ds Q Qd u hf hm hx ⟨d, e, ok, q⟩ k => by
  obtain ⟨v, rfl, hv⟩ := db1 hx e
  have hl := SeqAt.canLay_of_layable (reprOk_lay ok).1
  exact ⟨v, d, rfl, hv.dp hl, ok, k _ H _ (Step.refl H) hm (.str _) q⟩
theorem pRepr {x : Str} {e : Expr} {p pos : Pos} {w : WE} (hx : x = "repr") (hG : X.A.guards = some []) (hu : X.A.units + 65 < cLine) (hg : Gl X x) (hm : X.mg x = none) (h : PE X e (tBo X.K w)) (he : starEach [e] X.env = (false, eval e X.env) :: starEach [] X.env := by rfl) : PE X (.Call (.Name x p) [e] [] pos) (tD X.K (wCall fRepr (waCons w waNil))) := by
  subst hx
  exact pB1 (call_reprD hG hu) cd_repr hg hm bootS_repr h (by decide) (by decide) he
/-! ### kinds of values -/
@[simp] def tyName : D → String
  | .none => "NoneType"
  | .bool _ => "bool"
  | .int _ => "int"
  | .str _ => "str"
  | .list _ => "list"
  | .tuple _ => "tuple"
  | .dict _ => "dict"
@[simp] def plainD : D → Bool
  | .dict [] => true
  | .dict _ => false
  | _ => true
theorem Da.ty {A : Addr → Prop} {H : Hp} {v : V} {d : D} (h : Da K A H v d) (hp : plainD d = true) : TyX K H v (.type (tyName d)) := by
  cases h with
  | non => exact .base .non
  | bl b => exact .base (.bl b)
  | int i => exact .base (.int i)
  | str x => exact .base (.str x)
  | lst h _ _ => exact .base (.lst h)
  | scr _ _ _ => simp [sD, plainD] at hp
  | scrK _ => simp [sD, plainD] at hp
  | tup h _ _ => exact .base (.tup h)
  | dct0 h _ => exact .base (.dK h)
  | mm _ _ => simp [mD, plainD] at hp
  | err _ => simp [eD, plainD] at hp
theorem Db.ty {N A : Addr → Prop} {H : Hp} {v : V} {d : D} (h : Db K N A H v d) (hp : plainD d = true) : TyX K H v (.type (tyName d)) := by
  cases h with
  | da h => exact h.ty hp
  | lst h _ _ => exact .base (.lst h)
/-- isinstance(e, T) -/
@[simp] def fIsi (T : String) : D → (D → Prop) → Prop := fun d Q => plainD d = true ∧ ∃ r, kitB (tyName d) T = some r ∧ Q (.bool r)
@[simp] def wIsi (T : String) (w : WE) : WE := fun ρ u Q => w ρ u fun d u1 => fIsi T d fun z => Q z u1
theorem pIsi {x y : Str} {e : Expr} {p py pos : Pos} {T : String} {w : WE} (hg : Gl X x) (hm : X.mg x = none) (hv : bootBuiltins x = some (.builtin "isinstance")) (hgy : Gl X y) (hmy : X.mg y = none) (hvy : bootBuiltins y = some (.type T)) (h : PE X e (tBo X.K w))
    (hn : x ≠ "__name__" := by decide) (hdb : (x == ("__debug__" : Str)) = false := by decide) (hny : y ≠ "__name__" := by decide) (hdby : (y == ("__debug__" : Str)) = false := by decide)
    (he : starEach [e, .Name y py] X.env = (false, eval e X.env) :: starEach [.Name y py] X.env := by rfl) (he2 : starEach [.Name y py] X.env = (false, eval (.Name y py) X.env) :: starEach [] X.env := by rfl) (hpl : (backTo pos (starEach [.Name y py] X.env)).any (·.1) = false := by rfl) :
    PE X (.Call (.Name x p) [e, .Name y py] [] pos) (tD X.K (wIsi T w)) :=
  PEi (pe_callB call_isi hg hm hv (pa_cons h (pa_cons (pe_bltn hgy hmy hvy (v := .ty T) rfl hny hdby) pa_nil he2) he) hn hdb he hpl) fun σ H Q ⟨N, A, H0, ρ, u, Qd, R, hw, k⟩ =>
    ⟨N, A, H0, ρ, u, _, R, hw, fun v H1 d u1 s1 m1 hd ⟨hp, r, e, q⟩ => ⟨v, .ty T, _, _, r, rfl, .ty T, hd.ty hp, kit_ty e, k _ _ _ u1 s1 m1 (.bl r) q⟩⟩
/-- type(e) is T -/
def zTyD (x : V) (H : Hp) : Option String := match x with
  | .ref p => (match H p with
    | some (.dK _) => some "dict"
    | _ => zTyV x H)
  | _ => zTyV x H
def kTyD (x : V) (H : Hp) (Q : VK) : Prop := ∃ n, zTyD x H = some n ∧ Q (.ty n) H
theorem rl_typeD (pins : List (Addr × Obj)) (s : Shared) (σ : L2.St) (H : Hp) (x : V) (v : Value) (Q : VK) (I : Inv X pins σ H s) (r : RelV x v) (h : kTyD x H Q) :
    wpAny (model X.prog X.w) X.A (call (.type "type") [v]) (EP X pins σ Q) X.xe s := by
  obtain ⟨n, e, q⟩ := h
  cases x with
  | ref p =>
    cases ho : H p with
    | none => simp only [zTyD, ho] at e; exact rl_type pins s σ H _ v Q I r ⟨n, e, q⟩
    | some o =>
      cases o with
      | dK kvs =>
        simp only [zTyD, ho] at e
        cases e
        cases (show v = Value.ref p from r)
        obtain ⟨_, _, vs, _, ob, es, ep, h1, h2, _⟩ := (show ObjOk X.prog X.w H s.heap p (.dK kvs) from I.hok p _ ho)
        exact call_type_of (Tx := "dict") ⟨ob, h1, h2.1⟩ (by decide +kernel) ⟨.ty "dict", H, I, rfl, q⟩
      | _ => simp only [zTyD, ho] at e; exact rl_type pins s σ H _ v Q I r ⟨n, e, q⟩
  | _ => exact rl_type pins s σ H _ v Q I r ⟨n, e, q⟩
theorem Db.zty {N A : Addr → Prop} {H : Hp} {v : V} {d : D} (h : Db K N A H v d) (hp : plainD d = true) : zTyD v H = some (tyName d) := by
  cases h with
  | lst h _ _ => simp [zTyD, h, zTyV, tyName]
  | da h =>
    cases h with
    | non => rfl
    | bl b => rfl
    | int i => rfl
    | str x => rfl
    | lst h _ _ => simp [zTyD, h, zTyV, tyName]
    | scr _ _ _ => simp [sD, plainD] at hp
    | scrK _ => simp [sD, plainD] at hp
    | tup h _ _ => simp [zTyD, h, zTyV, tyName]
    | dct0 h _ => simp [zTyD, h, tyName]
    | mm _ _ => simp [mD, plainD] at hp
    | err _ => simp [eD, plainD] at hp
@[simp] def fTyIs (T : String) (neg : Bool) : D → (D → Prop) → Prop := fun d Q => plainD d = true ∧ Q (.bool (if neg then !decide (tyName d = T) else decide (tyName d = T)))
@[simp] def wTyIs (T : String) (neg : Bool) (w : WE) : WE := fun ρ u Q => w ρ u fun d u1 => fTyIs T neg d fun z => Q z u1
theorem pe_tyD {a : Expr} {ta : TE} {p pos : Pos} (hg : Gl X "type") (hm : X.mg "type" = none) (ha : PE X a ta) (na : starEach [a] X.env = (false, eval a X.env) :: starEach [] X.env := by rfl) : PE X (.Call (.Name "type" p) [a] [] pos) (tCB (r1 kTyD) (tCons ta tNil)) :=
  pe_callTy (call_r1 rl_typeD) hg hm (by decide +kernel) (pa_cons ha pa_nil na) (he := na)
theorem pTyIs {y : Str} {a : Expr} {p pos py pc : Pos} {T : String} {w : WE} (hg : Gl X "type") (hm : X.mg "type" = none) (hgy : Gl X y) (hmy : X.mg y = none) (hvy : bootBuiltins y = some (.type T)) (ha : PE X a (tBo X.K w))
    (hny : y ≠ "__name__" := by decide) (hdby : (y == ("__debug__" : Str)) = false := by decide) (na : starEach [a] X.env = (false, eval a X.env) :: starEach [] X.env := by rfl) :
    PE X (.Compare (.Call (.Name "type" p) [a] [] pos) [.Is] [.Name y py] pc) (tD X.K (wTyIs T false w)) :=
  PEi (pe_cmpR op_isTy (pe_tyD hg hm ha na) (pe_bltn hgy hmy hvy (v := .ty T) rfl hny hdby) (nomark _)) fun σ H Q ⟨N, A, H0, ρ, u, Qd, R, hw, k⟩ =>
    ⟨N, A, H0, ρ, u, _, R, hw, fun v H1 d u1 s1 m1 hd ⟨hp, q⟩ => ⟨tyName d, hd.zty hp, tyName d, T, rfl, rfl, k _ _ _ u1 s1 m1 (.bl _) q⟩⟩
theorem pTyNot {y : Str} {a : Expr} {p pos py pc : Pos} {T : String} {w : WE} (hg : Gl X "type") (hm : X.mg "type" = none) (hgy : Gl X y) (hmy : X.mg y = none) (hvy : bootBuiltins y = some (.type T)) (ha : PE X a (tBo X.K w))
    (hny : y ≠ "__name__" := by decide) (hdby : (y == ("__debug__" : Str)) = false := by decide) (na : starEach [a] X.env = (false, eval a X.env) :: starEach [] X.env := by rfl) :
    PE X (.Compare (.Call (.Name "type" p) [a] [] pos) [.IsNot] [.Name y py] pc) (tD X.K (wTyIs T true w)) :=
  PEi (pe_cmpR op_isNotTy (pe_tyD hg hm ha na) (pe_bltn hgy hmy hvy (v := .ty T) rfl hny hdby) (nomark _)) fun σ H Q ⟨N, A, H0, ρ, u, Qd, R, hw, k⟩ =>
    ⟨N, A, H0, ρ, u, _, R, hw, fun v H1 d u1 s1 m1 hd ⟨hp, q⟩ => ⟨tyName d, hd.zty hp, tyName d, T, rfl, rfl, k _ _ _ u1 s1 m1 (.bl _) q⟩⟩
/-! ### l.index(x) -/
def fIndex : D → D → (D → Prop) → Prop := fun c d Q => ∃ ds j z, c = .list ds ∧ SeqAt.shaped c = true ∧ SeqAt.shaped d = true ∧ ds[j]? = some z ∧ PyData.eqv z d = true ∧ (∀ (m : Nat) (z' : D), m < j → ds[m]? = some z' → PyData.eqv z' d = false) ∧ Q (.int (j : Nat))
@[simp] def wIndex (wa wb : WE) : WE := fun ρ u Q => wa ρ u fun c u1 => (∃ ds, c = .list ds) ∧ wb ρ u1 fun d u2 => fIndex c d fun z => Q z u2
theorem pIndex {o e : Expr} {apos cpos : Pos} {wa wb : WE} (hu : X.A.units + 65 < cLine) (ho : PE X o (tBo X.K wa)) (h : PE X e (tBo X.K wb)) (hbase : attributeBase o "index" X.env (eval o X.env) = eval o X.env := by rfl)
    (hfew : ((backTo cpos (starEach [e] X.env)).all (fun x => !x.1) && (backToKw cpos (keywordEach [] X.env)).all (fun x => x.1.isSome)
      && decide ([e].length + ([] : List Keyword).length + (if ([] : List Keyword).isEmpty then 0 else 1) < 30)) = true := by rfl)
    (hline : (apos.endLine == cpos.line) = true := by rfl) (hs : starEach [e] X.env = (false, eval e X.env) :: starEach [] X.env := by rfl) (hplain : (backTo cpos (starEach [] X.env)).any (·.1) = false := by rfl) :
    PE X (.Call (.Attribute o "index" apos) [e] [] cpos) (tD X.K (wIndex wa wb)) :=
  PEi (pe_bm PySem.F.plainAttrs_list PySem.F.slot_list_index PySem.F.type_list_index (mt_indexD hu) ho (pa_cons h pa_nil hs) hbase hfew hline hs hplain) fun σ H Q ⟨N, A, H0, ρ, u, Qd, R, hw, k⟩ =>
    ⟨N, A, H0, ρ, u, _, R, hw, fun x H1 c u1 s1 m1 hx ⟨⟨ds, e⟩, q1⟩ => by
      subst e
      obtain ⟨a, xs, rfl, ha, hxs⟩ := hx.lists
      refine ⟨.inl ⟨rfl, xs, .inl (.inl ha)⟩, N, A, H0, ρ, u1, _, R.go s1 m1, q1, fun y H2 d u2 s2 m2 hy ⟨ds', j, z, e, sc, sd, hz, hzd, hno, q⟩ => ?_⟩
      cases e
      exact ⟨a, y, d, _, j, z, rfl, rfl, (hx.step s2).dp (SeqAt.canLay_of_shaped sc), hy.dp (SeqAt.canLay_of_shaped sd), sc, sd, hz, hzd, hno, k _ _ _ u2 (s1.trans s2) m2 (.int _) q⟩⟩
end
end DW

set_option Elab.async false
set_option linter.all false
set_option maxRecDepth 100000
set_option maxHeartbeats 2000000
namespace DW
open PySem PySem.Spec PyProof.Rows L2
@[simp] def fSub : D → D → (D → Prop) → Prop := fI0 fun i j => .int (i - j)
@[simp] def fDiv : D → D → (D → Prop) → Prop := fII (fun i j => .int (i / j)) CDiv
@[simp] def fMod : D → D → (D → Prop) → Prop := fII (fun i j => .int (i % j)) fun _ j => 0 < j
@[simp] def fPow : D → D → (D → Prop) → Prop := fII (fun i j => .int (i ^ j.toNat)) CPow
@[simp] def fLt : D → D → (D → Prop) → Prop := fI0 fun i j => .bool (decide (i < j))
@[simp] def fLe : D → D → (D → Prop) → Prop := fI0 fun i j => .bool (decide (i ≤ j))
@[simp] def fGt : D → D → (D → Prop) → Prop := fI0 fun i j => .bool (decide (j < i))
@[simp] def fGe : D → D → (D → Prop) → Prop := fI0 fun i j => .bool (decide (j ≤ i))
@[simp] def wfD (w : WA) : WE := fun ρ u Q => w ρ u fun ds u' => Q (.list ds) u'
@[simp] def wAddF (wa wb : WE) : WA := fun ρ u Q => wa ρ u fun c u1 => wb ρ u1 fun d u2 => fAddL c d fun z => Q z u2
@[simp] def wListRg (w : WR) : WA := fun ρ u Q => w ρ u fun a b u1 => RgOk a b ∧ Q (rgD a b) u1
@[simp] def wTupRg (w : WR) : WE := fun ρ u Q => w ρ u fun a b u1 => RgOk a b ∧ Q (.tuple (rgD a b)) u1
@[simp] def wListOf (w : WE) : WA := fun ρ u Q => w ρ u fun d u1 => fLstOf [d] fun z => Q z u1
theorem units65 {k : Nat} {A : Around} (r : Room k A) : A.units + 65 < cLine := by have := r.un; omega
theorem boot_repr : bootBuiltins "repr" = some (.builtin "repr") := by decide +kernel
theorem boot_any : bootBuiltins "any" = some (.builtin "any") := by decide +kernel
section
variable {X : Cx}
theorem tst_imp {K : PySem.W.Frag} {w : WE} {t : TE} (h : ∀ σ H Q, tD K w σ H Q → t σ H Q) : ∀ σ H Q, tTe K (wTst w) σ H Q → tTest t σ H Q := fun σ H Q ⟨N, A, H0, ρ, u, Qd, R, hw, k⟩ =>
  h σ H _ ⟨N, A, H0, ρ, u, _, R, hw, fun v H' d u' s m hd ⟨b, e, q⟩ => ⟨b, by subst e; cases hd; rfl, k b H' u' s m q⟩⟩
theorem ptIsN {a : Expr} {w : WE} {j : Nat} {p p' : Pos} (h : PE X a (tBo X.K w)) : PT X (.Compare a [.Is] [.Constant .none j p'] p) (tTe X.K (wTst (wIsN false w))) := PTi (pt_cmp (pc_isN h)) fun σ H Q ⟨N, A, H0, ρ, u, Qd, R, hw, k⟩ =>
  ⟨N, A, H0, ρ, u, _, R, hw, fun x H1 c u1 s1 m1 hx ⟨b, e, q⟩ => ⟨decide (x = .non), rfl, by
    rw [hx.isNon]
    have e' : isNon c = b := by simpa using e
    rw [e']
    exact k _ _ _ s1 m1 q⟩⟩
theorem ptNotN {a : Expr} {w : WE} {j : Nat} {p p' : Pos} (h : PE X a (tBo X.K w)) : PT X (.Compare a [.IsNot] [.Constant .none j p'] p) (tTe X.K (wTst (wIsN true w))) := PTi (pt_cmp (pc_notN h)) fun σ H Q ⟨N, A, H0, ρ, u, Qd, R, hw, k⟩ =>
  ⟨N, A, H0, ρ, u, _, R, hw, fun x H1 c u1 s1 m1 hx ⟨b, e, q⟩ => ⟨!decide (x = .non), rfl, by
    rw [hx.isNon]
    have e' : (!isNon c) = b := by simpa using e
    rw [e']
    exact k _ _ _ s1 m1 q⟩⟩
theorem ty_imp {K : PySem.W.Frag} {T : String} {w : WE} : ∀ σ H Q, tD K (wTyIs T false w) σ H Q → tOp (fun x y H Q => ∃ m n, x = .ty m ∧ y = .ty n ∧ Q (.bl (decide (m = n))) H) (tCB (r1 kTyD) (tCons (tBo K w) tNil)) (tC (.ty T)) σ H Q := fun σ H Q ⟨N, A, H0, ρ, u, Qd, R, hw, k⟩ =>
  ⟨N, A, H0, ρ, u, _, R, hw, fun v H1 d u1 s1 m1 hd ⟨hp, q⟩ => ⟨tyName d, hd.zty hp, tyName d, T, rfl, rfl, k _ _ _ u1 s1 m1 (.bl _) q⟩⟩
theorem tyn_imp {K : PySem.W.Frag} {T : String} {w : WE} : ∀ σ H Q, tD K (wTyIs T true w) σ H Q → tOp (fun x y H Q => ∃ m n, x = .ty m ∧ y = .ty n ∧ Q (.bl (!decide (m = n))) H) (tCB (r1 kTyD) (tCons (tBo K w) tNil)) (tC (.ty T)) σ H Q := fun σ H Q ⟨N, A, H0, ρ, u, Qd, R, hw, k⟩ =>
  ⟨N, A, H0, ρ, u, _, R, hw, fun v H1 d u1 s1 m1 hd ⟨hp, q⟩ => ⟨tyName d, hd.zty hp, tyName d, T, rfl, rfl, k _ _ _ u1 s1 m1 (.bl _) q⟩⟩
theorem ptTyIs {y : Str} {a : Expr} {p pos py pc : Pos} {T : String} {w : WE} (hg : Gl X "type") (hm : X.mg "type" = none) (hgy : Gl X y) (hmy : X.mg y = none) (hvy : bootBuiltins y = some (.type T)) (ha : PE X a (tBo X.K w))
    (hny : y ≠ "__name__" := by decide) (hdby : (y == ("__debug__" : Str)) = false := by decide) (na : starEach [a] X.env = (false, eval a X.env) :: starEach [] X.env := by rfl) :
    PT X (.Compare (.Call (.Name "type" p) [a] [] pos) [.Is] [.Name y py] pc) (tTe X.K (wTst (wTyIs T false w))) := PTi (pt_cmpR op_isTy (pe_tyD hg hm ha na) (pe_bltn hgy hmy hvy (v := .ty T) rfl hny hdby) (nomark _)) (tst_imp ty_imp)
theorem ptTyNot {y : Str} {a : Expr} {p pos py pc : Pos} {T : String} {w : WE} (hg : Gl X "type") (hm : X.mg "type" = none) (hgy : Gl X y) (hmy : X.mg y = none) (hvy : bootBuiltins y = some (.type T)) (ha : PE X a (tBo X.K w))
    (hny : y ≠ "__name__" := by decide) (hdby : (y == ("__debug__" : Str)) = false := by decide) (na : starEach [a] X.env = (false, eval a X.env) :: starEach [] X.env := by rfl) :
    PT X (.Compare (.Call (.Name "type" p) [a] [] pos) [.IsNot] [.Name y py] pc) (tTe X.K (wTst (wTyIs T true w))) := PTi (pt_cmpR op_isNotTy (pe_tyD hg hm ha na) (pe_bltn hgy hmy hvy (v := .ty T) rfl hny hdby) (nomark _)) (tst_imp tyn_imp)
theorem chain_imp {K : PySem.W.Frag} {r r' : R2} {f g : D → D → (D → Prop) → Prop} {wa wb wc : WE} (ho : OpD K r f) (ho' : OpD K r' g) : ∀ σ H Q, tD K (w3 f g wa wb wc) σ H Q → tChain r r' (tBo K wa) (tBo K wb) (tBo K wc) σ H Q := fun σ H Q ⟨N, A, H0, ρ, u, Qd, R, hw, k⟩ =>
  ⟨N, A, H0, ρ, u, _, R, hw, fun x H1 c u1 s1 m1 hx q1 => ⟨N, A, H0, ρ, u1, _, R.go s1 m1, q1, fun y H2 d u2 s2 m2 hy q2 =>
    ho N A H2 x y c d _ _ u2 (fun p hp => R.fresh ((s1.trans s2).fresh hp)) m2 (hx.step s2) hy q2 fun v H3 z s3 m3 hv ⟨b, e, qz⟩ => by
      subst e
      cases hv
      refine ⟨b, rfl, ?_⟩
      cases b with
      | false => exact k _ _ _ u2 ((s1.trans s2).trans s3) m3 (.bl false) qz
      | true => exact ⟨N, A, H0, ρ, u2, _, R.go ((s1.trans s2).trans s3) m3, qz, fun w H4 e u3 s4 m4 hw q4 =>
          ho' N A H4 y w d e _ _ u3 (fun p hp => R.fresh ((((s1.trans s2).trans s3).trans s4).fresh hp)) m4 ((hy.step s3).step s4) hw q4 fun v H5 z s5 m5 hv qz => k v H5 z u3 ((((s1.trans s2).trans s3).trans s4).trans s5) m5 hv qz⟩⟩⟩
theorem pCh {e : Expr} {r r' : R2} {f g : D → D → (D → Prop) → Prop} {wa wb wc : WE} (ho : OpD X.K r f) (ho' : OpD X.K r' g) (h : PE X e (tChain r r' (tBo X.K wa) (tBo X.K wb) (tBo X.K wc))) : PE X e (tD X.K (w3 f g wa wb wc)) := PEi h (chain_imp ho ho')
theorem ptCh {e : Expr} {r r' : R2} {f g : D → D → (D → Prop) → Prop} {wa wb wc : WE} (ho : OpD X.K r f) (ho' : OpD X.K r' g) (h : PT X e (tTest (tChain r r' (tBo X.K wa) (tBo X.K wb) (tBo X.K wc)))) : PT X e (tTe X.K (wTst (w3 f g wa wb wc))) := PTi h (tst_imp (chain_imp ho ho'))
end
end DW

set_option Elab.async false
set_option linter.all false
set_option maxRecDepth 100000
set_option maxHeartbeats 2000000
namespace DW
open PySem PySem.Spec PyProof.Rows L2
/-! ### comprehensions whose parts are functions -/
theorem iteT {a b : Prop} (h : a) : if true = true then a else b := by rw [if_pos rfl]; exact h
theorem wComp_filt {b : WB} {wt : WT} {we : WE} {ρ : Rho} {Q : List D → Nat → Prop} (p : D → Bool) (f : D → D) : ∀ (xs acc : List D) (u : Nat),
    (∀ x ∈ xs, ∃ ρ', b x ρ = some ρ' ∧ (∀ u (R : Bool → Nat → Prop), R (p x) u → wt ρ' u R) ∧ (p x = true → ∀ u (R : D → Nat → Prop), R (f x) u → we ρ' u R)) → Q (acc ++ (xs.filter p).map f) u → wComp b wt we ρ xs acc u Q
  | [], acc, u, _, q => by simpa using q
  | x :: xs, acc, u, h, q => by
    obtain ⟨ρ', e, ht, he⟩ := h x List.mem_cons_self
    have hr : ∀ y ∈ xs, _ := fun y hy => h y (List.mem_cons_of_mem _ hy)
    refine ⟨ρ', e, ht u _ ?_⟩
    cases hp : p x with
    | true =>
      rw [if_pos rfl]
      refine he hp u _ (wComp_filt p f xs _ u hr ?_)
      rw [List.filter_cons_of_pos hp] at q
      simpa using q
    | false =>
      rw [if_neg (by simp)]
      refine wComp_filt p f xs _ u hr ?_
      rw [List.filter_cons_of_neg (by simp [hp])] at q
      exact q
theorem wComp_map {b : WB} {we : WE} {ρ : Rho} {Q : List D → Nat → Prop} (f : D → D) (xs acc : List D) (u : Nat)
    (h : ∀ x ∈ xs, ∃ ρ', b x ρ = some ρ' ∧ ∀ u (R : D → Nat → Prop), R (f x) u → we ρ' u R) (q : Q (acc ++ xs.map f) u) : wComp b wTy we ρ xs acc u Q :=
  wComp_filt (fun _ => true) f xs acc u (fun x hx => let ⟨ρ', e, h⟩ := h x hx; ⟨ρ', e, fun u R q => q, fun _ => h⟩) (by rw [List.filter_eq_self.mpr (fun _ _ => rfl)]; exact q)
/-- over typed items -/
theorem wComp_mapT {α : Type} {b : WB} {we : WE} {ρ : Rho} {Q : List D → Nat → Prop} (enc : α → D) (f : α → D) (xs : List α) (acc : List D) (u : Nat)
    (h : ∀ x ∈ xs, ∃ ρ', b (enc x) ρ = some ρ' ∧ ∀ u (R : D → Nat → Prop), R (f x) u → we ρ' u R) (q : Q (acc ++ xs.map f) u) : wComp b wTy we ρ (xs.map enc) acc u Q := by
  induction xs generalizing acc u with
  | nil => simpa using q
  | cons x xs ih =>
    obtain ⟨ρ', e, he⟩ := h x List.mem_cons_self
    refine ⟨ρ', e, ?_⟩
    simp only [wTy, if_true]
    exact he u _ (ih _ u (fun y hy => h y (List.mem_cons_of_mem _ hy)) (by simpa using q))
theorem wComp_filtT {α : Type} {b : WB} {wt : WT} {we : WE} {ρ : Rho} {Q : List D → Nat → Prop} (enc : α → D) (p : α → Bool) (f : α → D) (xs : List α) (acc : List D) (u : Nat)
    (h : ∀ x ∈ xs, ∃ ρ', b (enc x) ρ = some ρ' ∧ (∀ u (R : Bool → Nat → Prop), R (p x) u → wt ρ' u R) ∧ (p x = true → ∀ u (R : D → Nat → Prop), R (f x) u → we ρ' u R)) (q : Q (acc ++ (xs.filter p).map f) u) : wComp b wt we ρ (xs.map enc) acc u Q := by
  induction xs generalizing acc u with
  | nil => simpa using q
  | cons x xs ih =>
    obtain ⟨ρ', e, ht, he⟩ := h x List.mem_cons_self
    have hr : ∀ y ∈ xs, _ := fun y hy => h y (List.mem_cons_of_mem _ hy)
    refine ⟨ρ', e, ht u _ ?_⟩
    cases hp : p x with
    | true =>
      rw [if_pos rfl]
      refine he hp u _ (ih _ u hr ?_)
      rw [List.filter_cons_of_pos hp] at q
      simpa using q
    | false =>
      rw [if_neg (by simp)]
      refine ih _ u hr ?_
      rw [List.filter_cons_of_neg (by simp [hp])] at q
      exact q
/-- with draws: what is known of each item made, and the count -/
theorem wComp_draw {b : WB} {we : WE} {ρ : Rho} {Q : List D → Nat → Prop} (G : D → D → Prop) (c : Nat) : ∀ (xs acc : List D) (u : Nat),
    (∀ x ∈ xs, ∃ ρ', b x ρ = some ρ' ∧ ∀ v (R : D → Nat → Prop), v + c ≤ u + xs.length * c → (∀ y v', G x y → v' ≤ v + c → R y v') → we ρ' v R) →
    (∀ ys u', ys.length = xs.length → (∀ (i : Nat) x y, xs[i]? = some x → ys[i]? = some y → G x y) → u' ≤ u + xs.length * c → Q (acc ++ ys) u') → wComp b wTy we ρ xs acc u Q
  | [], acc, u, _, q => by
    have := q [] u rfl (fun i x y h => by simp at h) (by simp)
    simpa using this
  | x :: xs, acc, u, h, q => by
    obtain ⟨ρ', e, he⟩ := h x List.mem_cons_self
    have hm : (x :: xs).length * c = xs.length * c + c := by simp [Nat.succ_mul]
    rw [hm] at he q
    refine ⟨ρ', e, ?_⟩
    simp only [wTy, if_true]
    refine he u _ (by omega) fun y v' g hv => ?_
    refine wComp_draw G c xs _ v' (fun z hz => ?_) fun ys u' hl hg hu => ?_
    · obtain ⟨ρz, ez, hez⟩ := h z (List.mem_cons_of_mem _ hz)
      exact ⟨ρz, ez, fun v R hvv hR => hez v R (by rw [hm]; omega) hR⟩
    · have := q (y :: ys) u' (by simp [hl]) (fun i a b' ha hb => by
        cases i with
        | zero => simp at ha hb; subst ha hb; exact g
        | succ i => exact hg i a b' (by simpa using ha) (by simpa using hb)) (by omega)
      simpa using this
theorem rgD_eq (a b : Int) : rgD a b = ((List.range (b - a).toNat).map fun i => (a + (i : Nat) : Int)).map .int := by
  unfold rgD
  rw [List.map_map]
  rfl
end DW

set_option Elab.async false
set_option linter.all false
set_option maxRecDepth 100000
set_option maxHeartbeats 2000000
namespace DW
open PySem PySem.Spec PyProof.Rows L2
/-! ### loops by an invariant -/
theorem wLoop_inv {b : WB} {body : WS} {F : DE} : ∀ (xs : List D) (I : Nat → Rho → Nat → Prop)
    (h : ∀ i x ρ u F', xs[i]? = some x → I i ρ u → (∀ ρ u, I (i + 1) ρ u → F'.nx ρ u) → (∀ ρ u, I (i + 1) ρ u → F'.ct ρ u) → F'.rt = F.rt → F'.bk = F.nx → F'.ex = F.ex → ∃ ρ', b x ρ = some ρ' ∧ body F' ρ' u)
    (hn : ∀ ρ u, I xs.length ρ u → F.nx ρ u) (ρ : Rho) (u : Nat), I 0 ρ u → wLoop b body F xs ρ u
  | [], I, h, hn, ρ, u, i0 => hn ρ u i0
  | x :: xs, I, h, hn, ρ, u, i0 => by
    have rec_ : ∀ ρ u, I 1 ρ u → wLoop b body F xs ρ u := fun ρ u i1 =>
      wLoop_inv xs (fun i => I (i + 1)) (fun i y ρ u F' e ii n1 n2 n3 n4 n5 => h (i + 1) y ρ u F' (by simpa using e) ii n1 n2 n3 n4 n5) (fun ρ u q => hn ρ u (by simpa using q)) ρ u i1
    obtain ⟨ρ', e, hb⟩ := h 0 x ρ u { nx := wLoop b body F xs, rt := F.rt, bk := F.nx, ct := wLoop b body F xs, ex := F.ex } rfl i0 rec_ rec_ rfl rfl rfl
    exact ⟨ρ', e, hb⟩
theorem enumD_len (xs : List D) : (enumD xs).length = xs.length := by simp [enumD]
theorem enumD_get (xs : List D) (i : Nat) : (enumD xs)[i]? = (xs[i]?).map fun x => .tuple [.int (i : Nat), x] := by
  unfold enumD
  rw [List.getElem?_map, List.getElem?_zipIdx]
  cases xs[i]? <;> simp
theorem rgD_get (n : Nat) (i : Nat) : (rgD 0 (n : Int))[i]? = if i < n then some (.int (i : Nat)) else none := by
  unfold rgD
  rw [List.getElem?_map]
  by_cases h : i < n
  · rw [if_pos h, List.getElem?_range (by simpa using h)]; simp
  · rw [if_neg h, List.getElem?_eq_none (by simp; omega)]; rfl
theorem rgD_len (n : Nat) : (rgD 0 (n : Int)).length = n := by simp [rgD]
theorem rgD_map (n : Nat) : rgD 0 (n : Int) = (List.range n).map fun i => (PyData.int (i : Nat) : D) := by
  unfold rgD
  simp [Int.sub_zero]
end DW

set_option Elab.async false
set_option linter.all false
set_option maxRecDepth 100000
set_option maxHeartbeats 2000000
namespace DW
open PySem PySem.Spec PyProof.Rows L2
/-! ### the draws' state -/
section
variable {X : Cx} {K : PySem.W.Frag} {W : XK}
theorem Da.mD_inv {A : Addr → Prop} {H : Hp} {v : V} (h : Da K A H v mD) : ∃ a o, v = .ref a ∧ H a = some o ∧ IsM o := by
  generalize e : mD = d at h
  cases h with
  | mm h m => exact ⟨_, _, rfl, h, m⟩
  | scr _ _ _ => simp [mD, sD] at e
  | scrK _ => simp [mD, sD] at e
  | err _ => simp [mD, eD] at e
  | _ => simp [mD] at e
@[simp] def wMLeft (i : Nat) : WE := fun ρ u Q => ρ[i]? = some (some (.d mD)) ∧ ∀ l : Int, 0 ≤ l → Q (.int l) u
@[simp] def wMSeed (i : Nat) : WE := fun ρ u Q => ρ[i]? = some (some (.d mD)) ∧ ∀ l : Int, 0 ≤ l → l < 2147483647 → Q (.int l) u
@[simp] def wMSpot (i : Nat) : WE := fun ρ u Q => ρ[i]? = some (some (.d mD)) ∧ ∀ p : Int, 0 ≤ p → p ≤ u → Q (.int p) u
@[simp] def wMCells (i : Nat) : WE := fun ρ u Q => ρ[i]? = some (some (.d mD)) ∧ ∀ cells : List Int, cells ≠ [] → Q (.list (cells.map .int)) u
abbrev mKvs (l s : Int) (c : Addr) (p : Int) : List (Key × V) := [(.inr "left", .int l), (.inr "seed", .int s), (.inr "cells", .ref c), (.inr "spot", .int p)]
theorem nk_left_seed : ¬ (Sum.inr "left" : Key) = .inr "seed" := by decide
theorem nk_left_cells : ¬ (Sum.inr "left" : Key) = .inr "cells" := by decide
theorem nk_left_spot : ¬ (Sum.inr "left" : Key) = .inr "spot" := by decide
theorem nk_seed_left : ¬ (Sum.inr "seed" : Key) = .inr "left" := by decide
theorem nk_seed_cells : ¬ (Sum.inr "seed" : Key) = .inr "cells" := by decide
theorem nk_seed_spot : ¬ (Sum.inr "seed" : Key) = .inr "spot" := by decide
theorem nk_cells_left : ¬ (Sum.inr "cells" : Key) = .inr "left" := by decide
theorem nk_cells_seed : ¬ (Sum.inr "cells" : Key) = .inr "seed" := by decide
theorem nk_cells_spot : ¬ (Sum.inr "cells" : Key) = .inr "spot" := by decide
theorem nk_spot_left : ¬ (Sum.inr "spot" : Key) = .inr "left" := by decide
theorem nk_spot_seed : ¬ (Sum.inr "spot" : Key) = .inr "seed" := by decide
theorem nk_spot_cells : ¬ (Sum.inr "spot" : Key) = .inr "cells" := by decide
theorem ns_left_seed : ¬ ("left" : Str) = "seed" := by decide
theorem ns_left_cells : ¬ ("left" : Str) = "cells" := by decide
theorem ns_left_spot : ¬ ("left" : Str) = "spot" := by decide
theorem ns_seed_left : ¬ ("seed" : Str) = "left" := by decide
theorem ns_seed_cells : ¬ ("seed" : Str) = "cells" := by decide
theorem ns_seed_spot : ¬ ("seed" : Str) = "spot" := by decide
theorem ns_cells_left : ¬ ("cells" : Str) = "left" := by decide
theorem ns_cells_seed : ¬ ("cells" : Str) = "seed" := by decide
theorem ns_cells_spot : ¬ ("cells" : Str) = "spot" := by decide
theorem ns_spot_left : ¬ ("spot" : Str) = "left" := by decide
theorem ns_spot_seed : ¬ ("spot" : Str) = "seed" := by decide
theorem ns_spot_cells : ¬ ("spot" : Str) = "cells" := by decide
theorem mv_left {l s : Int} {c : Addr} {p : Int} : valV (mKvs l s c p) (.inr "left") = some (.int l) := valV_pos rfl
theorem mv_seed {l s : Int} {c : Addr} {p : Int} : valV (mKvs l s c p) (.inr "seed") = some (.int s) := (valV_neg nk_left_seed).trans (valV_pos rfl)
theorem mv_cells {l s : Int} {c : Addr} {p : Int} : valV (mKvs l s c p) (.inr "cells") = some (.ref c) := (valV_neg nk_left_cells).trans ((valV_neg nk_seed_cells).trans (valV_pos rfl))
theorem mv_spot {l s : Int} {c : Addr} {p : Int} : valV (mKvs l s c p) (.inr "spot") = some (.int p) := (valV_neg nk_left_spot).trans ((valV_neg nk_seed_spot).trans ((valV_neg nk_cells_spot).trans (valV_pos rfl)))
theorem mp_left {l s l' : Int} {c : Addr} {p : Int} : putK (mKvs l s c p) (.inr "left") (.int l') = mKvs l' s c p := by
  unfold putK
  simp [mKvs, ns_seed_left, ns_cells_left, ns_spot_left]
theorem mp_spot {l s : Int} {c : Addr} {p p' : Int} : putK (mKvs l s c p) (.inr "spot") (.int p') = mKvs l s c p' := by
  unfold putK
  simp [mKvs, ns_seed_spot, ns_cells_spot, ns_left_spot]
theorem mget {i : Nat} {y : Str} {w : WE} {o idx : Expr} {pos : Pos} (hu : X.A.units + 65 < cLine) (ho : PE X o (tVar i)) (hi : PE X idx (tC (.str y))) (hs : NoSl idx)
    (hw : ∀ ρ u Q, w ρ u Q → ρ[i]? = some (some (.d mD)) ∧ ∀ (A : Addr → Prop) (H : Hp) (l s p : Int) (c : Addr) (cells : List Int), 0 ≤ l → 0 ≤ s → s < 2147483647 → 0 ≤ p → p ≤ u → H c = some (.lst (cells.map .int)) → ¬ A c → cells ≠ [] →
      ∃ v d, valV (mKvs l s c p) (.inr y) = some v ∧ Da X.K A H v d ∧ Q d u) : PE X (.Subscript o idx pos) (tD X.K w) :=
  PEi (pe_dget (by omega) ho hi hs) fun σ H Q ⟨N, A, H0, ρ, u, Qd, R, hq, k⟩ => by
    obtain ⟨e, hq⟩ := hw ρ u Qd hq
    obtain ⟨v, e1, hv⟩ := R.dat i mD e
    obtain ⟨a, o, rfl, ha, hm⟩ := hv.mD_inv
    obtain ⟨l, s, c, p, cells, ho, h1, h2, h3, h4, h5, h6, h7, h8⟩ := R.minv a o ha hm
    subst ho
    obtain ⟨v, d, e2, hd, q⟩ := hq A H l s p c cells h1 h2 h3 h4 h5 h6 h7 h8
    refine ⟨.ref a, e1, a, v, rfl, .inl ⟨mKvs l s c p, .inr y, .inl ha, rfl, e2.symm⟩, k v H d u (Step.refl H) R.minv hd q⟩
theorem pMLeft {i : Nat} {o idx : Expr} {pos : Pos} (hu : X.A.units + 65 < cLine) (ho : PE X o (tVar i)) (hi : PE X idx (tC (.str "left"))) (hs : NoSl idx := by exact fun _ _ => rfl) : PE X (.Subscript o idx pos) (tD X.K (wMLeft i)) :=
  mget hu ho hi hs fun ρ u Q ⟨e, h⟩ => ⟨e, fun A H l s p c cells h1 h2 h3 h4 h5 h6 h7 h8 => ⟨.int l, .int l, mv_left, .int l, h l h1⟩⟩
theorem pMSeed {i : Nat} {o idx : Expr} {pos : Pos} (hu : X.A.units + 65 < cLine) (ho : PE X o (tVar i)) (hi : PE X idx (tC (.str "seed"))) (hs : NoSl idx := by exact fun _ _ => rfl) : PE X (.Subscript o idx pos) (tD X.K (wMSeed i)) :=
  mget hu ho hi hs fun ρ u Q ⟨e, h⟩ => ⟨e, fun A H l s p c cells h1 h2 h3 h4 h5 h6 h7 h8 => ⟨.int s, .int s, mv_seed, .int s, h s h2 h3⟩⟩
theorem pMSpot {i : Nat} {o idx : Expr} {pos : Pos} (hu : X.A.units + 65 < cLine) (ho : PE X o (tVar i)) (hi : PE X idx (tC (.str "spot"))) (hs : NoSl idx := by exact fun _ _ => rfl) : PE X (.Subscript o idx pos) (tD X.K (wMSpot i)) :=
  mget hu ho hi hs fun ρ u Q ⟨e, h⟩ => ⟨e, fun A H l s p c cells h1 h2 h3 h4 h5 h6 h7 h8 => ⟨.int p, .int p, mv_spot, .int p, h p h4 h5⟩⟩
theorem pMCells {i : Nat} {o idx : Expr} {pos : Pos} (hu : X.A.units + 65 < cLine) (ho : PE X o (tVar i)) (hi : PE X idx (tC (.str "cells"))) (hs : NoSl idx := by exact fun _ _ => rfl) : PE X (.Subscript o idx pos) (tD X.K (wMCells i)) :=
  mget hu ho hi hs fun ρ u Q ⟨e, h⟩ => ⟨e, fun A H l s p c cells h1 h2 h3 h4 h5 h6 h7 h8 => ⟨.ref c, .list (cells.map .int), mv_cells, .lst h6 h7 (DaAll.ints cells), h cells h8⟩⟩
/-! stores -/
theorem step_put {H : Hp} {a : Addr} {o o' : HO} (h : H a = some o) (m : IsM o) (m' : IsM o') : Step H (upd H a o') :=
  ⟨fun b z e n => by
    by_cases q : b = a
    · subst q; rw [h] at e; cases e; exact absurd m n
    · rw [upd_ne q]; exact e, fun b z e n => by
    by_cases q : b = a
    · subst q; exact ⟨o', upd_same, m'⟩
    · exact ⟨z, by rw [upd_ne q]; exact e, n⟩⟩
theorem minv_put {A : Addr → Prop} {u : Nat} {K : PySem.W.Frag} {H : Hp} {a : Addr} {l s p : Int} {c : Addr} {cells : List Int} {o : HO} (m : MInv A u K H) (h : H a = some o) (hm : IsM o) (h1 : 0 ≤ l) (h2 : 0 ≤ s) (h3 : s < 2147483647) (h4 : 0 ≤ p) (h5 : p ≤ u)
    (h6 : H c = some (.lst (cells.map .int))) (h7 : ¬ A c) (h8 : cells ≠ []) : MInv A u K (upd H a (MObj l s c p)) := fun b z e i => by
  have nac : ∀ c' xs, H c' = some (.lst xs) → c' ≠ a := fun c' xs e z => by
    rw [z, h] at e
    cases e
    exact hm
  by_cases q : b = a
  · subst q
    rw [upd_same] at e
    cases e
    exact ⟨l, s, c, p, cells, rfl, h1, h2, h3, h4, h5, by rw [upd_ne (nac _ _ h6)]; exact h6, h7, h8⟩
  · rw [upd_ne q] at e
    obtain ⟨l', s', c', p', cells', g1, g2, g3, g4, g5, g6, g7, g8, g9⟩ := m b z e i
    exact ⟨l', s', c', p', cells', g1, g2, g3, g4, g5, g6, by rw [upd_ne (nac _ _ g7)]; exact g7, g8, g9⟩
@[simp] def wPutLeft (i : Nat) (w : WE) : WS := fun F ρ u => w ρ u fun d u1 => ρ[i]? = some (some (.d mD)) ∧ ∃ l, d = .int l ∧ 0 ≤ l ∧ F.nx ρ (u1 + 1)
@[simp] def wPutSpot (i : Nat) (w : WE) : WS := fun F ρ u => w ρ u fun d u1 => ρ[i]? = some (some (.d mD)) ∧ ∃ p, d = .int p ∧ 0 ≤ p ∧ p ≤ u1 + 1 ∧ F.nx ρ (u1 + 1)
theorem psPutLeft {i : Nat} {o idx e : Expr} {pos pos' : Pos} {w : WE} (hu : X.A.units + 65 < cLine) (ho : PE X o (tVar i)) (hi : PE X idx (tC (.str "left"))) (hv : PE X e (tD X.K w)) (hs : swapsWith e (some (.Subscript o idx pos')) pos.line X.env = pure false := by rfl) :
    PS X (.Assign [.Subscript o idx pos'] e pos) (tSx X.K W (wPutLeft i w)) := PSi (ps_dput (by omega) ho hi hv hs) fun E σ H ⟨N, A, H0, ρ, u, F, R, hw, k1, k2, k3, k4, k5⟩ =>
  ⟨N, A, H0, ρ, u, _, R, hw, fun v H1 d u1 s1 m1 hd ⟨e, l, ed, hl, q⟩ => by
    subst ed
    cases hd
    obtain ⟨v, e1, hv⟩ := (R.go s1 m1).dat i mD e
    obtain ⟨a, o, rfl, ha, hm⟩ := hv.mD_inv
    obtain ⟨l0, s, c, p, cells, ho, h1, h2, h3, h4, h5, h6, h7, h8⟩ := m1 a o ha hm
    subst ho
    refine ⟨.ref a, e1, a, _, rfl, .inl ⟨mKvs l0 s c p, .inr "left", ha, rfl, (by show 4 < sizeLine; decide), rfl⟩, ?_⟩
    rw [mp_left]
    have st := s1.trans (step_put ha hm (o' := MObj l s c p) isM_obj)
    exact k1 A σ _ ρ (u1 + 1) st.goes (R.go st (minv_put (m1.mono (Nat.le_succ _)) ha hm hl h2 h3 h4 (by omega) h6 h7 h8)) q⟩
theorem psPutSpot {i : Nat} {o idx e : Expr} {pos pos' : Pos} {w : WE} (hu : X.A.units + 65 < cLine) (ho : PE X o (tVar i)) (hi : PE X idx (tC (.str "spot"))) (hv : PE X e (tD X.K w)) (hs : swapsWith e (some (.Subscript o idx pos')) pos.line X.env = pure false := by rfl) :
    PS X (.Assign [.Subscript o idx pos'] e pos) (tSx X.K W (wPutSpot i w)) := PSi (ps_dput (by omega) ho hi hv hs) fun E σ H ⟨N, A, H0, ρ, u, F, R, hw, k1, k2, k3, k4, k5⟩ =>
  ⟨N, A, H0, ρ, u, _, R, hw, fun v H1 d u1 s1 m1 hd ⟨e, l, ed, hl, hl2, q⟩ => by
    subst ed
    cases hd
    obtain ⟨v, e1, hv⟩ := (R.go s1 m1).dat i mD e
    obtain ⟨a, o, rfl, ha, hm⟩ := hv.mD_inv
    obtain ⟨l0, s, c, p, cells, ho, h1, h2, h3, h4, h5, h6, h7, h8⟩ := m1 a o ha hm
    subst ho
    refine ⟨.ref a, e1, a, _, rfl, .inl ⟨mKvs l0 s c p, .inr "spot", ha, rfl, (by show 4 < sizeLine; decide), rfl⟩, ?_⟩
    rw [mp_spot]
    have st := s1.trans (step_put ha hm (o' := MObj l0 s c l) isM_obj)
    exact k1 A σ _ ρ (u1 + 1) st.goes (R.go st (minv_put (m1.mono (Nat.le_succ _)) ha hm h1 h2 h3 hl (by omega) h6 h7 h8)) q⟩
/-! a new one -/
@[simp] def wMk (wl ws wc : WE) : WE := fun ρ u Q => wl ρ u fun dl u1 => ws ρ u1 fun d2 u2 => wc ρ u2 fun d3 u3 => ∃ (l s : Int) (cells : List Int), dl = .int l ∧ d2 = .int s ∧ d3 = .list (cells.map .int) ∧ 0 ≤ l ∧ 0 ≤ s ∧ s < 2147483647 ∧ cells ≠ [] ∧ Q mD u3
theorem merge_m {l s p : Int} {c : Addr} : mergeK [] (mKvs l s c p) = mKvs l s c p := by
  simp [mergeK, putK, mKvs, ns_left_seed, ns_left_cells, ns_left_spot, ns_seed_cells, ns_seed_spot, ns_cells_spot]
theorem pMk {kl ks kc kp el es ec ep : Expr} {pos : Pos} {wl ws wc : WE} (h1 : PE X kl (tC (.str "left"))) (h2 : PE X ks (tC (.str "seed"))) (h3 : PE X kc (tC (.str "cells"))) (h4 : PE X kp (tC (.str "spot"))) (hl : PE X el (tD X.K wl)) (hs : PE X es (tD X.K ws)) (hc : PE X ec (tD X.K wc)) (hp : PE X ep (tC (.int 0))) :
    PE X (.Dict [some kl, some ks, some kc, some kp] [el, es, ec, ep] pos) (tD X.K (wMk wl ws wc)) :=
  PEi (pe_disp (pps_cons h1 hl (pps_cons h2 hs (pps_cons h3 hc (pps_cons h4 hp pps_nil)))) rfl rfl (by simp) (by show 4 ≤ 15; decide)) fun σ H Q ⟨N, A, H0, ρ, u, Qd, R, hw, k⟩ p hp => by
    have st : Step H (upd H p (.dK [])) := Step.new hp
    have mt := R.minv.new (o := .dK []) hp (fun m => m)
    refine ⟨N, A, H0, ρ, u, _, R.go st mt, hw, fun v1 H1 d1 u1 s1 m1 hd1 q1 => ⟨N, A, H0, ρ, u1, _, R.go (st.trans s1) m1, q1, fun v2 H2 d2 u2 s2 m2 hd2 q2 => ⟨N, A, H0, ρ, u2, _, R.go ((st.trans s1).trans s2) m2, q2, fun v3 H3 d3 u3 s3 m3 hd3 ⟨l, s, cells, e1, e2, e3, g1, g2, g3, g4, q⟩ => ?_⟩⟩⟩
    subst e1 e2 e3
    cases hd1
    cases hd2
    cases hd3 with
    | lst hc nc hcs =>
    rw [DaAll.of_ints hcs] at hc
    have hp3 : H3 p = some (.dK []) := s3.keep _ _ (s2.keep _ _ (s1.keep _ _ upd_same (fun m => m)) (fun m => m)) (fun m => m)
    refine ⟨hp3, mKvs l s _ 0, rfl, (by show 4 ≤ 15; decide), ?_⟩
    rw [merge_m]
    have all : Step H H3 := ((st.trans s1).trans s2).trans s3
    refine k _ _ mD u3 ⟨fun a o h n => ?_, fun a o h m => ?_⟩ (fun a o h i => ?_) (.mm upd_same isM_obj) q
    · rw [upd_ne (ne_of_none h hp)]; exact all.keep a o h n
    · obtain ⟨o', h', m'⟩ := all.ms a o h m
      exact ⟨o', by rw [upd_ne (ne_of_none h hp)]; exact h', m'⟩
    · have nac : ∀ c' xs, H3 c' = some (.lst xs) → c' ≠ p := fun c' xs e z => by
        rw [z, hp3] at e
        cases e
      by_cases z : a = p
      · subst z
        rw [upd_same] at h
        cases h
        exact ⟨l, s, _, 0, cells, rfl, g1, g2, g3, Int.le_refl _, Int.natCast_nonneg _, by rw [upd_ne (nac _ _ hc)]; exact hc, nc, g4⟩
      · rw [upd_ne z] at h
        obtain ⟨l', s', c', p', cells', f1, f2, f3, f4, f5, f6, f7, f8, f9⟩ := m3 a o h i
        exact ⟨l', s', c', p', cells', f1, f2, f3, f4, f5, f6, by rw [upd_ne (nac _ _ f7)]; exact f7, f8, f9⟩
theorem fLen_list {xs : List D} {Q : D → Prop} : fLen [.list xs] Q = Q (.int xs.length) := rfl
theorem fLen_tup {xs : List D} {Q : D → Prop} : fLen [.tuple xs] Q = Q (.int xs.length) := rfl
theorem fIx_list {xs : List D} {i : Nat} {z : D} {Q : D → Prop} (h : xs[i]? = some z) : fIx (.list xs) (.int (i : Nat)) Q = Q z := by
  simp only [fIx]
  rw [atI_nat h]
  exact propext ⟨fun ⟨z, e, q⟩ => by cases e; exact q, fun q => ⟨_, rfl, q⟩⟩
theorem fIx_head {z : D} {r : List D} {Q : D → Prop} : fIx (.list (z :: r)) (.int 0) Q = Q z := fIx_list (xs := z :: r) (i := 0) rfl
theorem fIx_ints {xs : List Int} {i : Int} {Q : D → Prop} (h0 : 0 ≤ i) (h1 : i < xs.length) (q : ∀ j, Q (.int j)) : fIx (.list (xs.map .int)) (.int i) Q := by
  obtain ⟨n, rfl⟩ := Int.eq_ofNat_of_zero_le h0
  have hn : n < xs.length := by omega
  rw [fIx_list (z := .int xs[n]) (by simp [hn])]
  exact q _
/-! a slice of the script -/
@[simp] def wSlS (we : WE) (wl wh : WO) : WE := fun ρ u Q => we ρ u fun c u1 => wl ρ u1 fun lo u2 => wh ρ u2 fun hi u3 => ∃ ns : List Int, c = sD ns ∧ Q (.list (cutD (ns.map .int) lo hi)) u3
theorem pSlS {e : Expr} {lo hi : Option Expr} {p1 p2 : Pos} {we : WE} {wl wh : WO} (he : PE X e (tD X.K we)) (hl : PO X lo (tPo X.K wl)) (hh : PO X hi (tPo X.K wh)) : PE X (.Subscript e (.Slice lo hi none p1) p2) (tD X.K (wSlS we wl wh)) :=
  PEi (pe_slice sl_D he hl hh) fun σ H Q ⟨N, A, H0, ρ, u, Qd, R, hw, k⟩ => ⟨N, A, H0, ρ, u, _, R, hw, fun x H1 c u1 s1 m1 hx q1 => ⟨N, A, H0, ρ, u1, _, R.go s1 m1, q1, fun lo H2 u2 s2 m2 q2 => ⟨N, A, H0, ρ, u2, _, R.go (s1.trans s2) m2, q2, fun hi H3 u3 s3 m3 ⟨ns, ec, q3⟩ => by
    subst ec
    have hx3 := hx.goes (A' := A) (s2.trans s3).goes
    have s := (s1.trans s2).trans s3
    obtain ⟨a, rfl, ha⟩ := hx3.scrD
    exact .inl ⟨a, _, rfl, ha, fun p hp => k _ _ _ u3 (s.trans (Step.new hp)) (m3.new hp (fun m => m)) (.lst upd_same (R.fresh (s.fresh hp)) (((DaAll.ints (A := A) (H := H3) (K := X.K) ns).cut lo hi).goes (Step.new hp).goes)) q3⟩⟩⟩⟩
end
end DW

set_option Elab.async false
set_option linter.all false
set_option maxRecDepth 100000
set_option maxHeartbeats 2000000
namespace DW
open PySem PySem.Spec PyProof.Rows L2
/-! ### == of texts -/
@[simp] def fEqS : D → D → (D → Prop) → Prop
  | .str a, .str b, Q => Q (.bool (decide (a = b)))
  | _, _, _ => False
theorem od_eqS {K : PySem.W.Frag} : OpD K rEq fEqS := fun N A H x y c d Q Qd u hf hm hx hy h k => by
  cases c <;> cases d <;> try exact h.elim
  rw [hx.strs, hy.strs]
  refine ⟨rfl, ?_⟩
  have e : ∀ a b : Str, decide (V.str a = V.str b) = decide (a = b) := fun a b => decide_eq_decide.mpr ⟨fun h => V.str.inj h, fun h => by rw [h]⟩
  rw [e]
  exact k _ H _ (Step.refl H) hm (.bl _) h
/-! ### == of data without True, False and dicts -/
mutual
def nb : D → Bool
  | .none | .int _ | .str _ => true
  | .bool _ | .dict _ => false
  | .list xs | .tuple xs => nbAll xs
def nbAll : List D → Bool
  | [] => true
  | x :: xs => nb x && nbAll xs
end
mutual
theorem eqv_nb : ∀ (c d : D), nb c = true → nb d = true → (PyData.eqv c d = true ↔ c = d)
  | .none, d, _, h => by cases d <;> simp [PyData.eqv, nb] at h ⊢
  | .int i, d, _, h => by cases d <;> simp [PyData.eqv, nb] at h ⊢
  | .str i, d, _, h => by cases d <;> simp [PyData.eqv, nb] at h ⊢
  | .bool _, _, h, _ => by simp [nb] at h
  | .dict _, _, h, _ => by simp [nb] at h
  | .list xs, d, g, h => by
    cases d <;> try (simp [PyData.eqv, nb] at h ⊢; done)
    rename_i ys
    simp only [PyData.eqv, PyData.list.injEq]
    exact eqvAll_nb xs ys (by simpa [nb] using g) (by simpa [nb] using h)
  | .tuple xs, d, g, h => by
    cases d <;> try (simp [PyData.eqv, nb] at h ⊢; done)
    rename_i ys
    simp only [PyData.eqv, PyData.tuple.injEq]
    exact eqvAll_nb xs ys (by simpa [nb] using g) (by simpa [nb] using h)
theorem eqvAll_nb : ∀ (xs ys : List D), nbAll xs = true → nbAll ys = true → (PyData.eqvAll xs ys = true ↔ xs = ys)
  | [], [], _, _ => by simp [PyData.eqvAll]
  | [], _ :: _, _, _ => by simp [PyData.eqvAll]
  | _ :: _, [], _, _ => by simp [PyData.eqvAll]
  | x :: xs, y :: ys, g, h => by
    simp only [nbAll, Bool.and_eq_true] at g h
    simp only [PyData.eqvAll, Bool.and_eq_true, List.cons.injEq]
    rw [eqv_nb x y g.1 h.1, eqvAll_nb xs ys g.2 h.2]
end
/-- of a shape that == serves, of depth at most n -/
def Sh (n : Nat) (d : D) : Prop := nb d = true ∧ d.canLay0 = true ∧ d.depth ≤ n
def ShAll (n : Nat) (ds : List D) : Prop := nbAll ds = true ∧ PyData.canLayAll0 ds = true ∧ PyData.depthAll ds ≤ n
theorem Sh.int {n : Nat} {i : Int} : Sh n (.int i) := ⟨rfl, by simp [PyData.canLay0], by simp [PyData.depth]⟩
theorem Sh.none {n : Nat} : Sh n .none := ⟨rfl, by simp [PyData.canLay0], by simp [PyData.depth]⟩
theorem ShAll.of {n : Nat} : ∀ {ds : List D}, (∀ d ∈ ds, Sh n d) → ShAll n ds
  | [], _ => ⟨rfl, by simp [PyData.canLayAll0], by simp [PyData.depthAll]⟩
  | d :: ds, h => by
    obtain ⟨a, b, c⟩ := h d List.mem_cons_self
    obtain ⟨a2, b2, c2⟩ := ShAll.of (ds := ds) fun x hx => h x (List.mem_cons_of_mem _ hx)
    exact ⟨by simp [nbAll, a, a2], by simp [PyData.canLayAll0, b, b2], by simp [PyData.depthAll]; omega⟩
theorem Sh.tup {n : Nat} {ds : List D} (h : ∀ d ∈ ds, Sh n d) : Sh (n + 1) (.tuple ds) := by
  obtain ⟨a, b, c⟩ := ShAll.of h
  exact ⟨by simpa [nb] using a, by simpa [PyData.canLay0] using b, by simp [PyData.depth]; omega⟩
theorem Sh.lst {n : Nat} {ds : List D} (h : ∀ d ∈ ds, Sh n d) : Sh (n + 1) (.list ds) := by
  obtain ⟨a, b, c⟩ := ShAll.of h
  exact ⟨by simpa [nb] using a, by simpa [PyData.canLay0] using b, by simp [PyData.depth]; omega⟩
theorem Sh.mono {n m : Nat} {d : D} (h : Sh n d) (e : n ≤ m) : Sh m d := ⟨h.1, h.2.1, Nat.le_trans h.2.2 e⟩
theorem Sh.shaped {d : D} (h : Sh 64 d) : SeqAt.shaped d = true := by
  unfold SeqAt.shaped
  rw [h.2.1, decide_eq_true h.2.2]
  rfl
theorem Sh.ints {n : Nat} {xs : List Int} : ∀ d ∈ xs.map (fun i => (.int i : D)), Sh n d := fun d h => by
  obtain ⟨i, _, rfl⟩ := List.mem_map.mp h
  exact .int
/-- == told by a decision -/
theorem fEq_sh {neg : Bool} {c d : D} {Q : D → Prop} {p : Bool} (hc : Sh 64 c) (hd : Sh 64 d) (e : p = true ↔ c = d) : fEq neg c d Q = Q (.bool (if neg then !p else p)) := by
  have h : PyData.eqv c d = p := Bool.eq_iff_iff.mpr ((eqv_nb c d hc.1 hd.1).trans e.symm)
  unfold fEq
  rw [h]
  exact propext ⟨fun q => q.2.2, fun q => ⟨hc.shaped, hd.shaped, q⟩⟩
theorem fIn_sh {neg : Bool} {c : D} {ds : List D} {Q : D → Prop} {p : Bool} (hc : Sh 64 c) (hd : ∀ d ∈ ds, Sh 63 d) (e : p = true ↔ c ∈ ds) : fIn neg c (.list ds) Q = Q (.bool (if neg then !p else p)) := by
  have h : ds.any (fun z => PyData.eqv z c) = p := Bool.eq_iff_iff.mpr (by
    rw [e, List.any_eq_true]
    exact ⟨fun ⟨z, hz, hq⟩ => by rw [← (eqv_nb z c (hd z hz).1 hc.1).mp hq]; exact hz, fun h => ⟨c, h, (eqv_nb c c hc.1 hc.1).mpr rfl⟩⟩)
  simp only [fIn]
  rw [h]
  exact propext ⟨fun q => q.2.2, fun q => ⟨hc.shaped, (Sh.lst hd).shaped, q⟩⟩
/-! ### cuts of ints -/
theorem cutD_map {α : Type} (f : α → D) (xs : List α) (lo hi : Option Int) : ∃ ys : List α, cutD (xs.map f) lo hi = ys.map f ∧ ys.length ≤ xs.length ∧ ∀ y ∈ ys, y ∈ xs := by
  unfold cutD
  rw [List.length_map]
  refine ⟨(xs.drop (HT.sIx xs.length 0 lo)).take (HT.sIx xs.length xs.length hi - HT.sIx xs.length 0 lo), by rw [List.map_take, List.map_drop], ?_, fun y hy => List.mem_of_mem_drop (List.mem_of_mem_take hy)⟩
  rw [List.length_take, List.length_drop]
  omega
end DW

set_option Elab.async false
set_option linter.all false
set_option maxRecDepth 100000
set_option maxHeartbeats 4000000
namespace DW
open PySem PySem.Spec PyProof.Rows L2
/-! ### a try whose caught error is still looked at behind it -/
section
variable {X : Cx} {x n : Str} {c : Value} {i : Nat} {body suite rest : List Stmt} {b0 : Stmt} {np pos pos' : Pos} {tb : WX → TS} {ts : Addr → Value → Option Addr → TS} {u : TS} {u2 : Addr → Value → Option Addr → TS}
/-- the error is the clause's, and the rest goes on with it -/
def wKeep (K : PySem.W.Frag) (c : Value) (i : Nat) (ts u2 : Addr → Value → Option Addr → TS) (D : Ends) : WX := fun cls d σ H => PySem.W.exmOne K cls c = some true ∧
  ∀ a, H a = none → ts a cls d { nx := fun σ' H' => u2 a cls d D (σ'.set i none) H', rt := fun _ _ => False, bk := fun _ _ => False, ct := fun _ _ => False } (σ.set i (some (.ref a))) H
theorem kept1 {pins : List (Addr × Obj)} {σ : L2.St} {H : Hp} {s : Shared} {a : Addr} {q : Addr × Obj} (I : Inv (X.suite a (q :: (X.pn ++ pins))) [] σ H s) (ok : X.Ok) : Inv (X.tr (q :: (X.pn ++ pins)) X.xe) [] σ H s :=
  ⟨ok.toTry _ _, I.os, I.bare, I.base, I.loc, I.cell, I.free, I.freeC, I.pin, I.hok, I.len⟩
theorem kept2 {pins : List (Addr × Obj)} {σ : L2.St} {H : Hp} {s : Shared} {q : Addr × Obj} (I : Inv (X.tr (q :: (X.pn ++ pins)) X.xe) [] σ H s) (ok : X.Ok) : Inv X pins σ H s :=
  ⟨ok, I.os, I.bare, I.base, I.loc, I.cell, I.free, I.freeC, (fun p hp => I.pin p (List.mem_append_left _ (List.mem_cons_of_mem _ hp))), I.hok, I.len⟩
theorem sp_kept {pins : List (Addr × Obj)} {D : Ends} {f : Flow} {s : Shared} {q : Addr × Obj} (ok : X.Ok) (h : SP (X.tr (q :: (X.pn ++ pins)) X.xe) [] D f s) : SP X pins D f s := by
  cases f with
  | ret v =>
    obtain ⟨v', σ', H', J, r, z⟩ := h
    exact ⟨v', σ', H', kept2 J ok, r, z⟩
  | next => exact let ⟨σ', H', J, z⟩ := h; ⟨σ', H', kept2 J ok, z⟩
  | brk => exact let ⟨σ', H', J, z⟩ := h; ⟨σ', H', kept2 J ok, z⟩
  | cont => exact let ⟨σ', H', J, z⟩ := h; ⟨σ', H', kept2 J ok, z⟩
theorem pss_tryK (hs : X.stack = X.env :: X.outer) (hf : X.env.frame = some X.env.locals) (hN : X.N.Nodup) (hi : X.N[i]? = some n) (hln : X.env.kindOf n = some .local) (hc : Names X x c)
    (hb : ∀ (W : WX) (pn : List (Addr × Obj)) (xe : Value → Shared → Prop), Takes (X.tr pn xe) W → PSs (X.tr pn xe) body (tb W))
    (hsu : ∀ (a : Addr) (oe : Obj) (cls : Value) (d : Option Addr) (pn : List (Addr × Obj)), Zc cls d oe → (∃ vs, oe.data = .fields vs) → PSs (X.suite a ((a, oe) :: pn)) (b0 :: suite) (ts a cls d)) (hr : PSs X rest u)
    (hr2 : ∀ (a : Addr) (oe : Obj) (cls : Value) (d : Option Addr) (pn : List (Addr × Obj)), Zc cls d oe → (∃ vs, oe.data = .fields vs) → PSs (X.tr ((a, oe) :: pn) X.xe) rest (u2 a cls d)) :
    PSs X (.Try body [.ExceptHandler (some (.Name x np)) (some n) (b0 :: suite) pos'] [] [] pos :: rest) (fun D σ H => tb (wKeep X.K c i ts u2 D) { D with nx := u D } σ H) := by
  refine ⟨fun pins s σ H D I h => wpAny_execs_cons (wpAny_Try_except ?_)⟩
  have ok := I.ok
  have hfr : X.A.frames = some (X.env :: X.outer) := ok.frames.trans (congrArg some hs)
  refine wpAny_mono ((hb (wKeep X.K c i ts u2 D) (X.pn ++ pins) _ (fun v s' hx => ?caught)).run [] s σ H _ (I.toTry _) h) (fun f s1 hsp => ?through) (fun e s1 he => he)
  case through =>
    cases f with
    | ret v =>
      obtain ⟨v', σ', H', J, r, q⟩ := hsp
      exact ⟨v', σ', H', J.ofTry ok, r, q⟩
    | brk => exact let ⟨σ', H', J, q⟩ := hsp; ⟨σ', H', J.ofTry ok, q⟩
    | cont => exact let ⟨σ', H', J, q⟩ := hsp; ⟨σ', H', J.ofTry ok, q⟩
    | next =>
      obtain ⟨σ', H', J, q⟩ := hsp
      exact wpAny_execs_nil (hr.run pins s1 σ' H' D (J.ofTry ok) q)
  case caught =>
    obtain ⟨a, B, sI, pins', σ', H', cls, d, rfl, J0, nb, up, sky, na, os, ag, hyes, hgo⟩ := hx
    have J : Inv X pins σ' H' sI := J0.ofTry ok
    refine Sky.land Zc.steady hfr hf (show Sky B (X.env :: X.outer) a (Zc cls d) X.env.locals s'.heap from hs ▸ sky) fun h3 fl up3 => ?_
    have out : ∀ {h : Heap} {o : Obj} {vs : Array Value}, h.FunFrames B (X.env :: X.outer) → h.get? a = some o → o.data = .fields vs → a ≠ X.env.locals ∧ a ∉ X.fs := fun {h o vs} ff e dd => by
      have no : a ∉ frs (X.env :: X.outer) := fun hm => by
        obtain ⟨_, o', e', hno⟩ := ff.mem hm
        rw [e] at e'
        cases e'
        exact hno _ dd
      exact ⟨fun z => no (List.mem_filterMap.mpr ⟨X.env, List.mem_cons_self, by rw [hf, z]⟩), fun hm => by
        obtain ⟨e, he, q⟩ := List.mem_filterMap.mp hm
        exact no (List.mem_filterMap.mpr ⟨e, List.mem_cons_of_mem _ he, q⟩)⟩
    have J3 : Inv X pins σ' H' { s' with heap := h3 } := J.landed nb fl.1 (up.trans up3) os ag
    obtain ⟨o3, vs3, g3, z3, d3⟩ := fl.there
    obtain ⟨nL, nF⟩ := out fl.2.2.1 g3 d3
    have S3 := J3.suite g3 d3 na nL nF
    refine wpAny_handleBy_cons (codeAny_handlers_test ?_) (by intro q; cases q)
    have looks : PySem.W.Looks (model X.prog X.w) h3 (typeOf (.ref a)) cls := fun A Q E s k q => wpAny_typeOf_ref (k _ _ g3) (by rw [z3.1]; exact q)
    have match_ := PySem.W.exm_one (M := model X.prog X.w) J3.kIn looks hyes
    have clause : ∀ {Q E : Value → Shared → Prop}, Q c { s' with heap := h3 } → wpAny (model X.prog X.w) (X.A.mark (some (.ref a))) (eval (.Name x np) X.env) Q E { s' with heap := h3 } := fun {Q E} q => by
      obtain ⟨hg, hd, hm | ⟨hm, hv, hn⟩⟩ := hc
      · exact ld_glob (X := X.suite a ((a, o3) :: (X.pn ++ pins))) S3 hg hm q hd
      · exact ld_blt (X := X.suite a ((a, o3) :: (X.pn ++ pins))) S3 hg hm hv q hn hd
    refine clause (match_.here (codeAny_handlers_suite_as (HandSPX.lands_againZ fl fun h4 fl4 up4 => ?_)))
    have J4 : Inv X pins σ' H' { s' with heap := h4 } := J.landed nb fl4.1 ((up.trans up3).trans up4) os ag
    obtain ⟨o4, vs4, g4, z4, d4⟩ := fl4.there
    refine store_ok (X := X.suite a ((a, o4) :: (X.pn ++ pins))) (v := .ref a) (J4.suite g4 d4 na nL nF) hN hi (.inl hln) rfl (fun s5 S5 => ?_) (.inr hln)
    refine wpAny_mono ((hsu a o4 cls d (X.pn ++ pins) z4 ⟨_, d4⟩).run [] s5 _ H' _ S5 (hgo a na)) (fun f s6 hsp => ?_) (fun _ _ z => False.elim z)
    cases f with
    | next =>
      obtain ⟨σ6, H6, S6, q6⟩ := hsp
      refine gone_ok (X := X.tr ((a, o4) :: (X.pn ++ pins)) X.xe) (kept1 S6 ok) hN hi hln fun s7 J7 => ?_
      exact wpAny_mono ((hr2 a o4 cls d (X.pn ++ pins) z4 ⟨_, d4⟩).run [] s7 _ H6 D J7 q6) (fun f s8 h8 => sp_kept ok h8) fun e s8 h8 => h8
    | brk => exact let ⟨_, _, _, q⟩ := hsp; q.elim
    | cont => exact let ⟨_, _, _, q⟩ := hsp; q.elim
    | ret v => exact let ⟨_, _, _, _, _, q⟩ := hsp; q.elim
end
/-! ### defs that may raise, over data -/
abbrev WFX := Nat → List D → (D → Nat → Prop) → (Value → Nat → Prop) → Prop
def spX (K : PySem.W.Frag) (W : WFX) : Sp := fun vs H Q E => ∃ (N : Addr → Prop) (ds : List D) (u : Nat) (Qd : D → Nat → Prop) (Ed : Value → Nat → Prop), (∀ a, N a → H a ≠ none) ∧ MInv N u K H ∧ DaAll K N H vs ds ∧ W u ds Qd Ed ∧
  (∀ v H' d u', Step H H' → MInv N u' K H' → Da K N H' v d → Qd d u' → Q v H') ∧ (∀ c H' u', Step H H' → MInv N u' K H' → Ed c u' → E c none H')
section
variable {P : Program} {w : World} {K : PySem.W.Frag} {mg : Str → Option Value} {base : Heap}
theorem fnDX {x qual : Str} {st : Stmt} {f : Addr} {fd : FuncData} {Ns ps : List Str} {k : Nat} {W : WFX} {wb : WS} (F : Fun K x qual st f fd) (S : FnScope Ns ps (defScope st))
    (hbody : ∀ (cdv : Value) (A : Around) (outer : List Env) (s : Shared) (H : Hp) (E : XK), Room k (A.deeper (envOfC qual (defScope st) s.heap.objs.size f cdv)) → PSs (cxOf (L2.CX P w) P w K mg base Ns qual (defScope st) f cdv A outer s H E) (defBody st) (tSx K E wb))
    (h : ∀ u ds Qd Ed, W u ds Qd Ed → ds.length = ps.length ∧ wb { nx := fun _ u' => Qd .none u', rt := Qd, ex := Ed } (startR Ns ds) u) : FnOk P w K mg base (L2.CX P w) (k + 1) f fd ps (spX K W) := by
  refine F.okX S (fun vs H Q E hs => ?_) (fun cdv A outer s H vs Q E hr hs => ?_)
  · obtain ⟨N, ds, u, Qd, Ed, hN, m, hd, hw, k, ke⟩ := hs
    rw [hd.length]
    exact (h u ds Qd Ed hw).1
  · obtain ⟨N, ds, u, Qd, Ed, hN, m, hd, hw, k, ke⟩ := hs
    refine ⟨_, hbody cdv A outer s H E hr, N, N, H, startR Ns ds, u, _, start_rel hN m hd, (h u ds Qd Ed hw).2, fun A' σ' H' ρ' u' g R' q => ?_, fun v H' d u' s m hd q => k v H' d u' s m hd q, fun _ _ _ _ _ _ _ q => q, fun _ _ _ _ _ _ _ q => q, ke⟩
    exact k .non H' .none u' R'.step (R'.minv.less fun a _ h => R'.sub a h) .non q
end
section
variable {X : Cx} {W : XK}
@[simp] def wRaise (c : Value) : WS := fun F _ u => F.ex c u
theorem psRaise {e : Expr} {pos : Pos} {c : Value} (hc : X.calm = true) (tk : Takes X (fun cls d _ H => W cls d H)) (he : PMk X e (fun _ H Q => Q c none H)) : PS X (.Raise (some e) none pos) (tSx X.K W (wRaise c)) :=
  PSi (ps_raise hc tk he) fun E σ H ⟨N, A, H0, ρ, u, F, R, hw, k1, k2, k3, k4, k5⟩ => k5 c H u R.step (R.minv.less fun a _ h => R.sub a h) hw
/-- such a def, called where it raises nothing -/
@[simp] def wFnX (Wf : WFX) (ws : WA) : WE := fun ρ u Q => ws ρ u fun ds u1 => Wf u1 ds Q fun _ _ => False
theorem pFnX {k : Nat} {f : Addr} {fd : FuncData} {ps : List Str} {x : Str} {p pos : Pos} {e : Expr} {es : List Expr} {Wf : WFX} {ws : WA} (F : FnOk X.prog X.w X.K X.mg X.base (L2.CX X.prog X.w) k f fd ps (spX X.K Wf)) (hr : Room k X.A) (hg : Gl X x) (hm : X.mg x = some (.ref f)) (hk : PySem.W.keepIn X.K (.ref f) = true) (hb : Binds X.K fd ps [])
    (ha : PA X (e :: es) (tAr X.K ws)) (hdb : (x == ("__debug__" : Str)) = false := by decide) (he : starEach (e :: es) X.env = (false, eval e X.env) :: starEach es X.env := by rfl) (hpl : (backTo pos (starEach es X.env)).any (·.1) = false := by rfl) :
    PE X (.Call (.Name x p) (e :: es) [] pos) (tD X.K (wFnX Wf ws)) := PEi (pe_call F hr hg hm hk hb .nil passL ha hdb he hpl) fun σ H Q ⟨N, A, H0, ρ, u, Qd, R, hw, k⟩ =>
  ⟨N, A, H0, ρ, u, _, R, hw, fun vs H1 ds u1 s1 m1 hd q => by
    show spX X.K Wf (vs ++ []) H1 Q _
    rw [List.append_nil]
    exact ⟨A, ds, u1, Qd, fun _ _ => False, fun a h => s1.there (R.trk a h), m1, hd, q, fun v H2 d u2 s2 m2 hd2 q2 => k v H2 d u2 (s1.trans s2) m2 hd2 q2, fun _ _ _ _ _ q => q.elim⟩⟩
/-- a slot is emptied -/
theorem Rel.clear {K : PySem.W.Frag} {N A : Addr → Prop} {H0 H : Hp} {σ : L2.St} {ρ : Rho} {u : Nat} (R : Rel K N A H0 σ H ρ u) (i : Nat) : Rel K N A H0 (σ.set i none) H (ρ.set i none) u := by
  have old : ∀ (j : Nat) (s : SV), (ρ.set i none)[j]? = some (some s) → i ≠ j ∧ ρ[j]? = some (some s) := fun j s e => by
    by_cases q : i = j
    · subst q
      by_cases hl : i < ρ.length
      · rw [List.getElem?_set_self hl] at e; cases e
      · rw [List.getElem?_eq_none (by rw [List.length_set]; omega)] at e; cases e
    · rw [List.getElem?_set_ne q] at e
      exact ⟨q, e⟩
  exact {
    len := by rw [List.length_set, List.length_set]; exact R.len
    step := R.step
    minv := R.minv
    sub := R.sub
    trk := R.trk
    ntrk := R.ntrk
    dat := fun j x e => by
      obtain ⟨q, e⟩ := old j _ e
      rw [List.getElem?_set_ne q]
      exact R.dat j x e
    own := fun j x e => by
      obtain ⟨q, e⟩ := old j _ e
      rw [List.getElem?_set_ne q]
      exact R.own j x e
    dis := fun j k xs ys a e1 e2 s1 s2 => by
      obtain ⟨q, e1⟩ := old j _ e1
      obtain ⟨q2, e2⟩ := old k _ e2
      rw [List.getElem?_set_ne q] at s1
      rw [List.getElem?_set_ne q2] at s2
      exact R.dis j k xs ys a e1 e2 s1 s2 }
/-! try: t = [f(..)]; except C as n: suite; the rest of the block. Here: f raises -/
@[simp] def wTryErr (c : Value) (i : Nat) (Wf : WFX) (ws : WA) (wsu : WS) (wrest : Addr → WS) : WS := fun F ρ u => ws ρ u fun ds u1 => Wf u1 ds (fun _ _ => False) fun c' u2 => c' = c ∧ ∀ a : Addr,
  wsu { nx := fun ρ' u' => wrest a F (ρ'.set i none) u', rt := fun _ _ => False } (ρ.set i (some (.d (eD a)))) u2
theorem pssTryErr {k t i : Nat} {n y z : Str} {C f : Addr} {fd : FuncData} {ps : List Str} {b0 : Stmt} {suite rest : List Stmt} {e : Expr} {es : List Expr} {np pos pos' p1 p2 p3 p4 p5 : Pos} {Wf : WFX} {ws : WA} {wsu : WS} {wrest : Addr → WS}
    (hs : X.stack = X.env :: X.outer) (hf : X.env.frame = some X.env.locals) (hN : X.N.Nodup) (hi : X.N[i]? = some n) (hln : X.env.kindOf n = some .local) (hc : Names X y (.ref C)) (hm : PySem.W.exmOne X.K (.ref C) (.ref C) = some true)
    (F : FnOk X.prog X.w X.K X.mg X.base (L2.CX X.prog X.w) k f fd ps (spX X.K Wf)) (hr : Room k X.A) (hg : ∀ pn xe, Gl (X.tr pn xe) z) (hmz : X.mg z = some (.ref f)) (hk : PySem.W.keepIn X.K (.ref f) = true) (hb : Binds X.K fd ps [])
    (hset : ∀ (W' : WX) pn xe te, PE (X.tr pn xe) (.List [.Call (.Name z p3) (e :: es) [] p4] p5) te → PS (X.tr pn xe) (.Assign [.Name (X.N.getD t "") p1] (.List [.Call (.Name z p3) (e :: es) [] p4] p5) p2) (tAsg te (gName t)))
    (ha : ∀ pn xe, PA (X.tr pn xe) (e :: es) (tAr X.K ws)) (he : starEach (e :: es) X.env = (false, eval e X.env) :: starEach es X.env) (hpl : (backTo p4 (starEach es X.env)).any (·.1) = false) (hdb : (z == ("__debug__" : Str)) = false)
    (hl : starEach [.Call (.Name z p3) (e :: es) [] p4] X.env = (false, eval (.Call (.Name z p3) (e :: es) [] p4) X.env) :: starEach [] X.env)
    (hsu : ∀ a pn, PSs (X.suite a pn) (b0 :: suite) (tSx X.K (fun _ _ _ => False) wsu))
    (hrest : ∀ (a : Addr) (oe : Obj) (pn : List (Addr × Obj)), Zc (.ref C) none oe → (∃ vs, oe.data = .fields vs) → PSs (X.tr ((a, oe) :: pn) X.xe) rest (tSx X.K W (wrest a))) :
    PSs X (.Try [.Assign [.Name (X.N.getD t "") p1] (.List [.Call (.Name z p3) (e :: es) [] p4] p5) p2] [.ExceptHandler (some (.Name y np)) (some n) (b0 :: suite) pos'] [] [] pos :: rest) (tSx X.K W (wTryErr (.ref C) i Wf ws wsu wrest)) := by
  refine PSsi (pss_tryK (c := .ref C) (tb := fun W' => tAsg (tLst (tCons (tCallS (spX X.K Wf) (L2.WE W') (tAr X.K ws)) tNil)) (gName t)) (ts := fun a cls d => tSx X.K (fun _ _ _ => False) wsu) (u := fun _ _ _ => False) (u2 := fun a cls d => if cls = .ref C ∧ d = none then tSx X.K W (wrest a) else fun _ _ _ => False) hs hf hN hi hln hc
    (fun W' pn xe tk => pss_one (hset W' pn xe _ (pe_lst (pa_cons (pe_callS F hr (hg pn xe) hmz hk hb (fun σ => passAt tk σ) (ha pn xe) hdb he hpl) pa_nil hl)))) (fun a oe cls d pn _ _ => hsu a _) ⟨fun _ _ _ _ _ _ z => z.elim⟩ (fun a oe cls d pn hz hv => ?_)) fun E σ H ⟨N, A, H0, ρ, u, F, R, hw, k1, k2, k3, k4, k5⟩ => ?_
  · by_cases q : cls = .ref C ∧ d = none
    · rw [if_pos q]
      obtain ⟨rfl, rfl⟩ := q
      exact hrest a oe pn hz hv
    · rw [if_neg q]
      exact ⟨fun _ _ _ _ _ _ z => z.elim⟩
  · refine ⟨N, A, H0, ρ, u, _, R, hw, fun vs H1 ds u1 s1 m1 hd q => ?_⟩
    refine ⟨A, ds, u1, fun _ _ => False, _, fun a h => s1.there (R.trk a h), m1, hd, q, fun _ _ _ _ _ _ _ q => q.elim, ?_⟩
    rintro c' H2 u2 s2 m2 ⟨rfl, hq⟩
    refine ⟨hm, fun a _ => ?_⟩
    have R2 := (R.go (s1.trans s2) m2).setD (i := i) (Da.err a)
    refine ⟨N, A, H0, _, u2, _, R2, hq a, fun A' σ' H' ρ' u' g R' q => ?_, fun _ _ _ _ _ _ _ q => q.elim, fun _ _ _ _ _ _ _ q => q.elim, fun _ _ _ _ _ _ _ q => q.elim, fun _ _ _ _ _ q => q.elim⟩
    have gg := (s1.trans s2).goes (A := A) |>.trans g
    show (if (Value.ref C = .ref C ∧ (none : Option Addr) = none) then tSx X.K W (wrest a) else fun _ _ _ => False) E (σ'.set i none) H'
    rw [if_pos ⟨rfl, rfl⟩]
    exact ⟨N, A', H0, _, u', F, R'.clear i, q, fun A'' σ' H' ρ' u' g' R' q => k1 _ _ _ _ _ (gg.trans g') R' q, k2, fun A'' σ' H' ρ' u' g' R' q => k3 _ _ _ _ _ (gg.trans g') R' q, fun A'' σ' H' ρ' u' g' R' q => k4 _ _ _ _ _ (gg.trans g') R' q, k5⟩
/-- isinstance(error, C2), the error kept -/
theorem call_isK {a D : Addr} {oe : Obj} {pn : List (Addr × Obj)} {xe : Value → Shared → Prop} (C : ExcC X.K D) (hz : Zc (.ref D) none oe) (hf : ∃ vs, oe.data = .fields vs) : CallR (X.tr ((a, oe) :: pn) xe) (.builtin "isinstance") (rIsE X.K D a) := by
  rintro pins s σ H xs us Q I r ⟨c, cv, b, rfl, hcv, e, q⟩
  cases r with
  | cons rx rr =>
    cases rr with
    | cons rt rr =>
      cases rr
      cases rx
      obtain rfl := hcv _ rt
      have hget := (I.pin (a, oe) (List.mem_append_left _ List.mem_cons_self)).1
      obtain ⟨vs, hv⟩ := hf
      have J : PySem.W.InstAt s.heap a oe D none := ⟨hget, hz.1, by unfold PySem.W.notCls; rw [hv] <;> rfl, by rw [hz.2]; trivial⟩
      exact PySem.W.kia_one (PySem.W.handS_kitx_exc C.hg C.hk C.hs C.hd C.ha C.hn C.ht C.hm) I.kIn J e (fun z => nomatch z) fun tk => ⟨.bl b, H, I.kept (t' := tk) fun _ _ z => z, rfl, q⟩
@[simp] def wIsK (i : Nat) (a : Addr) (b : Bool) : WE := fun ρ u Q => ρ[i]? = some (some (.d (eD a))) ∧ Q (.bool b) u
theorem Da.err_inv {K : PySem.W.Frag} {A : Addr → Prop} {H : Hp} {v : V} {a : Addr} (h : Da K A H v (eD a)) : v = .ref a := by
  generalize e : eD a = d at h
  cases h with
  | err b =>
    have e2 : (a : Nat) = b := Int.ofNat_inj.mp (PyData.int.inj (Prod.mk.inj (List.cons.inj (PyData.dict.inj e)).1).2)
    rw [e2]
  | scr _ _ _ => simp [eD, sD] at e
  | scrK _ => simp [eD, sD] at e
  | mm _ _ => simp [eD, mD] at e
  | _ => simp [eD] at e
theorem pIsK {i : Nat} {a D C2 : Addr} {oe : Obj} {pn : List (Addr × Obj)} {xe : Value → Shared → Prop} {b : Bool} {x y : Str} {eo : Expr} {p py pos : Pos} (C : ExcC X.K D) (hz : Zc (.ref D) none oe) (hf : ∃ vs, oe.data = .fields vs) (hk : PySem.W.kitOne X.K (.ref D) (.ref C2) = some b)
    (hg : Gl (X.tr ((a, oe) :: pn) xe) x) (hm : X.mg x = none) (hv : bootBuiltins x = some (.builtin "isinstance")) (ho : PE (X.tr ((a, oe) :: pn) xe) eo (tVar i)) (hgy : Gl (X.tr ((a, oe) :: pn) xe) y) (hmy : X.mg y = some (.ref C2))
    (hn : x ≠ "__name__" := by decide) (hdb : (x == ("__debug__" : Str)) = false := by decide) (hdby : (y == ("__debug__" : Str)) = false := by decide)
    (he : starEach [eo, .Name y py] X.env = (false, eval eo X.env) :: starEach [.Name y py] X.env := by rfl) (he2 : starEach [.Name y py] X.env = (false, eval (.Name y py) X.env) :: starEach [] X.env := by rfl) (hpl : (backTo pos (starEach [.Name y py] X.env)).any (·.1) = false := by rfl) :
    PE (X.tr ((a, oe) :: pn) xe) (.Call (.Name x p) [eo, .Name y py] [] pos) (tD X.K (wIsK i a b)) :=
  PEi (pe_callB (call_isK C hz hf) hg hm hv (pa_cons ho (pa_cons (pe_glob hgy hmy (v := .ref C2) rfl hdby) pa_nil he2) he) hn hdb he hpl) fun σ H Q ⟨N, A, H0, ρ, u, Qd, R, ⟨e, hw⟩, k⟩ => by
    obtain ⟨v, e1, hv⟩ := R.dat i _ e
    obtain rfl := hv.err_inv
    exact ⟨_, e1, .ref C2, .ref C2, b, rfl, fun u ru => ru, hk, k _ H _ u (Step.refl H) R.minv (.bl b) hw⟩
/-! a call by names alone -/
def NBinds (K : PySem.W.Frag) (fd : FuncData) (ps ks : List Str) (g : List Value → List Value) : Prop := ∀ (s : Shared) (ws : List Value), K.In s.heap → ws.length = ps.length → BindsTo s fd ⟨[], ks.zip ws⟩ (ps.zip (g ws))
theorem nbinds_of {K : PySem.W.Frag} {x qual : Str} {st : Stmt} {f : Addr} {fd : FuncData} {ps ks : List Str} {g : List Value → List Value} (F : Fun K x qual st f fd)
    (h : ∀ (kV doc pm : Value) (an : Option Addr) (cdv ct : Value) (ws : List Value), ws.length = ps.length → bindArgs (PySem.W.fnOf x qual (defArgs st) (defBody st) (defScope st) .none kV doc pm an cdv ct) ⟨[], ks.zip ws⟩ = pure (ps.zip (g ws))) : NBinds K fd ps ks g := by
  obtain ⟨oc, od, kV, doc, pm, an, cdv, ct, osl, rfl, lk, hcd⟩ := F.ex
  exact fun s ws _ hl => .of_eq (h kV doc pm an cdv ct ws hl)
def tKr (K : PySem.W.Frag) (w : WA) : TA := tAr K w
theorem pkN : PK X [] (tAr X.K waNil) := ⟨fun pos pins s σ H Q I h => pk_nil.run pos pins s σ H Q I (by
  obtain ⟨N, A, H0, ρ, u, Qd, R, hw, k⟩ := h
  exact k [] H [] u (Step.refl H) R.minv .nil hw)⟩
theorem pkC {nm : Option Str} {kpos : Pos} {e : Expr} {kws : List Keyword} {w : WE} {ws : WA} (h : PE X e (tD X.K w)) (hs : PK X kws (tAr X.K ws)) : PK X (⟨nm, e, kpos⟩ :: kws) (tAr X.K (waCons w ws)) := ⟨fun pos pins s σ H Q I hq => (pk_cons h hs).run pos pins s σ H Q I (by
  obtain ⟨N, A, H0, ρ, u, Qd, R, hw, k⟩ := hq
  exact ⟨N, A, H0, ρ, u, _, R, hw, fun v H1 d u1 s1 m1 hd q1 => ⟨N, A, H0, ρ, u1, _, R.go s1 m1, q1, fun vs H2 ds u2 s2 m2 hds q2 => k (v :: vs) H2 (d :: ds) u2 (s1.trans s2) m2 (.cons (hd.goes s2.goes) hds) q2⟩⟩)⟩
theorem pFnXN {k : Nat} {f : Addr} {fd : FuncData} {ps ks : List Str} {x : Str} {p pos : Pos} {kws : List Keyword} {Wf : WFX} {ws : WA} (F : FnOk X.prog X.w X.K X.mg X.base (L2.CX X.prog X.w) k f fd ps (spX X.K Wf)) (hr : Room k X.A) (hg : Gl X x) (hm : X.mg x = some (.ref f)) (hk : PySem.W.keepIn X.K (.ref f) = true) (hb : NBinds X.K fd ps ks id)
    (ha : PK X kws (tAr X.K ws)) (hdb : (x == ("__debug__" : Str)) = false := by decide) (hall : (backToKw pos (keywordEach kws X.env)).all (·.1.isSome) = true := by rfl) (hks : (backToKw pos (keywordEach kws X.env)).filterMap (·.1) = ks := by rfl)
    (hpl : ((backTo pos (starEach [] X.env)).any (·.1) || (backToKw pos (keywordEach kws X.env)).any (·.1.isNone)) = false := by rfl) : PE X (.Call (.Name x p) [] kws pos) (tD X.K (wFnX Wf ws)) := by
  refine ⟨fun pins s σ H Q I hq => ?_⟩
  refine wpAny_Call_Name_kw (ld_glob I hg hm ?_ hdb)
  have q0 : tAr X.K ws σ H fun vs H1 => spX X.K Wf vs H1 Q fun _ _ _ => False := by
    obtain ⟨N, A, H0, ρ, u, Qd, R, hw, k⟩ := hq
    exact ⟨N, A, H0, ρ, u, _, R, hw, fun vs H1 ds u1 s1 m1 hd q =>
      ⟨A, ds, u1, Qd, fun _ _ => False, fun a h => s1.there (R.trk a h), m1, hd, q, fun v H2 d u2 s2 m2 hd2 q2 => k v H2 d u2 (s1.trans s2) m2 hd2 q2, fun _ _ _ _ _ q => q.elim⟩⟩
  refine PySem.W.callWith_KW0 (h₀ := X.base) I.ok.mod.kin hk hall (thn (ha.run pos pins s σ H _ I q0) fun us s1 ⟨vs, H1, I1, r, q⟩ => ⟨I1.kIn, ?_⟩) hpl
  rw [hks]
  have hl : us.length = ps.length := by rw [← r.length]; exact F.len _ _ _ _ q
  refine wpAny_call (codeAny_mono (F.run X.A X.stack s1 H1 ⟨[], ks.zip us⟩ us vs Q _ hr I1.env0 (hb s1 us I1.kIn hl) r q) fun res s' hq' => ?_)
  cases res with
  | error e => exact passL pins σ H1 s1 e s' I1 hq'
  | ok fl =>
    cases fl with
    | ret u => exact I1.after hq'
    | next => exact hq'.elim
    | brk => exact hq'.elim
    | cont => exact hq'.elim
end
end DW

set_option Elab.async false
set_option linter.all false
set_option maxRecDepth 100000
set_option maxHeartbeats 4000000
namespace DW
open PySem PySem.Spec PyProof.Rows L2
/-! ### a list of lists of one's own -/
section
variable {K : PySem.W.Frag} {N A B : Addr → Prop} {H0 H H' : Hp} {σ : L2.St} {ρ : Rho} {u u' : Nat}
structure Nest (K : PySem.W.Frag) (A B : Addr → Prop) (H : Hp) (p : Addr) (as : List Addr) (xss : List (List D)) : Prop where
  mem : ∀ a, B a ↔ (A a ∨ a = p ∨ a ∈ as)
  out : p ∉ as
  nd : as.Nodup
  at_ : H p = some (.lst (as.map V.ref))
  len : as.length = xss.length
  row : ∀ (j : Nat) (b : Addr), as[j]? = some b → ∃ vs xs, xss[j]? = some xs ∧ H b = some (.lst vs) ∧ DaAll K B H vs xs
theorem Nest.step {p : Addr} {as : List Addr} {xss : List (List D)} (n : Nest K A B H p as xss) (s : Step H H') : Nest K A B H' p as xss :=
  ⟨n.mem, n.out, n.nd, s.keep _ _ n.at_ (fun m => m), n.len, fun j b e => let ⟨vs, xs, h1, h2, h3⟩ := n.row j b e; ⟨vs, xs, h1, s.keep _ _ h2 (fun m => m), h3.goes s.goes⟩⟩
theorem Rel.grow (R : Rel K N A H0 σ H ρ u) (s : Step H H') (m : MInv B u' K H') (hB : ∀ a, A a → B a) (nb : ∀ a, B a → A a ∨ H a = none) (tr : ∀ a, B a → H' a ≠ none) (vs : List Nat) : Rel K N B H0 (wipe σ vs) H' (wipeR ρ vs) u' := by
  have g : Goes A B H H' := ⟨fun a o _ h i => s.keep a o h i, s.ms, nb⟩
  exact {
    len := by rw [wipeR_len, wipe_length]; exact R.len
    step := R.step.trans s
    minv := m
    sub := fun a h => hB a (R.sub a h)
    trk := tr
    ntrk := R.ntrk
    dat := fun i x e => by
      obtain ⟨e1, e2⟩ := wipeR_get e
      obtain ⟨v, h1, h2⟩ := R.dat i x e1
      exact ⟨v, by rw [wipe_out e2]; exact h1, h2.goes g⟩
    own := fun i xs e => by
      obtain ⟨e1, e2⟩ := wipeR_get e
      obtain ⟨a, vs, h1, h2, h3, h4, h5⟩ := R.own i xs e1
      exact ⟨a, vs, by rw [wipe_out e2]; exact h1, s.keep _ _ h2 (fun m => m), h3.goes g, hB _ h4, h5⟩
    dis := fun i j xs ys a e1 e2 s1 s2 => by
      obtain ⟨f1, g1⟩ := wipeR_get e1
      obtain ⟨f2, g2⟩ := wipeR_get e2
      rw [wipe_out g1] at s1
      rw [wipe_out g2] at s2
      exact R.dis i j xs ys a f1 f2 s1 s2 }
/-- a slot holds what is not told -/
theorem Rel.setAny (R : Rel K N A H0 σ H ρ u) (i : Nat) (v : Option V) : Rel K N A H0 (σ.set i v) H (ρ.set i none) u := by
  have old : ∀ (j : Nat) (s : SV), (ρ.set i none)[j]? = some (some s) → i ≠ j ∧ ρ[j]? = some (some s) := fun j s e => by
    by_cases q : i = j
    · subst q
      by_cases hl : i < ρ.length
      · rw [List.getElem?_set_self hl] at e; cases e
      · rw [List.getElem?_eq_none (by rw [List.length_set]; omega)] at e; cases e
    · rw [List.getElem?_set_ne q] at e
      exact ⟨q, e⟩
  exact {
    len := by rw [List.length_set, List.length_set]; exact R.len
    step := R.step
    minv := R.minv
    sub := R.sub
    trk := R.trk
    ntrk := R.ntrk
    dat := fun j x e => by
      obtain ⟨q, e⟩ := old j _ e
      rw [List.getElem?_set_ne q]
      exact R.dat j x e
    own := fun j x e => by
      obtain ⟨q, e⟩ := old j _ e
      rw [List.getElem?_set_ne q]
      exact R.own j x e
    dis := fun j k xs ys a e1 e2 s1 s2 => by
      obtain ⟨q, e1⟩ := old j _ e1
      obtain ⟨q2, e2⟩ := old k _ e2
      rw [List.getElem?_set_ne q] at s1
      rw [List.getElem?_set_ne q2] at s2
      exact R.dis j k xs ys a e1 e2 s1 s2 }
/-- nothing of it changes any more: it is data -/
theorem Nest.da {p : Addr} {as : List Addr} {xss : List (List D)} (n : Nest K A B H p as xss) (hp : ¬ A p) (ha : ∀ b ∈ as, ¬ A b) : Da K A H (.ref p) (.list (xss.map .list)) := by
  refine .lst n.at_ hp ?_
  have key : ∀ (bs : List Addr) (yss : List (List D)), bs.length = yss.length → (∀ (j : Nat) (b : Addr), bs[j]? = some b → ¬ A b ∧ ∃ vs xs, yss[j]? = some xs ∧ H b = some (.lst vs) ∧ DaAll K B H vs xs) → DaAll K A H (bs.map V.ref) (yss.map .list) := by
    intro bs
    induction bs with
    | nil =>
      intro yss hl _
      cases yss with
      | nil => exact .nil
      | cons _ _ => cases hl
    | cons b bs ih =>
      intro yss hl h
      cases yss with
      | nil => cases hl
      | cons xs yss =>
        obtain ⟨nb, vs, xs', e, h2, h3⟩ := h 0 b rfl
        have e' : xs = xs' := by simpa using e
        subst e'
        exact .cons (.lst h2 nb (h3.goes (.less fun a q => (n.mem a).mpr (.inl q)))) (ih yss (by simpa using hl) fun j c hc => h (j + 1) c (by simpa using hc))
  exact key as xss n.len fun j b e => ⟨ha b (List.mem_of_getElem? e), n.row j b e⟩
theorem Rel.nestD (R : Rel K N B H0 σ H ρ u) {p : Addr} {as : List Addr} {xss : List (List D)} (n : Nest K A B H p as xss) (hp : ¬ A p) (ha : ∀ b ∈ as, ¬ A b) (hs : ∀ a, N a → A a) (own : ∀ (i : Nat) (xs : List D), ρ[i]? = some (some (SV.own xs)) → ∀ a, σ[i]? = some (some (V.ref a)) → A a) {i : Nat} (hi : σ[i]? = some (some (V.ref p))) :
    Rel K N A H0 σ H (ρ.set i (some (.d (.list (xss.map .list))))) u := by
  have g : Goes B A H H := .less fun a h => (n.mem a).mpr (.inl h)
  exact {
    len := by rw [List.length_set]; exact R.len
    step := R.step
    minv := R.minv.less fun a _ h => (n.mem a).mpr (.inl h)
    sub := hs
    trk := fun a h => R.trk a ((n.mem a).mpr (.inl h))
    ntrk := R.ntrk
    dat := fun j x f => by
      by_cases q : i = j
      · subst q
        have f' := set_self f
        cases f'
        exact ⟨.ref p, hi, n.da hp ha⟩
      · rw [List.getElem?_set_ne q] at f
        obtain ⟨v, g1, g2⟩ := R.dat j x f
        exact ⟨v, g1, g2.goes g⟩
    own := fun j ys f => by
      by_cases q : i = j
      · subst q; exact nomatch (set_self f)
      · rw [List.getElem?_set_ne q] at f
        obtain ⟨b, ws, g1, g2, g3, g4, g5⟩ := R.own j ys f
        exact ⟨b, ws, g1, g2, g3.goes g, own j ys f b g1, g5⟩
    dis := fun j k xs1 ys b e1 e2 s1 s2 => by
      by_cases q : i = j
      · subst q; exact nomatch (set_self e1)
      · by_cases q2 : i = k
        · subst q2; exact nomatch (set_self e2)
        · rw [List.getElem?_set_ne q] at e1
          rw [List.getElem?_set_ne q2] at e2
          exact R.dis j k xs1 ys b e1 e2 s1 s2 }
/-- one entry of one of the lists is put otherwise -/
theorem Nest.put {p : Addr} {as : List Addr} {xss : List (List D)} (n : Nest K A B H p as xss) {i j : Nat} {b : Addr} {vs : List V} {xs : List D} {v : V} {d : D} (hb : as[i]? = some b) (hx : xss[i]? = some xs) (h : H b = some (.lst vs)) (hd : DaAll K B H vs xs) (hv : Da K B H v d) :
    Nest K A B (upd H b (.lst (vs.set j v))) p as (xss.set i (xs.set j d)) := by
  have hbm := List.mem_of_getElem? hb
  have pb : p ≠ b := fun e => n.out (by rw [e]; exact hbm)
  have g : Goes B B H (upd H b (.lst (vs.set j v))) := goes_put h ((n.mem b).mpr (.inr (.inr hbm)))
  refine ⟨n.mem, n.out, n.nd, by rw [upd_ne pb]; exact n.at_, by rw [List.length_set]; exact n.len, fun k c hc => ?_⟩
  by_cases e : k = i
  · subst e
    rw [hb] at hc
    cases hc
    have hk : k < xss.length := (List.getElem?_eq_some_iff.mp hx).1
    exact ⟨_, _, List.getElem?_set_self hk, upd_same, (hd.set hv j).goes g⟩
  · obtain ⟨ws, ys, h1, h2, h3⟩ := n.row k c hc
    have cb : c ≠ b := fun z => e ((List.getElem?_inj (List.getElem?_eq_some_iff.mp hc).1 n.nd).mp (by rw [hc, hb, z]))
    exact ⟨ws, ys, by rw [List.getElem?_set_ne (Ne.symm e)]; exact h1, by rw [upd_ne cb]; exact h2, h3.goes g⟩
end
@[simp] def wCompF (b : WB) (we : WA) (ρ : Rho) : List D → List (List D) → Nat → (List (List D) → Nat → Prop) → Prop
  | [], acc, u, Q => Q acc u
  | x :: xs, acc, u, Q => ∃ ρ', b x ρ = some ρ' ∧ we ρ' u fun y u2 => wCompF b we ρ xs (acc ++ [y]) u2 Q
abbrev WN := Rho → Nat → (List (List D) → Nat → Prop) → Prop
@[simp] def wLcF (wi : WA) (b : WB) (we : WA) (vs : List Nat) : WN := fun ρ u Q => wi ρ u fun ds u1 => ds.length < 100000 ∧ wCompF b we (wipeR ρ vs) ds [] u1 Q
/-- a new list of new lists -/
def tFF (K : PySem.W.Frag) (w : WN) : TE := fun σ H Q => ∃ (N A : Addr → Prop) (H0 : Hp) (ρ : Rho) (u : Nat) (Qd : List (List D) → Nat → Prop), Rel K N A H0 σ H ρ u ∧ w ρ u Qd ∧
  ∀ (B : Addr → Prop) p as H' xss u', Step H H' → MInv B u' K H' → H p = none → (∀ b ∈ as, H b = none) → Nest K A B H' p as xss → Qd xss u' → Q (.ref p) H'
theorem minv_more {A B : Addr → Prop} {u : Nat} {K : PySem.W.Frag} {H : Hp} (m : MInv A u K H) (h : ∀ c xs, H c = some (.lst xs) → ¬ A c → B c → False) : MInv B u K H := fun a o e i => by
  obtain ⟨l, s, c, p, cells, h1, h2, h3, h4, h5, h6, h7, h8, h9⟩ := m a o e i
  exact ⟨l, s, c, p, cells, h1, h2, h3, h4, h5, h6, h7, fun z => h c _ h7 h8 z, h9⟩
section
variable {X : Cx} {W : XK}
theorem lc_impN {wi : WA} {is own2 : List Nat} {b : WB} {we : WA} (sub : ∀ i ∈ is, i ∈ own2) : ∀ σ H Q, tFF X.K (wLcF wi b we own2) σ H Q → tLc (tIt X.K wi) (tGt X.K is b) (tTe X.K wTy) (tF X.K we) own2 σ H Q := fun σ H Q ⟨N, A, H0, ρ, u, Qd, R, hw, k⟩ =>
  ⟨N, A, H0, ρ, u, _, R, hw, fun J H1 ds u1 s1 m1 ⟨G, hG, g1⟩ ⟨hlen, q1⟩ P hP => by
    have hPH : H P = none := s1.fresh hP
    have s2 : Step H1 (upd H1 P (.lst [])) := Step.new hP
    have m2 : MInv (Aand A P) u1 X.K (upd H1 P (.lst [])) := m1.newA hP (fun m => m)
    refine ⟨fun i m H' => m = ds.length - i ∧ i ≤ ds.length ∧ ∃ (B : Addr → Prop) (as : List Addr) (xss : List (List D)) (u' : Nat), Step H H' ∧ MInv B u' X.K H' ∧ Nest X.K A B H' P as xss ∧ (∀ b ∈ as, H b = none) ∧ as.length ≤ i ∧ G B H' ∧ wCompF b we (wipeR ρ own2) (ds.drop i) xss u' Qd,
      ⟨ds.length, by simp, Nat.zero_le _, Aand A P, [], [], u1, s1.trans s2, m2, ⟨fun a => by simp [Aand], by simp, by simp, upd_same, rfl, fun j b e => by simp at e⟩, by simp, Nat.le_refl _, hG.over _ _ _ _ (goes_and s2 hP) g1, q1⟩, ?_⟩
    rintro i m H2 ⟨rfl, hi, B, as, xss, u2, st2, mB, n2, fr, al, g2, w2⟩
    have trk : ∀ a, B a → H2 a ≠ none := fun a h => by
      rcases (n2.mem a).mp h with h | h | h
      · exact st2.there (R.trk a h)
      · rw [h, n2.at_]; simp
      · obtain ⟨j, hj⟩ := List.getElem?_of_mem h
        obtain ⟨vs, xs, _, h2, _⟩ := n2.row j a hj
        rw [h2]; simp
    have nb : ∀ a, B a → A a ∨ H a = none := fun a h => by
      rcases (n2.mem a).mp h with h | h | h
      · exact .inl h
      · rw [h]; exact .inr hPH
      · exact .inr (fr a h)
    have R2 : Rel X.K N B H0 (wipe σ own2) H2 (wipeR ρ own2) u2 := R.grow st2 mB (fun a h => (n2.mem a).mpr (.inl h)) nb trk _
    by_cases hlt : i < ds.length
    · refine .inr ⟨hG.goes i _ H2 hlt g2, fun H' => ∃ (B : Addr → Prop) (as : List Addr) (xss : List (List D)) (u' : Nat), Step H H' ∧ MInv B u' X.K H' ∧ Nest X.K A B H' P as xss ∧ (∀ b ∈ as, H b = none) ∧ as.length ≤ i + 1 ∧ G B H' ∧ wCompF b we (wipeR ρ own2) (ds.drop (i + 1)) xss u' Qd,
        fun H' h => ⟨ds.length - (i + 1), by omega, rfl, hlt, h⟩, fun x H3 y => ?_⟩
      obtain ⟨s3, m3, d, hd, hda⟩ := hG.yields i _ H2 x H3 hlt g2 R2.goes0 y
      have e : ds.drop i = d :: ds.drop (i + 1) := by
        obtain ⟨h1, h2⟩ := List.getElem?_eq_some_iff.mp hd
        rw [← h2]
        exact List.drop_eq_getElem_cons h1
      rw [e] at w2
      obtain ⟨ρ3, hb3, w3⟩ := w2
      have mB3 := m3 _ mB
      have R3 := R2.go s3 mB3
      have g3 := hG.over _ _ _ _ s3.goes g2
      refine ⟨N, B, H0, wipeR ρ own2, ρ3, u2, d, R3, hda, hb3, fun σ4 o4 R4 => ⟨o4.wiped sub, N, B, H0, ρ3, u2, (fun (t : Bool) (u5 : Nat) => u5 = u2 ∧ t = true), R4, ⟨rfl, rfl⟩, fun t H5 u5 s5 m5 q5 => ?_⟩⟩
      obtain ⟨rfl, rfl⟩ := q5
      have g5 := hG.over _ _ _ _ s5.goes g3
      refine ⟨N, B, H0, ρ3, u5, _, R4.go s5 m5, w3, fun p vs H6 zs u6 s6 m6 hp hp6 hz q6 => ?_⟩
      have n6 := ((n2.step s3).step s5).step s6
      have frp : H p = none := st2.fresh (s3.fresh (s5.fresh hp))
      have notB : ¬ B p := fun z => ((s3.trans s5).there (trk p z)) hp
      have pP : p ≠ P := fun z => notB ((n2.mem p).mpr (.inr (.inl z)))
      have pas : p ∉ as := fun z => notB ((n2.mem p).mpr (.inr (.inr z)))
      have gp : Goes (Aand B p) (Aand B p) H6 (upd H6 P (.lst (as.map V.ref ++ [V.ref p]))) := goes_put n6.at_ (.inl ((n2.mem P).mpr (.inr (.inl rfl))))
      have gB : Goes B (Aand B p) H5 H6 := goes_and s6 hp
      have st6 := ((st2.trans s3).trans s5).trans s6
      refine ⟨as.map V.ref, n6.at_, szLt (by rw [List.length_map]; omega), Aand B p, as ++ [p], xss ++ [zs], u6, ⟨fun a o h m => ?_, fun a o h m => ?_⟩, ?_, ⟨fun a => ?_, ?_, ?_, ?_, ?_, fun j c hc => ?_⟩, ?_, ?_, ?_, q6⟩
      · rw [upd_ne (ne_of_none h hPH)]; exact st6.keep a o h m
      · obtain ⟨o', h', m'⟩ := st6.ms a o h m
        exact ⟨o', by rw [upd_ne (ne_of_none h hPH)]; exact h', m'⟩
      · have := m6.putA (p := P) (o := .lst (as.map V.ref ++ [V.ref p])) (.inl ((n2.mem P).mpr (.inr (.inl rfl)))) (fun m => m)
        exact this
      · simp only [Aand, n2.mem a, List.mem_append, List.mem_singleton]
        constructor
        · rintro ((h | h | h) | h)
          · exact .inl h
          · exact .inr (.inl h)
          · exact .inr (.inr (.inl h))
          · exact .inr (.inr (.inr h))
        · rintro (h | h | h | h)
          · exact .inl (.inl h)
          · exact .inl (.inr (.inl h))
          · exact .inl (.inr (.inr h))
          · exact .inr h
      · rw [List.mem_append]
        rintro (h | h)
        · exact n2.out h
        · exact pP (by simpa using h : P = p).symm
      · rw [List.nodup_append]
        exact ⟨n2.nd, by simp, fun a ha b hb => by
          have : b = p := by simpa using hb
          rw [this]
          exact fun e => pas (by rw [← e]; exact ha)⟩
      · rw [List.map_append]; exact upd_same
      · rw [List.length_append, List.length_append, n2.len]; rfl
      · by_cases hj : j < as.length
        · rw [List.getElem?_append_left hj] at hc
          obtain ⟨ws, ys, h1, h2, h3⟩ := ((n2.step s3).step s5).row j c hc
          have hcm := List.mem_of_getElem? hc
          have cP : c ≠ P := fun z => n2.out (by rw [← z]; exact hcm)
          exact ⟨ws, ys, by rw [List.getElem?_append_left (by rw [← n2.len]; exact hj)]; exact h1, by rw [upd_ne cP]; exact s6.keep _ _ h2 (fun m => m), (h3.goes gB).goes gp⟩
        · rw [List.getElem?_append_right (by omega)] at hc
          have hj0 : j - as.length = 0 := by
            have := (List.getElem?_eq_some_iff.mp hc).1
            simp at this
            omega
          rw [hj0] at hc
          have ec : p = c := by simpa using hc
          subst ec
          exact ⟨vs, zs, by rw [List.getElem?_append_right (by rw [← n2.len]; omega), ← n2.len, hj0]; rfl, by rw [upd_ne pP]; exact hp6, hz.goes gp⟩
      · intro c hc
        rcases List.mem_append.mp hc with h | h
        · exact fr c h
        · have : c = p := by simpa using h
          rw [this]; exact frp
      · rw [List.length_append]; simp; omega
      · exact hG.over _ _ _ _ gp (hG.over _ _ _ _ gB g5)
    · have e : i = ds.length := by omega
      subst e
      rw [List.drop_length] at w2
      exact .inl ⟨hG.stops _ H2 g2, k B P as H2 xss u2 st2 mB hPH fr n2 w2⟩⟩
theorem Rel.putB {K : PySem.W.Frag} {N B : Addr → Prop} {H0 H : Hp} {σ : L2.St} {ρ : Rho} {u : Nat} (R : Rel K N B H0 σ H ρ u) {c : Addr} {vs vs' : List V} (hc : H c = some (.lst vs)) (hB : B c) (h0 : H0 c = none) (no : ∀ (j : Nat) (xs : List D), ρ[j]? = some (some (SV.own xs)) → σ[j]? ≠ some (some (V.ref c))) : Rel K N B H0 σ (upd H c (.lst vs')) ρ u := by
  have g : Goes B B H (upd H c (.lst vs')) := goes_put hc hB
  exact {
    len := R.len
    step := ⟨fun b o h m => by rw [upd_ne (ne_of_none h h0)]; exact R.step.keep b o h m, fun b o h m => by
      obtain ⟨o', h', m'⟩ := R.step.ms b o h m
      exact ⟨o', by rw [upd_ne (ne_of_none h h0)]; exact h', m'⟩⟩
    minv := R.minv.putA hB (fun m => m)
    sub := R.sub
    trk := fun b h => by
      by_cases q : b = c
      · rw [q, upd_same]; simp
      · rw [upd_ne q]; exact R.trk b h
    ntrk := R.ntrk
    dat := fun j x f => let ⟨v, h1, h2⟩ := R.dat j x f; ⟨v, h1, h2.goes g⟩
    own := fun j ys f => by
      obtain ⟨b, ws, h1, h2, h3, h4, h5⟩ := R.own j ys f
      have nb : b ≠ c := fun z => no j ys f (by rw [h1, z])
      exact ⟨b, ws, h1, by rw [upd_ne nb]; exact h2, h3.goes g, h4, h5⟩
    dis := R.dis }
@[simp] def wNest (i ja jb : Nat) (wn : WN) (wc : WT) (we : WE) (wret wrest : WS) : WS := fun F ρ u => i < ρ.length ∧ wn ρ u fun xss u1 => wc (ρ.set i none) u1 fun t u2 =>
  if t = true then we (ρ.set i none) u2 fun d u3 => ∃ (a b : Nat) (xs : List D), (ρ.set i none)[ja]? = some (some (.d (.int a))) ∧ (ρ.set i none)[jb]? = some (some (.d (.int b))) ∧ xss[a]? = some xs ∧ b < xs.length ∧ wret { F with nx := fun _ _ => False } ((ρ.set i none).set i (some (.d (.list ((xss.set a (xs.set b d)).map .list))))) u3
  else wrest F ((ρ.set i none).set i (some (.d (.list (xss.map .list))))) u2
theorem pssNest {i ja jb : Nat} {st1 st2 : Stmt} {c : Expr} {ret rest : List Stmt} {pos : Pos} {wn : WN} {wc : WT} {we : WE} {wret wrest : WS} (hset : PS X st1 (tAsg (tFF X.K wn) (gName i))) (hc : PT X c (tTe X.K wc))
    (hst : PS X st2 (tAsg (tD X.K we) (gSub (tOp (rIxL X.K) (tVar i) (tVar ja)) (tVar jb) rSetL))) (hret : PSs X ret (tSx X.K W wret)) (hrest : PSs X rest (tSx X.K W wrest)) :
    PSs X (st1 :: .If c (st2 :: ret) [] pos :: rest) (tSx X.K W (wNest i ja jb wn wc we wret wrest)) :=
  PSsi (pss_cons hset (pss_cons (ps_if hc (pss_cons hst hret) pss_nil) hrest)) fun E σ H ⟨N, A, H0, ρ, u, F, R, ⟨hil, hw⟩, k1, k2, k3, k4, k5⟩ =>
    ⟨N, A, H0, ρ, u, _, R, hw, fun B p as H1 xss u1 s1 m1 hp fr n1 q1 => by
      have nA : ¬ A p := R.fresh hp
      have nas : ∀ b ∈ as, ¬ A b := fun b hb => R.fresh (fr b hb)
      have nb : ∀ a, B a → A a ∨ H a = none := fun a h => by
        rcases (n1.mem a).mp h with h | h | h
        · exact .inl h
        · rw [h]; exact .inr hp
        · exact .inr (fr a h)
      have trk : ∀ a, B a → H1 a ≠ none := fun a h => by
        rcases (n1.mem a).mp h with h | h | h
        · exact s1.there (R.trk a h)
        · rw [h, n1.at_]; simp
        · obtain ⟨j, hj⟩ := List.getElem?_of_mem h
          obtain ⟨vs, xs, _, h2, _⟩ := n1.row j a hj
          rw [h2]; simp
      have R1 : Rel X.K N B H0 (σ.set i (some (.ref p))) H1 (ρ.set i none) u1 := (R.grow s1 m1 (fun a h => (n1.mem a).mpr (.inl h)) nb trk []).setAny i _
      have ownA : ∀ (j : Nat) (xs : List D), (ρ.set i none)[j]? = some (some (SV.own xs)) → ∀ a, (σ.set i (some (V.ref p)))[j]? = some (some (V.ref a)) → A a := fun j xs e a ea => by
        by_cases q : i = j
        · subst q
          by_cases hl : i < ρ.length
          · rw [List.getElem?_set_self hl] at e; cases e
          · rw [List.getElem?_eq_none (by rw [List.length_set]; omega)] at e; cases e
        · rw [List.getElem?_set_ne q] at e ea
          obtain ⟨a', vs, h1, _, _, h4, _⟩ := R.own j xs e
          rw [h1] at ea
          have e' : a' = a := by simpa using ea
          rw [← e']; exact h4
      have hi : (σ.set i (some (V.ref p)))[i]? = some (some (V.ref p)) := List.getElem?_set_self (by rw [← R.len]; exact hil)
      refine ⟨N, B, H0, _, u1, _, R1, q1, fun t H2 u2 s2 m2 q2 => ?_⟩
      have R2 := R1.go s2 m2
      have n2 := n1.step s2
      cases t with
      | false =>
        have RD := R2.nestD n2 nA nas R.sub ownA hi
        have gg : Goes A A H H2 := (s1.trans s2).goes
        exact ⟨N, A, H0, _, u2, F, RD, q2, fun A' σ' H' ρ' u' g R' q => k1 _ _ _ _ _ (gg.trans g) R' q, k2, fun A' σ' H' ρ' u' g R' q => k3 _ _ _ _ _ (gg.trans g) R' q, fun A' σ' H' ρ' u' g R' q => k4 _ _ _ _ _ (gg.trans g) R' q, k5⟩
      | true =>
        refine ⟨N, B, H0, _, u2, _, R2, q2, fun v H3 d u3 s3 m3 hd ⟨a, b, xs, ea, eb, hx, hbl, q3⟩ => ?_⟩
        have R3 := R2.go s3 m3
        have n3 := n2.step s3
        obtain ⟨va, ha1, ha2⟩ := R3.dat ja _ ea
        cases ha2
        obtain ⟨vb, hb1, hb2⟩ := R3.dat jb _ eb
        cases hb2
        have hal : a < as.length := by rw [n3.len]; exact (List.getElem?_eq_some_iff.mp hx).1
        obtain ⟨c, hc⟩ : ∃ c, as[a]? = some c := ⟨_, List.getElem?_eq_getElem hal⟩
        obtain ⟨ws, ys, hx', hcs, hda⟩ := n3.row a c hc
        rw [hx] at hx'
        cases hx'
        have hcm := List.mem_of_getElem? hc
        have hBc : B c := (n3.mem c).mpr (.inr (.inr hcm))
        have h0c : H0 c = none := R.step.fresh (fr c hcm)
        have n4 := n3.put (j := b) hc hx hcs hda hd
        have R4 := R3.putB (vs' := ws.set b v) hcs hBc h0c fun j xs e e2 => nas c hcm (ownA j xs e c e2)
        refine ⟨.ref p, hi, .int a, ha1, p, as.map V.ref, a, .ref c, rfl, rfl, .inl (.inl n3.at_), atI_nat (by rw [List.getElem?_map, hc]; rfl), .int b, hb1, c, ws, b, b, rfl, rfl, hcs, (by simp [ixN, hda.length, hbl]), ?_⟩
        have RD := R4.nestD n4 nA nas R.sub ownA hi
        have gg : Goes A A H (upd H3 c (.lst (ws.set b v))) := by
          have g1 : Goes A A H H3 := ((s1.trans s2).trans s3).goes
          refine ⟨fun x o nx h m => ?_, fun x o h m => ?_, fun x h => .inl h⟩
          · rw [upd_ne (ne_of_none h (fr c hcm))]; exact g1.keep x o nx h m
          · obtain ⟨o', h', m'⟩ := g1.ms x o h m
            exact ⟨o', by rw [upd_ne (ne_of_none h (fr c hcm))]; exact h', m'⟩
        exact ⟨N, A, H0, _, u3, _, RD, q3, fun _ _ _ _ _ _ _ q => q.elim, k2, fun A' σ' H' ρ' u' g R' q => k3 _ _ _ _ _ (gg.trans g) R' q, fun A' σ' H' ρ' u' g R' q => k4 _ _ _ _ _ (gg.trans g) R' q, k5⟩⟩
theorem psSetLcN {i : Nat} {y : Str} {py spos : Pos} {elt tg iter : Expr} {scope : Scope} {own : List (Str × Nat)} {pos : Pos} {wi : WA} {is : List Nat} {b : WB} {we : WA} (hN : X.N.Nodup) (hy : X.N[i]? = some y) (hyl : X.env.scope.names.lookup y = some .local) (hsw : swapsWith (.ListComp elt [⟨tg, iter, [], 0⟩] scope pos) (some (.Name y py)) spos.line X.env = pure true) (hc : X.calm = true) (hi : PI X tg iter (tIt X.K wi)) (ok : BlkOk X.N X.env.scope scope own)
    (hg : ∀ (s : Shared) (H : Hp) (C : Addr) (cl : List (Str × Addr)) (fp : List Addr), PG (X.blk s H scope (compEnvC scope cl C X.env) fp) tg (tGt X.K is b))
    (he : ∀ (s : Shared) (H : Hp) (C : Addr) (cl : List (Str × Addr)) (fp : List Addr), PE (X.blk s H scope (compEnvC scope cl C X.env) fp) elt (tF X.K we)) (sub : ∀ i ∈ is, i ∈ own.map (·.2)) (hs : ∀ x, foldedSetIterable iter X.env x = pure x := by intro _; rfl) :
    PS X (.Assign [.Name y py] (.ListComp elt [⟨tg, iter, [], 0⟩] scope pos) spos) (tAsg (tFF X.K (wLcF wi b we (own.map (·.2)))) (gName i)) :=
  PSi (ps_setLc hc hN hy hyl hsw hi ok hg (fun _ _ _ _ _ => ptsN) he hs) fun E σ H h => lc_impN sub σ H _ h
end
end DW

set_option Elab.async false
set_option linter.all false
set_option maxRecDepth 100000
set_option maxHeartbeats 2000000
namespace K10
open PySem PySem.Spec L2 DW
def isNum (v : D) (lo hi : Int) : Bool := match v with
  | .int i => decide (lo ≤ i) && decide (i ≤ hi)
  | _ => false
def isRow (v : D) (n : Int) : Bool := match v with
  | .tuple xs => decide ((xs.length : Int) = n)
  | _ => false
def isNumRow (v : D) (n lo hi : Int) : Bool := match v with
  | .tuple xs => decide ((xs.length : Int) = n) && xs.all (fun x => isNum x lo hi)
  | _ => false
/-- a row that may be asked about -/
def plainRow (v : D) : Prop := plainD v = true ∧ ∀ xs, v = .tuple xs → xs.length < 100000 ∧ ∀ x ∈ xs, plainD x = true
/-- a value that may be asked about -/
def plainTab (v : D) : Prop := plainD v = true ∧ ∀ xs, v = .tuple xs → xs.length < 100000 ∧ ∀ x ∈ xs, plainRow x
def rowOf (T : List (List Nat)) (a : Nat) : List Nat := T.getD a []
def nth (r : List Nat) (b : Nat) : Nat := r.getD b 0
def at2 (T : List (List Nat)) (a b : Nat) : Nat := nth (rowOf T a) b
theorem nth_row {T : List (List Nat)} {a b : Nat} : nth (rowOf T a) b = at2 T a b := rfl
def rowD (r : List Nat) : D := .tuple (r.map fun e => .int (e : Nat))
def tabD (T : List (List Nat)) : D := .tuple (T.map rowD)
def IsTab (T : List (List Nat)) : Prop := 1 ≤ T.length ∧ T.length ≤ 40 ∧ ∀ r ∈ T, r.length = T.length ∧ ∀ e ∈ r, e < T.length
def loopAt (T : List (List Nat)) (a : Nat) : Bool := at2 T 0 a == a && at2 T a 0 == a && (List.range T.length).all fun b => (List.range T.length).all fun c => at2 T (at2 T a b) c == at2 T a (at2 T b c)
def goodT (T : List (List Nat)) : Bool := (List.range T.length).all (loopAt T)
def Good (v : D) : Prop := ∃ T, v = tabD T ∧ IsTab T ∧ goodT T = true
def endsD (n : Nat) : D := .tuple (List.replicate n (.tuple [.int 0, .int 0]))
def worldD (T : List (List Nat)) : D := .tuple [.int 1, endsD T.length, tabD T]
def formB (v : D) : Bool := match v with
  | .tuple xs => decide (1 ≤ xs.length) && decide (xs.length ≤ 40) && xs.all (fun r => isNumRow r xs.length 0 (xs.length - 1))
  | _ => false
abbrev GT (T : List (List Nat)) : Prop := IsTab T ∧ goodT T = true
def W_is_number : WF := fun u ds Q => ∃ v lo hi, ds = [v, .int lo, .int hi] ∧ plainD v = true ∧ Q (.bool (isNum v lo hi)) u
def W_is_row : WF := fun u ds Q => ∃ v n, ds = [v, .int n] ∧ plainD v = true ∧ Q (.bool (isRow v n)) u
def W_is_number_row : WF := fun u ds Q => ∃ v n lo hi, ds = [v, .int n, .int lo, .int hi] ∧ plainRow v ∧ Q (.bool (isNumRow v n lo hi)) u
def W_has_form : WF := fun u ds Q => ∃ T, ds = [worldD T] ∧ IsTab T ∧ Q (.bool true) u
def W_still_breach : WF := fun u ds Q => ∃ T, ds = [worldD T] ∧ IsTab T ∧ Q .none u
def W_does_fit : WF := fun u ds Q => ∃ n f g e : Nat, ds = [endsD n, .int f, .int g, .int e] ∧ f < n ∧ g < n ∧ e < n ∧ Q (.bool true) u
def W_fit_breach : WF := fun u ds Q => ∃ T, ds = [worldD T] ∧ IsTab T ∧ Q .none u
def W_unit_breach : WF := fun u ds Q => ∃ T, ds = [worldD T] ∧ GT T ∧ Q .none u
def W_is_ordered_at : WF := fun u ds Q => ∃ (T : List (List Nat)) (f : Nat), ds = [tabD T, .int f] ∧ GT T ∧ f < T.length ∧ Q (.bool true) u
def W_order_breach : WF := fun u ds Q => ∃ T, ds = [worldD T] ∧ GT T ∧ Q .none u
def W_world_breach : WF := fun u ds Q => ∃ T, ds = [worldD T] ∧ GT T ∧ Q .none u
def W_has_loop_form : WF := fun u ds Q => ∃ v, ds = [v] ∧ plainTab v ∧ Q (.bool (formB v)) u
def W_is_loop_at : WF := fun u ds Q => ∃ (T : List (List Nat)) (a : Nat), ds = [tabD T, .int a] ∧ IsTab T ∧ a < T.length ∧ Q (.bool (loopAt T a)) u
def W__law_begun : WF := fun u ds Q => ∃ ns k, ds = [sD ns, .int k] ∧ 0 ≤ k ∧ k ≤ 4 ∧ ns.length ≤ 63 ∧ Q mD u
def W__law_draw : WF := fun u ds Q => ∃ b, ds = [mD, .int b] ∧ 0 < b ∧ b < 1073741824 ∧ (u : Int) < 1000000000 ∧ ∀ r, 0 ≤ r → r < b → Q (.int r) (u + 1)
def W__law_of : WF := fun u ds Q => ∃ xs, ds = [mD, .list xs] ∧ 0 < xs.length ∧ xs.length < 100000 ∧ (u : Int) < 1000000000 ∧ ∀ x ∈ xs, Q x (u + 1)
def W__law_like : WF := fun u ds Q => ∃ a b, ds = [a, b] ∧ reprOk a = true ∧ reprOk b = true ∧ Q (.bool (decide (a.shown = b.shown))) u
def W__law_loops : WF := fun u ds Q => ∃ T, ds = [tabD T] ∧ IsTab T ∧ Q (worldD T) u
def W_loop_world (c : Value) : WFX := fun u ds Q E => ∃ v, ds = [v] ∧ plainTab v ∧ ((∃ T, v = tabD T ∧ GT T ∧ Q (worldD T) u) ∨ ((¬ ∃ T, v = tabD T ∧ GT T) ∧ E c u))
def W__law_table : WF := fun u ds Q => ds = [mD] ∧ (u : Int) < 900000000 ∧ ∀ T u', GT T → u' ≤ u + 1000 → Q (tabD T) u'
/-- what may come of a bent table -/
def Bent (v : D) : Prop := plainTab v
def W__law_bent : WF := fun u ds Q => ∃ T, ds = [mD, tabD T] ∧ GT T ∧ (u : Int) < 900000000 ∧ ∀ v u', Bent v → u' ≤ u + 1000 → Q v u'
def W__law_good : WF := fun u ds Q => ∃ v, ds = [v] ∧ Bent v ∧ ∀ b, (b = true ↔ ∃ T, v = tabD T ∧ GT T) → Q (.bool b) u
def W__law_heard : WF := fun u ds Q => ∃ v, ds = [v] ∧ plainTab v ∧ ((∃ T, v = tabD T ∧ GT T ∧ Q (.list [worldD T]) u) ∨ ((¬ ∃ T, v = tabD T ∧ GT T) ∧ Q (.str "loops") u))
def W_law : WF := fun u ds Q => ∃ ns, ds = [sD ns] ∧ ns.length ≤ 63 ∧ (u : Int) < 1000 ∧ ∀ u', Q (.bool true) u'
/-! facts -/
theorem rowOf_get {T : List (List Nat)} {a : Nat} (ha : a < T.length) : T[a]? = some (rowOf T a) := by simp [rowOf, List.getD, ha]
theorem nth_get {r : List Nat} {a : Nat} (ha : a < r.length) : r[a]? = some (nth r a) := by simp [nth, List.getD, ha]
theorem rowOf_mem {T : List (List Nat)} {a : Nat} (ha : a < T.length) : rowOf T a ∈ T := List.mem_of_getElem? (rowOf_get ha)
theorem nth_mem {r : List Nat} {a : Nat} (ha : a < r.length) : nth r a ∈ r := List.mem_of_getElem? (nth_get ha)
theorem IsTab.row {T : List (List Nat)} (h : IsTab T) {a : Nat} (ha : a < T.length) : (rowOf T a).length = T.length ∧ ∀ e ∈ rowOf T a, e < T.length := h.2.2 _ (rowOf_mem ha)
theorem IsTab.lt {T : List (List Nat)} (h : IsTab T) {a b : Nat} (ha : a < T.length) (hb : b < T.length) : at2 T a b < T.length :=
  (h.row ha).2 _ (nth_mem (by rw [(h.row ha).1]; exact hb))
theorem fIx_tab {T : List (List Nat)} {a : Nat} {Q : D → Prop} (h : a < T.length) : fIx (tabD T) (.int (a : Nat)) Q = Q (rowD (rowOf T a)) := by
  unfold tabD
  simp only [fIx]
  have e : (T.map rowD)[a]? = some (rowD (rowOf T a)) := by rw [List.getElem?_map, rowOf_get h]; rfl
  rw [atI_nat e]
  exact propext ⟨fun ⟨z, e, q⟩ => by cases e; exact q, fun q => ⟨_, rfl, q⟩⟩
theorem fIx_row {r : List Nat} {b : Nat} {Q : D → Prop} (h : b < r.length) : fIx (rowD r) (.int (b : Nat)) Q = Q (.int (nth r b : Nat)) := by
  unfold rowD
  simp only [fIx]
  have e : (r.map fun e => (PyData.int (e : Nat) : D))[b]? = some (.int (nth r b : Nat)) := by rw [List.getElem?_map, nth_get h]; rfl
  rw [atI_nat e]
  exact propext ⟨fun ⟨z, e, q⟩ => by cases e; exact q, fun q => ⟨_, rfl, q⟩⟩
theorem fIx_tab0 {T : List (List Nat)} {Q : D → Prop} (h : 0 < T.length) : fIx (tabD T) (.int 0) Q = Q (rowD (rowOf T 0)) := fIx_tab (a := 0) h
theorem fIx_row0 {r : List Nat} {Q : D → Prop} (h : 0 < r.length) : fIx (rowD r) (.int 0) Q = Q (.int (nth r 0 : Nat)) := fIx_row (b := 0) h
theorem seqD_row {r : List Nat} {Q : List D → Prop} : seqD (rowD r) Q = Q (r.map fun e => .int (e : Nat)) := rfl
theorem seqD_tab {T : List (List Nat)} {Q : List D → Prop} : seqD (tabD T) Q = Q (T.map rowD) := rfl
theorem fLen_tab {T : List (List Nat)} {Q : D → Prop} : fLen [tabD T] Q = Q (.int (T.length : Nat)) := by simp [tabD]
theorem fLen_ends {n : Nat} {Q : D → Prop} : fLen [endsD n] Q = Q (.int (n : Nat)) := by simp [endsD]
theorem fIx_ends {n a : Nat} {Q : D → Prop} (h : a < n) : fIx (endsD n) (.int (a : Nat)) Q = Q (.tuple [.int 0, .int 0]) := by
  unfold endsD
  simp only [fIx]
  have e : (List.replicate n (PyData.tuple [.int 0, .int 0] : D))[a]? = some (.tuple [.int 0, .int 0]) := by simp [h]
  rw [atI_nat e]
  exact propext ⟨fun ⟨z, e, q⟩ => by cases e; exact q, fun q => ⟨_, rfl, q⟩⟩
theorem fIx_ends0 {n : Nat} {Q : D → Prop} (h : 0 < n) : fIx (endsD n) (.int 0) Q = Q (.tuple [.int 0, .int 0]) := fIx_ends (a := 0) h
theorem fEq_z {neg : Bool} {Q : D → Prop} : fEq neg (.tuple [.int 0, .int 0]) (.tuple [.int 0, .int 0]) Q = Q (.bool (!neg)) := by
  have h1 : SeqAt.shaped (.tuple [.int 0, .int 0]) = true := by decide
  have h2 : PyData.eqv (.tuple [.int 0, .int 0]) (.tuple [.int 0, .int 0]) = true := by decide
  unfold fEq
  rw [h2]
  cases neg <;> exact propext ⟨fun h => h.2.2, fun h => ⟨h1, h1, h⟩⟩
theorem fIx_w0 {T : List (List Nat)} {Q : D → Prop} : fIx (worldD T) (.int 0) Q = Q (.int 1) := by
  unfold worldD
  simp [fIx, atI, ixN]
theorem fIx_w1 {T : List (List Nat)} {Q : D → Prop} : fIx (worldD T) (.int 1) Q = Q (endsD T.length) := by
  unfold worldD
  simp [fIx, atI, ixN]
theorem fIx_w2 {T : List (List Nat)} {Q : D → Prop} : fIx (worldD T) (.int 2) Q = Q (tabD T) := by
  unfold worldD
  simp [fIx, atI, ixN]
theorem fIx_z0 {Q : D → Prop} : fIx (.tuple [.int 0, .int 0]) (.int 0) Q = Q (.int 0) := by simp [fIx, atI, ixN]
theorem fIx_z1 {Q : D → Prop} : fIx (.tuple [.int 0, .int 0]) (.int 1) Q = Q (.int 0) := by simp [fIx, atI, ixN]
theorem fEq_int {n : Bool} {i j : Int} {Q : D → Prop} : fEq n (.int i) (.int j) Q = Q (.bool (if n then !decide (i = j) else decide (i = j))) := by
  unfold fEq
  have h1 : SeqAt.shaped (.int i) = true := rfl
  have h2 : SeqAt.shaped (.int j) = true := rfl
  have h3 : PyData.eqv (.int i) (.int j) = decide (i = j) := by
    unfold PyData.eqv
    by_cases h : i = j <;> simp [h]
  rw [h3]
  exact propext ⟨fun h => h.2.2, fun h => ⟨h1, h2, h⟩⟩
theorem fEq_num {n : Bool} {i j : Nat} {Q : D → Prop} : fEq n (.int (i : Nat)) (.int (j : Nat)) Q = Q (.bool (if n then !decide (i = j) else decide (i = j))) := by
  rw [fEq_int]
  have e : decide ((i : Int) = (j : Int)) = decide (i = j) := decide_eq_decide.mpr Int.ofNat_inj
  rw [e]
theorem loopAt_iff {T : List (List Nat)} {a : Nat} : loopAt T a = true ↔ at2 T 0 a = a ∧ at2 T a 0 = a ∧ ∀ b, b < T.length → ∀ c, c < T.length → at2 T (at2 T a b) c = at2 T a (at2 T b c) := by
  unfold loopAt
  simp only [Bool.and_eq_true, beq_iff_eq, List.all_eq_true, List.mem_range, and_assoc]
theorem goodT_iff {T : List (List Nat)} : goodT T = true ↔ ∀ a, a < T.length → loopAt T a = true := by
  unfold goodT
  simp only [List.all_eq_true, List.mem_range]
theorem en_row {r : List Nat} {i : Nat} {x : D} (h : (enumD (r.map fun e => (.int (e : Nat) : D)))[i]? = some x) : i < r.length ∧ x = .tuple [.int (i : Nat), .int (nth r i : Nat)] := by
  rw [enumD_get, List.getElem?_map] at h
  by_cases hi : i < r.length
  · rw [nth_get hi] at h
    exact ⟨hi, (Option.some.inj h).symm⟩
  · rw [List.getElem?_eq_none (by omega)] at h; cases h
theorem rg_get {n i : Nat} {x : D} (h : (rgD 0 (n : Int))[i]? = some x) : i < n ∧ x = .int (i : Nat) := by
  rw [rgD_get] at h
  by_cases hi : i < n
  · rw [if_pos hi] at h; exact ⟨hi, (Option.some.inj h).symm⟩
  · rw [if_neg hi] at h; cases h
theorem ex2 {α β : Type} {a : α} {b : β} {P : α → β → Prop} : (∃ c d, (a = c ∧ b = d) ∧ P c d) = P a b :=
  propext ⟨fun ⟨c, d, ⟨e, e2⟩, p⟩ => by rw [e, e2]; exact p, fun p => ⟨_, _, ⟨rfl, rfl⟩, p⟩⟩
theorem plain_int {i : Int} : plainD (.int i) = true := rfl
theorem plain_bool {i : Bool} : plainD (.bool i) = true := rfl
theorem rowD_inj {r r' : List Nat} (h : rowD r = rowD r') : r = r' := by
  unfold rowD at h
  have h' := PyData.tuple.inj h
  exact List.map_inj_right (fun x y e => Int.ofNat_inj.mp (PyData.int.inj e)) |>.mp h'
theorem tabD_inj {T T' : List (List Nat)} (h : tabD T = tabD T') : T = T' := by
  unfold tabD at h
  exact List.map_inj_right (fun x y e => rowD_inj e) |>.mp (PyData.tuple.inj h)
theorem worldD_inj {T T' : List (List Nat)} (h : worldD T = worldD T') : T = T' := by
  unfold worldD at h
  have h' := PyData.tuple.inj h
  exact tabD_inj (by simpa using (List.cons.inj (List.cons.inj (List.cons.inj h').2).2).1)
theorem x_is_number {u : Nat} {v : D} {lo hi : Int} {Q : D → Nat → Prop} : W_is_number u [v, .int lo, .int hi] Q = (plainD v = true ∧ Q (.bool (isNum v lo hi)) u) :=
  propext ⟨fun ⟨v, lo, hi, e, h⟩ => by cases e; exact h, fun h => ⟨_, _, _, rfl, h⟩⟩
theorem x_is_row {u : Nat} {v : D} {n : Int} {Q : D → Nat → Prop} : W_is_row u [v, .int n] Q = (plainD v = true ∧ Q (.bool (isRow v n)) u) :=
  propext ⟨fun ⟨v, lo, e, h⟩ => by cases e; exact h, fun h => ⟨_, _, rfl, h⟩⟩
theorem x_is_number_row {u : Nat} {v : D} {n lo hi : Int} {Q : D → Nat → Prop} : W_is_number_row u [v, .int n, .int lo, .int hi] Q = (plainRow v ∧ Q (.bool (isNumRow v n lo hi)) u) :=
  propext ⟨fun ⟨v, n, lo, hi, e, h⟩ => by cases e; exact h, fun h => ⟨_, _, _, _, rfl, h⟩⟩
theorem x_has_form {u : Nat} {T : List (List Nat)} {Q : D → Nat → Prop} : W_has_form u [worldD T] Q = (IsTab T ∧ Q (.bool true) u) :=
  propext ⟨fun ⟨T, e, h⟩ => by rw [worldD_inj (List.cons.inj e).1]; exact h, fun h => ⟨_, rfl, h⟩⟩
theorem x_still {u : Nat} {T : List (List Nat)} {Q : D → Nat → Prop} : W_still_breach u [worldD T] Q = (IsTab T ∧ Q .none u) :=
  propext ⟨fun ⟨T, e, h⟩ => by rw [worldD_inj (List.cons.inj e).1]; exact h, fun h => ⟨_, rfl, h⟩⟩
theorem x_fit {u : Nat} {T : List (List Nat)} {Q : D → Nat → Prop} : W_fit_breach u [worldD T] Q = (IsTab T ∧ Q .none u) :=
  propext ⟨fun ⟨T, e, h⟩ => by rw [worldD_inj (List.cons.inj e).1]; exact h, fun h => ⟨_, rfl, h⟩⟩
theorem x_unit {u : Nat} {T : List (List Nat)} {Q : D → Nat → Prop} : W_unit_breach u [worldD T] Q = (GT T ∧ Q .none u) :=
  propext ⟨fun ⟨T, e, h⟩ => by rw [worldD_inj (List.cons.inj e).1]; exact h, fun h => ⟨_, rfl, h⟩⟩
theorem x_order {u : Nat} {T : List (List Nat)} {Q : D → Nat → Prop} : W_order_breach u [worldD T] Q = (GT T ∧ Q .none u) :=
  propext ⟨fun ⟨T, e, h⟩ => by rw [worldD_inj (List.cons.inj e).1]; exact h, fun h => ⟨_, rfl, h⟩⟩
theorem x_world_breach {u : Nat} {T : List (List Nat)} {Q : D → Nat → Prop} : W_world_breach u [worldD T] Q = (GT T ∧ Q .none u) :=
  propext ⟨fun ⟨T, e, h⟩ => by rw [worldD_inj (List.cons.inj e).1]; exact h, fun h => ⟨_, rfl, h⟩⟩
theorem x_is_ordered_at {u f : Nat} {T : List (List Nat)} {Q : D → Nat → Prop} : W_is_ordered_at u [tabD T, .int f] Q = (GT T ∧ f < T.length ∧ Q (.bool true) u) :=
  propext ⟨fun ⟨T, f, e, h⟩ => by
    have e1 := tabD_inj (List.cons.inj e).1
    have e2 := Int.ofNat_inj.mp (PyData.int.inj (List.cons.inj (List.cons.inj e).2).1)
    rw [e1, e2]; exact h, fun h => ⟨_, _, rfl, h⟩⟩
theorem x_does_fit {u n f g e : Nat} {Q : D → Nat → Prop} (h1 : f < n) (h2 : g < n) (h3 : e < n) (q : Q (.bool true) u) : W_does_fit u [endsD n, .int f, .int g, .int e] Q := ⟨n, f, g, e, rfl, h1, h2, h3, q⟩
theorem x_has_loop_form {u : Nat} {v : D} {Q : D → Nat → Prop} : W_has_loop_form u [v] Q = (plainTab v ∧ Q (.bool (formB v)) u) :=
  propext ⟨fun ⟨v, e, h⟩ => by cases e; exact h, fun h => ⟨_, rfl, h⟩⟩
theorem x_is_loop_at {u a : Nat} {T : List (List Nat)} {Q : D → Nat → Prop} : W_is_loop_at u [tabD T, .int a] Q = (IsTab T ∧ a < T.length ∧ Q (.bool (loopAt T a)) u) :=
  propext ⟨fun ⟨T, f, e, h⟩ => by
    have e1 := tabD_inj (List.cons.inj e).1
    have e2 := Int.ofNat_inj.mp (PyData.int.inj (List.cons.inj (List.cons.inj e).2).1)
    rw [e1, e2]; exact h, fun h => ⟨_, _, rfl, h⟩⟩
theorem isNum_iff {v : D} {lo hi : Int} : isNum v lo hi = true ↔ ∃ i, v = .int i ∧ lo ≤ i ∧ i ≤ hi := by
  unfold isNum
  split
  · simp
  · rename_i h
    exact ⟨fun e => (by cases e), fun ⟨i, e, _⟩ => (h i e).elim⟩
theorem numRow_iff {v : D} {k : Nat} : isNumRow v (k : Nat) 0 ((k : Int) - 1) = true ↔ ∃ r : List Nat, v = rowD r ∧ r.length = k ∧ ∀ e ∈ r, e < k := by
  constructor
  · intro h
    unfold isNumRow at h
    split at h
    case h_2 => cases h
    rename_i xs
    simp only [Bool.and_eq_true, decide_eq_true_eq, List.all_eq_true] at h
    obtain ⟨h1, h2⟩ := h
    have key : ∀ ys : List D, (∀ x ∈ ys, isNum x 0 ((k : Int) - 1) = true) → ∃ r : List Nat, ys = r.map (fun e => .int (e : Nat)) ∧ ∀ e ∈ r, e < k := by
      intro ys
      induction ys with
      | nil => exact fun _ => ⟨[], rfl, by simp⟩
      | cons y ys ih =>
        intro h
        obtain ⟨i, e, l1, l2⟩ := isNum_iff.1 (h y List.mem_cons_self)
        obtain ⟨r, e2, h3⟩ := ih fun x hx => h x (List.mem_cons_of_mem _ hx)
        refine ⟨i.toNat :: r, ?_, ?_⟩
        · rw [e, e2, List.map_cons]
          have : ((i.toNat : Nat) : Int) = i := by omega
          rw [this]
        · intro z hz
          rcases List.mem_cons.mp hz with rfl | hz
          · omega
          · exact h3 z hz
    obtain ⟨r, e, h3⟩ := key xs h2
    exact ⟨r, by rw [e]; rfl, by rw [e, List.length_map] at h1; omega, h3⟩
  · rintro ⟨r, rfl, h1, h2⟩
    simp [isNumRow, rowD, h1, isNum]
    intro x hx
    have := h2 x hx
    omega
theorem formB_iff {v : D} : formB v = true ↔ ∃ T, v = tabD T ∧ IsTab T := by
  constructor
  · intro h
    unfold formB at h
    split at h
    case h_2 => cases h
    rename_i xs
    simp only [Bool.and_eq_true, decide_eq_true_eq, List.all_eq_true] at h
    obtain ⟨⟨h1, h1'⟩, h2⟩ := h
    have key : ∀ ys : List D, (∀ x ∈ ys, isNumRow x (xs.length : Nat) 0 ((xs.length : Int) - 1) = true) → ∃ T : List (List Nat), ys = T.map rowD ∧ ∀ r ∈ T, r.length = xs.length ∧ ∀ e ∈ r, e < xs.length := by
      intro ys
      induction ys with
      | nil => exact fun _ => ⟨[], rfl, by simp⟩
      | cons y ys ih =>
        intro h
        obtain ⟨r, e, l1, l2⟩ := numRow_iff.1 (h y List.mem_cons_self)
        obtain ⟨T, e2, h3⟩ := ih fun x hx => h x (List.mem_cons_of_mem _ hx)
        refine ⟨r :: T, by rw [e, e2, List.map_cons], ?_⟩
        intro z hz
        rcases List.mem_cons.mp hz with rfl | hz
        · exact ⟨l1, l2⟩
        · exact h3 z hz
    obtain ⟨T, e, h3⟩ := key xs h2
    have hl : T.length = xs.length := by rw [e]; simp
    exact ⟨T, by rw [e]; rfl, by omega, by omega, by rw [hl]; exact h3⟩
  · rintro ⟨T, rfl, h1, h2, h3⟩
    unfold formB tabD
    simp only [Bool.and_eq_true, decide_eq_true_eq, List.all_eq_true, List.length_map]
    refine ⟨⟨h1, h2⟩, fun x hx => ?_⟩
    obtain ⟨r, hr, rfl⟩ := List.mem_map.mp hx
    exact numRow_iff.2 ⟨r, rfl, h3 r hr⟩
/-- facts of a table that is good -/
theorem GT.unit0 {T : List (List Nat)} (h : GT T) {f : Nat} (hf : f < T.length) : at2 T 0 f = f := (loopAt_iff.1 (goodT_iff.1 h.2 f hf)).1
theorem GT.unit1 {T : List (List Nat)} (h : GT T) {f : Nat} (hf : f < T.length) : at2 T f 0 = f := (loopAt_iff.1 (goodT_iff.1 h.2 f hf)).2.1
theorem GT.assoc {T : List (List Nat)} (h : GT T) {a b c : Nat} (ha : a < T.length) (hb : b < T.length) (hc : c < T.length) : at2 T (at2 T a b) c = at2 T a (at2 T b c) := (loopAt_iff.1 (goodT_iff.1 h.2 a ha)).2.2 b hb c hc
end K10

set_option Elab.async false
set_option linter.all false
set_option maxRecDepth 100000
set_option maxHeartbeats 4000000
namespace K10
open PySem PySem.Spec PyProof.Rows L2 DW
def topS (i : Nat) : Stmt := PySem.Challenge.pw_arrowworlds_k10_whole_worlds_of_one_thin.main.body.getD i (.Pass ⟨0, 0, 0, 0⟩)
abbrev s_is_number : Stmt := topS 6
abbrev s_is_row : Stmt := topS 7
abbrev s_is_number_row : Stmt := topS 8
abbrev s_has_form : Stmt := topS 12
abbrev s_still_breach : Stmt := topS 13
abbrev s_does_fit : Stmt := topS 14
abbrev s_fit_breach : Stmt := topS 15
abbrev s_unit_breach : Stmt := topS 16
abbrev s_is_ordered_at : Stmt := topS 17
abbrev s_order_breach : Stmt := topS 18
abbrev s_world_breach : Stmt := topS 19
abbrev s_has_loop_form : Stmt := topS 21
abbrev s_is_loop_at : Stmt := topS 22
abbrev s_loop_world : Stmt := topS 23
abbrev s__law_begun : Stmt := topS 25
abbrev s__law_draw : Stmt := topS 26
abbrev s__law_of : Stmt := topS 27
abbrev s__law_like : Stmt := topS 28
abbrev s__law_loops : Stmt := topS 29
abbrev s__law_good : Stmt := topS 30
abbrev s__law_table : Stmt := topS 31
abbrev s__law_bent : Stmt := topS 32
abbrev s__law_heard : Stmt := topS 33
abbrev s_law : Stmt := topS 34
structure Txt (K : PySem.W.Frag) (mg : Str → Option Value) where
  f_is_number : Addr
  fd_is_number : FuncData
  F_is_number : Fun K "is_number" "is_number" s_is_number f_is_number fd_is_number
  g_is_number : mg "is_number" = some (.ref f_is_number)
  b_is_number : Binds K fd_is_number ["value", "low", "high"] []
  f_is_row : Addr
  fd_is_row : FuncData
  F_is_row : Fun K "is_row" "is_row" s_is_row f_is_row fd_is_row
  g_is_row : mg "is_row" = some (.ref f_is_row)
  b_is_row : Binds K fd_is_row ["value", "many"] []
  f_is_number_row : Addr
  fd_is_number_row : FuncData
  F_is_number_row : Fun K "is_number_row" "is_number_row" s_is_number_row f_is_number_row fd_is_number_row
  g_is_number_row : mg "is_number_row" = some (.ref f_is_number_row)
  b_is_number_row : Binds K fd_is_number_row ["value", "many", "low", "high"] []
  f_has_form : Addr
  fd_has_form : FuncData
  F_has_form : Fun K "has_form" "has_form" s_has_form f_has_form fd_has_form
  g_has_form : mg "has_form" = some (.ref f_has_form)
  b_has_form : Binds K fd_has_form ["value"] []
  f_still_breach : Addr
  fd_still_breach : FuncData
  F_still_breach : Fun K "still_breach" "still_breach" s_still_breach f_still_breach fd_still_breach
  g_still_breach : mg "still_breach" = some (.ref f_still_breach)
  b_still_breach : Binds K fd_still_breach ["world"] []
  f_does_fit : Addr
  fd_does_fit : FuncData
  F_does_fit : Fun K "does_fit" "does_fit" s_does_fit f_does_fit fd_does_fit
  g_does_fit : mg "does_fit" = some (.ref f_does_fit)
  b_does_fit : Binds K fd_does_fit ["ends", "f", "g", "entry"] []
  f_fit_breach : Addr
  fd_fit_breach : FuncData
  F_fit_breach : Fun K "fit_breach" "fit_breach" s_fit_breach f_fit_breach fd_fit_breach
  g_fit_breach : mg "fit_breach" = some (.ref f_fit_breach)
  b_fit_breach : Binds K fd_fit_breach ["world"] []
  f_unit_breach : Addr
  fd_unit_breach : FuncData
  F_unit_breach : Fun K "unit_breach" "unit_breach" s_unit_breach f_unit_breach fd_unit_breach
  g_unit_breach : mg "unit_breach" = some (.ref f_unit_breach)
  b_unit_breach : Binds K fd_unit_breach ["world"] []
  f_is_ordered_at : Addr
  fd_is_ordered_at : FuncData
  F_is_ordered_at : Fun K "is_ordered_at" "is_ordered_at" s_is_ordered_at f_is_ordered_at fd_is_ordered_at
  g_is_ordered_at : mg "is_ordered_at" = some (.ref f_is_ordered_at)
  b_is_ordered_at : Binds K fd_is_ordered_at ["table", "f"] []
  f_order_breach : Addr
  fd_order_breach : FuncData
  F_order_breach : Fun K "order_breach" "order_breach" s_order_breach f_order_breach fd_order_breach
  g_order_breach : mg "order_breach" = some (.ref f_order_breach)
  b_order_breach : Binds K fd_order_breach ["world"] []
  f_world_breach : Addr
  fd_world_breach : FuncData
  F_world_breach : Fun K "world_breach" "world_breach" s_world_breach f_world_breach fd_world_breach
  g_world_breach : mg "world_breach" = some (.ref f_world_breach)
  b_world_breach : Binds K fd_world_breach ["value"] []
  f_has_loop_form : Addr
  fd_has_loop_form : FuncData
  F_has_loop_form : Fun K "has_loop_form" "has_loop_form" s_has_loop_form f_has_loop_form fd_has_loop_form
  g_has_loop_form : mg "has_loop_form" = some (.ref f_has_loop_form)
  b_has_loop_form : Binds K fd_has_loop_form ["rows"] []
  f_is_loop_at : Addr
  fd_is_loop_at : FuncData
  F_is_loop_at : Fun K "is_loop_at" "is_loop_at" s_is_loop_at f_is_loop_at fd_is_loop_at
  g_is_loop_at : mg "is_loop_at" = some (.ref f_is_loop_at)
  b_is_loop_at : Binds K fd_is_loop_at ["rows", "a"] []
  f_loop_world : Addr
  fd_loop_world : FuncData
  F_loop_world : Fun K "loop_world" "loop_world" s_loop_world f_loop_world fd_loop_world
  g_loop_world : mg "loop_world" = some (.ref f_loop_world)
  b_loop_world : Binds K fd_loop_world ["rows"] []
  f__law_begun : Addr
  fd__law_begun : FuncData
  F__law_begun : Fun K "_law_begun" "_law_begun" s__law_begun f__law_begun fd__law_begun
  g__law_begun : mg "_law_begun" = some (.ref f__law_begun)
  b__law_begun : Binds K fd__law_begun ["script", "k"] []
  f__law_draw : Addr
  fd__law_draw : FuncData
  F__law_draw : Fun K "_law_draw" "_law_draw" s__law_draw f__law_draw fd__law_draw
  g__law_draw : mg "_law_draw" = some (.ref f__law_draw)
  b__law_draw : Binds K fd__law_draw ["m", "bound"] []
  f__law_of : Addr
  fd__law_of : FuncData
  F__law_of : Fun K "_law_of" "_law_of" s__law_of f__law_of fd__law_of
  g__law_of : mg "_law_of" = some (.ref f__law_of)
  b__law_of : Binds K fd__law_of ["m", "some"] []
  f__law_like : Addr
  fd__law_like : FuncData
  F__law_like : Fun K "_law_like" "_law_like" s__law_like f__law_like fd__law_like
  g__law_like : mg "_law_like" = some (.ref f__law_like)
  b__law_like : Binds K fd__law_like ["got", "due"] []
  f__law_loops : Addr
  fd__law_loops : FuncData
  F__law_loops : Fun K "_law_loops" "_law_loops" s__law_loops f__law_loops fd__law_loops
  g__law_loops : mg "_law_loops" = some (.ref f__law_loops)
  b__law_loops : Binds K fd__law_loops ["rows_so"] []
  f__law_good : Addr
  fd__law_good : FuncData
  F__law_good : Fun K "_law_good" "_law_good" s__law_good f__law_good fd__law_good
  g__law_good : mg "_law_good" = some (.ref f__law_good)
  b__law_good : Binds K fd__law_good ["value"] []
  f__law_table : Addr
  fd__law_table : FuncData
  F__law_table : Fun K "_law_table" "_law_table" s__law_table f__law_table fd__law_table
  g__law_table : mg "_law_table" = some (.ref f__law_table)
  b__law_table : Binds K fd__law_table ["m"] []
  f__law_bent : Addr
  fd__law_bent : FuncData
  F__law_bent : Fun K "_law_bent" "_law_bent" s__law_bent f__law_bent fd__law_bent
  g__law_bent : mg "_law_bent" = some (.ref f__law_bent)
  b__law_bent : Binds K fd__law_bent ["m", "table"] []
  f__law_heard : Addr
  fd__law_heard : FuncData
  F__law_heard : Fun K "_law_heard" "_law_heard" s__law_heard f__law_heard fd__law_heard
  g__law_heard : mg "_law_heard" = some (.ref f__law_heard)
  b__law_heard : Binds K fd__law_heard ["value"] []
  f_law : Addr
  fd_law : FuncData
  F_law : Fun K "law" "law" s_law f_law fd_law
  g_law : mg "law" = some (.ref f_law)
  b_law : Binds K fd_law ["script"] []
  t_MOST_THINGS : Tok
  c_MOST_THINGS : mg "MOST_THINGS" = some (.int 8 t_MOST_THINGS)
  t_MOST_ARROWS : Tok
  c_MOST_ARROWS : mg "MOST_ARROWS" = some (.int 40 t_MOST_ARROWS)
  n_loop_world : NBinds K fd_loop_world ["rows"] ["rows"] id
  a_WorldError : Addr
  xg_WorldError : mg "WorldError" = some (.ref a_WorldError)
  xk_WorldError : PySem.W.keepIn K (.ref a_WorldError) = true
  a_TooMany : Addr
  xg_TooMany : mg "TooMany" = some (.ref a_TooMany)
  xk_TooMany : PySem.W.keepIn K (.ref a_TooMany) = true
  a_NotOrder : Addr
  xg_NotOrder : mg "NotOrder" = some (.ref a_NotOrder)
  xk_NotOrder : PySem.W.keepIn K (.ref a_NotOrder) = true
  a_NotLoops : Addr
  xg_NotLoops : mg "NotLoops" = some (.ref a_NotLoops)
  xk_NotLoops : PySem.W.keepIn K (.ref a_NotLoops) = true
  xq_NotLoops : PySem.W.excIn K a_NotLoops [.type "ValueError", .type "Exception", .type "BaseException", .type "object"] "ValueError.__new__" = true
  xs_NotLoops : PySem.W.subIn K (.ref a_NotLoops) (.type "BaseException") = some true
  xt_NotLoops : PySem.W.typeIn K (.ref a_NotLoops) = some (.type "type")
  m_len : mg "len" = none
  m_type : mg "type" = none
  m_int : mg "int" = none
  m_tuple : mg "tuple" = none
  m_list : mg "list" = none
  m_range : mg "range" = none
  m_enumerate : mg "enumerate" = none
  m_max : mg "max" = none
  m_min : mg "min" = none
  m_all : mg "all" = none
  m_any : mg "any" = none
  m_repr : mg "repr" = none
  m_isinstance : mg "isinstance" = none
  m_bool : mg "bool" = none
  m_str : mg "str" = none
abbrev Txt.c_WorldError {K : PySem.W.Frag} {mg : Str → Option Value} (T : Txt K mg) : Value := .ref T.a_WorldError
abbrev Txt.c_TooMany {K : PySem.W.Frag} {mg : Str → Option Value} (T : Txt K mg) : Value := .ref T.a_TooMany
abbrev Txt.c_NotOrder {K : PySem.W.Frag} {mg : Str → Option Value} (T : Txt K mg) : Value := .ref T.a_NotOrder
abbrev Txt.c_NotLoops {K : PySem.W.Frag} {mg : Str → Option Value} (T : Txt K mg) : Value := .ref T.a_NotLoops
section
variable {P : Program} {w : World} {K : PySem.W.Frag} {mg : Str → Option Value} {base : Heap}
theorem Txt.g_MOST_THINGS (T : Txt K mg) : RelV (.int 8) (.int 8 T.t_MOST_THINGS) ∧ mg "MOST_THINGS" = some (.int 8 T.t_MOST_THINGS) := ⟨⟨_, rfl⟩, T.c_MOST_THINGS⟩
theorem Txt.g_MOST_ARROWS (T : Txt K mg) : RelV (.int 40) (.int 40 T.t_MOST_ARROWS) ∧ mg "MOST_ARROWS" = some (.int 40 T.t_MOST_ARROWS) := ⟨⟨_, rfl⟩, T.c_MOST_ARROWS⟩
theorem sc_is_number : FnScope ["value", "low", "high"] ["value", "low", "high"] (defScope s_is_number) := ⟨rfl, rfl, rfl, by decide +kernel, rfl, by decide +kernel, by decide +kernel⟩
def w_is_number : WS := (wRet (wAnd (wTyIs "int" false (wVar 0)) (w3 fLe fLe (wVar 1) (wVar 0) (wVar 2))))
theorem der_is_number (T : Txt K mg) : ∀ (cdv : Value) (A : Around) (outer : List Env) (s : Shared) (H : Hp) (E : XK), Room 0 (A.deeper (envOfC "is_number" (defScope s_is_number) s.heap.objs.size T.f_is_number cdv)) → PSs (cxOf CX0 P w K mg base ["value", "low", "high"] "is_number" (defScope s_is_number) T.f_is_number cdv A outer s H E).nox (defBody s_is_number) (tSt K (w_is_number)) :=
  fun cdv A outer s H E hr => have hu := hr.units; have hu5 := units65 hr; (pssOne (psRet (pb (pAnd (pTyIs (by rfl) T.m_type (by rfl) T.m_int boot_int (pnB (pv 0))) (pOne (pCh od_B0 od_B0 (pe_chain op_le op_le (pnB (pv 1)) (pnB (pv 0)) (pnB (pv 2)))))))))

theorem sc_is_row : FnScope ["value", "many"] ["value", "many"] (defScope s_is_row) := ⟨rfl, rfl, rfl, by decide +kernel, rfl, by decide +kernel, by decide +kernel⟩
def w_is_row : WS := (wRet (wAnd (wTyIs "tuple" false (wVar 0)) (w2 (fEq false) (wCall fLen (waCons (wVar 0) waNil)) (wVar 1))))
theorem der_is_row (T : Txt K mg) : ∀ (cdv : Value) (A : Around) (outer : List Env) (s : Shared) (H : Hp) (E : XK), Room 0 (A.deeper (envOfC "is_row" (defScope s_is_row) s.heap.objs.size T.f_is_row cdv)) → PSs (cxOf CX0 P w K mg base ["value", "many"] "is_row" (defScope s_is_row) T.f_is_row cdv A outer s H E).nox (defBody s_is_row) (tSt K (w_is_row)) :=
  fun cdv A outer s H E hr => have hu := hr.units; have hu5 := units65 hr; (pssOne (psRet (pb (pAnd (pTyIs (by rfl) T.m_type (by rfl) T.m_tuple boot_tuple (pnB (pv 0))) (pOne (pCmp (op_eqD hu) od_eq (pb (pLen rfl (by rfl) T.m_len (pnB (pv 0)))) (pnB (pv 1)) (nomark _)))))))

theorem sc_is_number_row : FnScope ["value", "many", "low", "high", "entry"] ["value", "many", "low", "high"] (defScope s_is_number_row) := ⟨rfl, rfl, rfl, by decide +kernel, rfl, by decide +kernel, by decide +kernel⟩
def w_is_number_row : WS := (wRet (wAnd (wFn W_is_row (waCons (wVarD 0) (waCons (wVarD 1) waNil))) (wCall (fAll fun bs => bs.all id) (waCons (wfD (wLc (wi1 (wVarD 0)) (bName 4) wTy (wFn W_is_number (waCons (wVarD 4) (waCons (wVarD 2) (waCons (wVarD 3) waNil)))) [4])) waNil))))
theorem der_is_number_row (T : Txt K mg) (G_is_number : FnOk P w K mg base CX0 1 T.f_is_number T.fd_is_number ["value", "low", "high"] (spD K W_is_number)) (G_is_row : FnOk P w K mg base CX0 1 T.f_is_row T.fd_is_row ["value", "many"] (spD K W_is_row)) : ∀ (cdv : Value) (A : Around) (outer : List Env) (s : Shared) (H : Hp) (E : XK), Room 1 (A.deeper (envOfC "is_number_row" (defScope s_is_number_row) s.heap.objs.size T.f_is_number_row cdv)) → PSs (cxOf CX0 P w K mg base ["value", "many", "low", "high", "entry"] "is_number_row" (defScope s_is_number_row) T.f_is_number_row cdv A outer s H E).nox (defBody s_is_number_row) (tSt K (w_is_number_row)) :=
  fun cdv A outer s H E hr => have hu := hr.units; have hu5 := units65 hr; (pssOne (psRet (pb (pAnd (pFn G_is_row (hr.mono (by decide)) (by rfl) T.g_is_row T.F_is_row.kp T.b_is_row (paC (pnD (pv 0)) (paC (pnD (pv 1)) paN))) (pOne (pB1 (cr_all rfl) cd_all (by rfl) T.m_all boot_all (pb (pf (pLc (own := [("entry", 4)]) rfl sc_is_number_row.nd (piSeq (pnD (pv 0))) (blkOk_by (by kernel_rfl)) (fun _ _ _ _ _ => (pgName (pg_name (i := 4) sc_is_number_row.nd rfl (by first | exact Or.inl rfl | exact Or.inr rfl)))) (fun _ _ _ _ _ => ptsN) (fun _ _ _ _ _ => (pFn G_is_number (hr.mono (by decide)) (by rfl) T.g_is_number T.F_is_number.kp T.b_is_number (paC (pnD (pv 4)) (paC (pnD (pv 2)) (paC (pnD (pv 3)) paN))))) (by decide))))))))))

theorem sc_has_form : FnScope ["value", "m", "n", "ends", "table", "row", "pair"] ["value"] (defScope s_has_form) := ⟨rfl, rfl, rfl, by decide +kernel, rfl, by decide +kernel, by decide +kernel⟩
def w_has_form : WS := (wSeq (wIfS (wtNot (wTst (wFn W_is_row (waCons (wVarD 0) (waCons (wC (.int 3)) waNil))))) (wRet (wC (.bool false))) wNil) (wSeq (wUnp (bTup (bCons (bName 2) (bCons (bName 3) (bCons (bName 4) bNil)))) (wVarD 0)) (wSeq (wIfS (wtOr (wtNot (wTst (wFn W_is_number (waCons (wVarD 2) (waCons (wC (.int 0)) (waCons (wC (.int 8)) waNil)))))) (wTst (wTyIs "tuple" true (wVar 3)))) (wRet (wC (.bool false))) wNil) (wSeq (wSetD 1 (wCall fLen (waCons (wVar 3) waNil))) (wSeq (wIfS (wtOr (wtNot (wTst (w3 fLe fLe (wVar 2) (wVar 1) (wC (.int 40))))) (wtNot (wTst (wFn W_is_row (waCons (wVarD 4) (waCons (wVarD 1) waNil)))))) (wRet (wC (.bool false))) wNil) (wSeq (wIfS (wtNot (wTst (wCall (fAll fun bs => bs.all id) (waCons (wfD (wLc (wi1 (wVarD 3)) (bName 6) wTy (wFn W_is_number_row (waCons (wVarD 6) (waCons (wC (.int 2)) (waCons (wC (.int 0)) (waCons (w2 fSub (wVar 2) (wC (.int 1))) waNil))))) [6])) waNil)))) (wRet (wC (.bool false))) wNil) (wRet (wCall (fAll fun bs => bs.all id) (waCons (wfD (wLc (wi1 (wVarD 4)) (bName 5) wTy (wFn W_is_number_row (waCons (wVarD 5) (waCons (wVarD 1) (waCons (wNeg (wC (.int 1))) (waCons (w2 fSub (wVar 1) (wC (.int 1))) waNil))))) [5])) waNil)))))))))
theorem der_has_form (T : Txt K mg) (G_is_number : FnOk P w K mg base CX0 1 T.f_is_number T.fd_is_number ["value", "low", "high"] (spD K W_is_number)) (G_is_number_row : FnOk P w K mg base CX0 2 T.f_is_number_row T.fd_is_number_row ["value", "many", "low", "high"] (spD K W_is_number_row)) (G_is_row : FnOk P w K mg base CX0 1 T.f_is_row T.fd_is_row ["value", "many"] (spD K W_is_row)) : ∀ (cdv : Value) (A : Around) (outer : List Env) (s : Shared) (H : Hp) (E : XK), Room 2 (A.deeper (envOfC "has_form" (defScope s_has_form) s.heap.objs.size T.f_has_form cdv)) → PSs (cxOf CX0 P w K mg base ["value", "m", "n", "ends", "table", "row", "pair"] "has_form" (defScope s_has_form) T.f_has_form cdv A outer s H E).nox (defBody s_has_form) (tSt K (w_has_form)) :=
  fun cdv A outer s H E hr => have hu := hr.units; have hu5 := units65 hr; (pssCons (psIf (ptNot (ptV (pFn G_is_row (hr.mono (by decide)) (by rfl) T.g_is_row T.F_is_row.kp T.b_is_row (paC (pnD (pv 0)) (paC (pcI pe_int) paN))))) (pssOne (psRet (pb (pcB pe_bl)))) pssNil) (pssCons (psUnp (ps_asg (pnD (pv 0)) (pgTup rfl (pgCons (pgName (pg_name (i := 2) sc_has_form.nd rfl (by first | exact Or.inl rfl | exact Or.inr rfl))) (pgCons (pgName (pg_name (i := 3) sc_has_form.nd rfl (by first | exact Or.inl rfl | exact Or.inr rfl))) (pgCons (pgName (pg_name (i := 4) sc_has_form.nd rfl (by first | exact Or.inl rfl | exact Or.inr rfl))) pgNil))) rfl rfl (bCons_len (bCons_len (bCons_len bNil_len)))))) (pssCons (psIf (PW.pt (ptOr (ptNot (ptV (pFn G_is_number (hr.mono (by decide)) (by rfl) T.g_is_number T.F_is_number.kp T.b_is_number (paC (pnD (pv 2)) (paC (pcI pe_int) (paC (pcI (pe_glob (by rfl) T.g_MOST_THINGS.2 (T.g_MOST_THINGS.1))) paN)))))) (ptOr1 (ptTyNot (by rfl) T.m_type (by rfl) T.m_tuple boot_tuple (pnB (pv 3)))))) (pssOne (psRet (pb (pcB pe_bl)))) pssNil) (pssCons (psSetD (ps_set (i := 1) sc_has_form.nd rfl (by first | exact Or.inl rfl | exact Or.inr rfl) (pLen rfl (by rfl) T.m_len (pnB (pv 3))))) (pssCons (psIf (PW.pt (ptOr (ptNot (ptCh od_B0 od_B0 (pt_chain op_le op_le (pnB (pv 2)) (pnB (pv 1)) (pb (pcI (pe_glob (by rfl) T.g_MOST_ARROWS.2 (T.g_MOST_ARROWS.1))))))) (ptOr1 (ptNot (ptV (pFn G_is_row (hr.mono (by decide)) (by rfl) T.g_is_row T.F_is_row.kp T.b_is_row (paC (pnD (pv 4)) (paC (pnD (pv 1)) paN)))))))) (pssOne (psRet (pb (pcB pe_bl)))) pssNil) (pssCons (psIf (ptNot (ptV (pB1 (cr_all rfl) cd_all (by rfl) T.m_all boot_all (pb (pf (pLc (own := [("pair", 6)]) rfl sc_has_form.nd (piSeq (pnD (pv 3))) (blkOk_by (by kernel_rfl)) (fun _ _ _ _ _ => (pgName (pg_name (i := 6) sc_has_form.nd rfl (by first | exact Or.inl rfl | exact Or.inr rfl)))) (fun _ _ _ _ _ => ptsN) (fun _ _ _ _ _ => (pFn G_is_number_row (hr.mono (by decide)) (by rfl) T.g_is_number_row T.F_is_number_row.kp T.b_is_number_row (paC (pnD (pv 6)) (paC (pcI pe_int) (paC (pcI pe_int) (paC (pBin op_sub od_I0 (pnB (pv 2)) (pb (pcI pe_int))) paN)))))) (by decide))))))) (pssOne (psRet (pb (pcB pe_bl)))) pssNil) (pssOne (psRet (pb (pB1 (cr_all rfl) cd_all (by rfl) T.m_all boot_all (pb (pf (pLc (own := [("row", 5)]) rfl sc_has_form.nd (piSeq (pnD (pv 4))) (blkOk_by (by kernel_rfl)) (fun _ _ _ _ _ => (pgName (pg_name (i := 5) sc_has_form.nd rfl (by first | exact Or.inl rfl | exact Or.inr rfl)))) (fun _ _ _ _ _ => ptsN) (fun _ _ _ _ _ => (pFn G_is_number_row (hr.mono (by decide)) (by rfl) T.g_is_number_row T.F_is_number_row.kp T.b_is_number_row (paC (pnD (pv 5)) (paC (pnD (pv 1)) (paC (pNeg (pcI pe_int)) (paC (pBin op_sub od_I0 (pnB (pv 1)) (pb (pcI pe_int))) paN)))))) (by decide))))))))))))))

theorem sc_still_breach : FnScope ["world", "k"] ["world"] (defScope s_still_breach) := ⟨rfl, rfl, rfl, by decide +kernel, rfl, by decide +kernel, by decide +kernel⟩
def w_still_breach : WS := (wSeq (wFor (wiR1 (w2 fIx (wVar 0) (wC (.int 0)))) (bName 1) (wIfS (wTst (w2 (fEq true) (w2 fIx (w2 fIx (wVar 0) (wC (.int 1))) (wVar 1)) (wTup (waCons (wVarD 1) (waCons (wVarD 1) waNil))))) (wRet (wVar 1)) wNil)) (wRet (wC .none)))
theorem der_still_breach (T : Txt K mg) : ∀ (cdv : Value) (A : Around) (outer : List Env) (s : Shared) (H : Hp) (E : XK), Room 0 (A.deeper (envOfC "still_breach" (defScope s_still_breach) s.heap.objs.size T.f_still_breach cdv)) → PSs (cxOf CX0 P w K mg base ["world", "k"] "still_breach" (defScope s_still_breach) T.f_still_breach cdv A outer s H E).nox (defBody s_still_breach) (tSt K (w_still_breach)) :=
  fun cdv A outer s H E hr => have hu := hr.units; have hu5 := units65 hr; (pssCons (psFor PassesOwn.never rfl (piRg1 (by rfl) T.m_range (pIx (pnB (pv 0)) (pb (pcI pe_int)))) (pgName (pg_name (i := 1) sc_still_breach.nd rfl (by first | exact Or.inl rfl | exact Or.inr rfl))) (pssOne (psIf (pTc (op_neD hu) od_ne (pb (pIx (pb (pIx (pnB (pv 0)) (pb (pcI pe_int)))) (pnB (pv 1)))) (pb (pTup (paC (pnD (pv 1)) (paC (pnD (pv 1)) paN)))) (nomark _)) (pssOne (psRet (pnB (pv 1)))) pssNil))) (pssOne (psRet (pb (pcN pe_non)))))

theorem sc_does_fit : FnScope ["ends", "f", "g", "entry"] ["ends", "f", "g", "entry"] (defScope s_does_fit) := ⟨rfl, rfl, rfl, by decide +kernel, rfl, by decide +kernel, by decide +kernel⟩
def w_does_fit : WS := (wSeq (wIfS (wTst (w2 (fEq true) (w2 fIx (w2 fIx (wVar 0) (wVar 1)) (wC (.int 1))) (w2 fIx (w2 fIx (wVar 0) (wVar 2)) (wC (.int 0))))) (wRet (w2 (fEq false) (wVar 3) (wNeg (wC (.int 1))))) wNil) (wRet (wAnd (w2 fGe (wVar 3) (wC (.int 0))) (w2 (fEq false) (w2 fIx (wVar 0) (wVar 3)) (wTup (waCons (w2 fIx (w2 fIx (wVar 0) (wVar 1)) (wC (.int 0))) (waCons (w2 fIx (w2 fIx (wVar 0) (wVar 2)) (wC (.int 1))) waNil)))))))
theorem der_does_fit (T : Txt K mg) : ∀ (cdv : Value) (A : Around) (outer : List Env) (s : Shared) (H : Hp) (E : XK), Room 0 (A.deeper (envOfC "does_fit" (defScope s_does_fit) s.heap.objs.size T.f_does_fit cdv)) → PSs (cxOf CX0 P w K mg base ["ends", "f", "g", "entry"] "does_fit" (defScope s_does_fit) T.f_does_fit cdv A outer s H E).nox (defBody s_does_fit) (tSt K (w_does_fit)) :=
  fun cdv A outer s H E hr => have hu := hr.units; have hu5 := units65 hr; (pssCons (psIf (pTc (op_neD hu) od_ne (pb (pIx (pb (pIx (pnB (pv 0)) (pnB (pv 1)))) (pb (pcI pe_int)))) (pb (pIx (pb (pIx (pnB (pv 0)) (pnB (pv 2)))) (pb (pcI pe_int)))) (nomark _)) (pssOne (psRet (pb (pCmp (op_eqD hu) od_eq (pnB (pv 3)) (pb (pNeg (pcI pe_int))) (nomark _))))) pssNil) (pssOne (psRet (pb (pAnd (pCmp op_ge od_B0 (pnB (pv 3)) (pb (pcI pe_int)) (nomark _)) (pOne (pCmp (op_eqD hu) od_eq (pb (pIx (pnB (pv 0)) (pnB (pv 3)))) (pb (pTup (paC (pIx (pb (pIx (pnB (pv 0)) (pnB (pv 1)))) (pb (pcI pe_int))) (paC (pIx (pb (pIx (pnB (pv 0)) (pnB (pv 2)))) (pb (pcI pe_int))) paN)))) (nomark _))))))))

theorem sc_fit_breach : FnScope ["world", "m", "f", "ends", "table", "g"] ["world"] (defScope s_fit_breach) := ⟨rfl, rfl, rfl, by decide +kernel, rfl, by decide +kernel, by decide +kernel⟩
def w_fit_breach : WS := (wSeq (wPar 3 4 (waCons (w2 fIx (wVar 0) (wC (.int 1))) (waCons (w2 fIx (wVar 0) (wC (.int 2))) waNil))) (wSeq (wSetD 1 (wCall fLen (waCons (wVar 3) waNil))) (wSeq (wFor (wiR1 (wVarD 1)) (bName 2) (wFor (wiR1 (wVarD 1)) (bName 5) (wIfS (wtNot (wTst (wFn W_does_fit (waCons (wVarD 3) (waCons (wVarD 2) (waCons (wVarD 5) (waCons (w2 fIx (w2 fIx (wVar 4) (wVar 2)) (wVar 5)) waNil))))))) (wRet (w2 fAdd (w2 fMul (wVar 1) (wVar 2)) (wVar 5))) wNil))) (wRet (wC .none)))))
theorem der_fit_breach (T : Txt K mg) (G_does_fit : FnOk P w K mg base CX0 1 T.f_does_fit T.fd_does_fit ["ends", "f", "g", "entry"] (spD K W_does_fit)) : ∀ (cdv : Value) (A : Around) (outer : List Env) (s : Shared) (H : Hp) (E : XK), Room 1 (A.deeper (envOfC "fit_breach" (defScope s_fit_breach) s.heap.objs.size T.f_fit_breach cdv)) → PSs (cxOf CX0 P w K mg base ["world", "m", "f", "ends", "table", "g"] "fit_breach" (defScope s_fit_breach) T.f_fit_breach cdv A outer s H E).nox (defBody s_fit_breach) (tSt K (w_fit_breach)) :=
  fun cdv A outer s H E hr => have hu := hr.units; have hu5 := units65 hr; (pssCons (psPar (ps_par (i := 3) (j := 4) rfl sc_fit_breach.nd rfl rfl (by decide) rfl rfl (paC (pIx (pnB (pv 0)) (pb (pcI pe_int))) (paC (pIx (pnB (pv 0)) (pb (pcI pe_int))) paN)) (by rfl))) (pssCons (psSetD (ps_set (i := 1) sc_fit_breach.nd rfl (by first | exact Or.inl rfl | exact Or.inr rfl) (pLen rfl (by rfl) T.m_len (pnB (pv 3))))) (pssCons (psFor PassesOwn.never rfl (piRg1 (by rfl) T.m_range (pnD (pv 1))) (pgName (pg_name (i := 2) sc_fit_breach.nd rfl (by first | exact Or.inl rfl | exact Or.inr rfl))) (pssOne (psFor PassesOwn.never rfl (piRg1 (by rfl) T.m_range (pnD (pv 1))) (pgName (pg_name (i := 5) sc_fit_breach.nd rfl (by first | exact Or.inl rfl | exact Or.inr rfl))) (pssOne (psIf (ptNot (ptV (pFn G_does_fit (hr.mono (by decide)) (by rfl) T.g_does_fit T.F_does_fit.kp T.b_does_fit (paC (pnD (pv 3)) (paC (pnD (pv 2)) (paC (pnD (pv 5)) (paC (pIx (pb (pIx (pnB (pv 4)) (pnB (pv 2)))) (pnB (pv 5))) paN))))))) (pssOne (psRet (pb (pBin op_addD od_add (pb (pBin op_mulD od_mul (pnB (pv 1)) (pnB (pv 2)))) (pnB (pv 5)))))) pssNil))))) (pssOne (psRet (pb (pcN pe_non)))))))

theorem sc_unit_breach : FnScope ["world", "f", "ends", "table", "x", "y"] ["world"] (defScope s_unit_breach) := ⟨rfl, rfl, rfl, by decide +kernel, rfl, by decide +kernel, by decide +kernel⟩
def w_unit_breach : WS := (wSeq (wPar 2 3 (waCons (w2 fIx (wVar 0) (wC (.int 1))) (waCons (w2 fIx (wVar 0) (wC (.int 2))) waNil))) (wSeq (wFor (wiR1 (wCall fLen (waCons (wVar 2) waNil))) (bName 1) (wSeq (wUnp (bTup (bCons (bName 4) (bCons (bName 5) bNil))) (w2 fIx (wVar 2) (wVar 1))) (wIfS (wtOr (wTst (w2 (fEq true) (w2 fIx (w2 fIx (wVar 3) (wVar 4)) (wVar 1)) (wVar 1))) (wTst (w2 (fEq true) (w2 fIx (w2 fIx (wVar 3) (wVar 1)) (wVar 5)) (wVar 1)))) (wRet (wVar 1)) wNil))) (wRet (wC .none))))
theorem der_unit_breach (T : Txt K mg) : ∀ (cdv : Value) (A : Around) (outer : List Env) (s : Shared) (H : Hp) (E : XK), Room 0 (A.deeper (envOfC "unit_breach" (defScope s_unit_breach) s.heap.objs.size T.f_unit_breach cdv)) → PSs (cxOf CX0 P w K mg base ["world", "f", "ends", "table", "x", "y"] "unit_breach" (defScope s_unit_breach) T.f_unit_breach cdv A outer s H E).nox (defBody s_unit_breach) (tSt K (w_unit_breach)) :=
  fun cdv A outer s H E hr => have hu := hr.units; have hu5 := units65 hr; (pssCons (psPar (ps_par (i := 2) (j := 3) rfl sc_unit_breach.nd rfl rfl (by decide) rfl rfl (paC (pIx (pnB (pv 0)) (pb (pcI pe_int))) (paC (pIx (pnB (pv 0)) (pb (pcI pe_int))) paN)) (by rfl))) (pssCons (psFor PassesOwn.never rfl (piRg1 (by rfl) T.m_range (pLen rfl (by rfl) T.m_len (pnB (pv 2)))) (pgName (pg_name (i := 1) sc_unit_breach.nd rfl (by first | exact Or.inl rfl | exact Or.inr rfl))) (pssCons (psUnp (ps_asg (pIx (pnB (pv 2)) (pnB (pv 1))) (pgTup rfl (pgCons (pgName (pg_name (i := 4) sc_unit_breach.nd rfl (by first | exact Or.inl rfl | exact Or.inr rfl))) (pgCons (pgName (pg_name (i := 5) sc_unit_breach.nd rfl (by first | exact Or.inl rfl | exact Or.inr rfl))) pgNil)) rfl rfl (bCons_len (bCons_len bNil_len))))) (pssOne (psIf (PW.pt (ptOr (pTc (op_neD hu) od_ne (pb (pIx (pb (pIx (pnB (pv 3)) (pnB (pv 4)))) (pnB (pv 1)))) (pnB (pv 1)) (nomark _)) (ptOr1 (pTc (op_neD hu) od_ne (pb (pIx (pb (pIx (pnB (pv 3)) (pnB (pv 1)))) (pnB (pv 5)))) (pnB (pv 1)) (nomark _))))) (pssOne (psRet (pnB (pv 1)))) pssNil)))) (pssOne (psRet (pb (pcN pe_non))))))

theorem sc_is_ordered_at : FnScope ["table", "f", "g", "first", "h", "second"] ["table", "f"] (defScope s_is_ordered_at) := ⟨rfl, rfl, rfl, by decide +kernel, rfl, by decide +kernel, by decide +kernel⟩
def w_is_ordered_at : WS := (wSeq (wFor (wiE (w2 fIx (wVar 0) (wVar 1))) (bTup (bCons (bName 2) (bCons (bName 3) bNil))) (wIfS (wTst (w2 fGe (wVar 3) (wC (.int 0)))) (wFor (wiE (w2 fIx (wVar 0) (wVar 2))) (bTup (bCons (bName 4) (bCons (bName 5) bNil))) (wIfS (wtAnd (wTst (w2 fGe (wVar 5) (wC (.int 0)))) (wTst (w2 (fEq true) (w2 fIx (w2 fIx (wVar 0) (wVar 3)) (wVar 4)) (w2 fIx (w2 fIx (wVar 0) (wVar 1)) (wVar 5))))) (wRet (wC (.bool false))) wNil)) wNil)) (wRet (wC (.bool true))))
theorem der_is_ordered_at (T : Txt K mg) : ∀ (cdv : Value) (A : Around) (outer : List Env) (s : Shared) (H : Hp) (E : XK), Room 0 (A.deeper (envOfC "is_ordered_at" (defScope s_is_ordered_at) s.heap.objs.size T.f_is_ordered_at cdv)) → PSs (cxOf CX0 P w K mg base ["table", "f", "g", "first", "h", "second"] "is_ordered_at" (defScope s_is_ordered_at) T.f_is_ordered_at cdv A outer s H E).nox (defBody s_is_ordered_at) (tSt K (w_is_ordered_at)) :=
  fun cdv A outer s H E hr => have hu := hr.units; have hu5 := units65 hr; (pssCons (psFor PassesOwn.never rfl (piEnum (by rfl) T.m_enumerate (pIx (pnB (pv 0)) (pnB (pv 1)))) (pgTup rfl (pgCons (pgName (pg_name (i := 2) sc_is_ordered_at.nd rfl (by first | exact Or.inl rfl | exact Or.inr rfl))) (pgCons (pgName (pg_name (i := 3) sc_is_ordered_at.nd rfl (by first | exact Or.inl rfl | exact Or.inr rfl))) pgNil)) rfl rfl (bCons_len (bCons_len bNil_len))) (pssOne (psIf (pTc op_ge od_B0 (pnB (pv 3)) (pb (pcI pe_int)) (nomark _)) (pssOne (psFor PassesOwn.never rfl (piEnum (by rfl) T.m_enumerate (pIx (pnB (pv 0)) (pnB (pv 2)))) (pgTup rfl (pgCons (pgName (pg_name (i := 4) sc_is_ordered_at.nd rfl (by first | exact Or.inl rfl | exact Or.inr rfl))) (pgCons (pgName (pg_name (i := 5) sc_is_ordered_at.nd rfl (by first | exact Or.inl rfl | exact Or.inr rfl))) pgNil)) rfl rfl (bCons_len (bCons_len bNil_len))) (pssOne (psIf (PW.pt (ptAnd (pTc op_ge od_B0 (pnB (pv 5)) (pb (pcI pe_int)) (nomark _)) (ptAnd1 (pTc (op_neD hu) od_ne (pb (pIx (pb (pIx (pnB (pv 0)) (pnB (pv 3)))) (pnB (pv 4)))) (pb (pIx (pb (pIx (pnB (pv 0)) (pnB (pv 1)))) (pnB (pv 5)))) (nomark _))))) (pssOne (psRet (pb (pcB pe_bl)))) pssNil)))) pssNil))) (pssOne (psRet (pb (pcB pe_bl)))))

theorem sc_order_breach : FnScope ["world", "f"] ["world"] (defScope s_order_breach) := ⟨rfl, rfl, rfl, by decide +kernel, rfl, by decide +kernel, by decide +kernel⟩
def w_order_breach : WS := (wSeq (wFor (wiR1 (wCall fLen (waCons (w2 fIx (wVar 0) (wC (.int 1))) waNil))) (bName 1) (wIfS (wtNot (wTst (wFn W_is_ordered_at (waCons (w2 fIx (wVar 0) (wC (.int 2))) (waCons (wVarD 1) waNil))))) (wRet (wVar 1)) wNil)) (wRet (wC .none)))
theorem der_order_breach (T : Txt K mg) (G_is_ordered_at : FnOk P w K mg base CX0 1 T.f_is_ordered_at T.fd_is_ordered_at ["table", "f"] (spD K W_is_ordered_at)) : ∀ (cdv : Value) (A : Around) (outer : List Env) (s : Shared) (H : Hp) (E : XK), Room 1 (A.deeper (envOfC "order_breach" (defScope s_order_breach) s.heap.objs.size T.f_order_breach cdv)) → PSs (cxOf CX0 P w K mg base ["world", "f"] "order_breach" (defScope s_order_breach) T.f_order_breach cdv A outer s H E).nox (defBody s_order_breach) (tSt K (w_order_breach)) :=
  fun cdv A outer s H E hr => have hu := hr.units; have hu5 := units65 hr; (pssCons (psFor PassesOwn.never rfl (piRg1 (by rfl) T.m_range (pLen rfl (by rfl) T.m_len (pb (pIx (pnB (pv 0)) (pb (pcI pe_int)))))) (pgName (pg_name (i := 1) sc_order_breach.nd rfl (by first | exact Or.inl rfl | exact Or.inr rfl))) (pssOne (psIf (ptNot (ptV (pFn G_is_ordered_at (hr.mono (by decide)) (by rfl) T.g_is_ordered_at T.F_is_ordered_at.kp T.b_is_ordered_at (paC (pIx (pnB (pv 0)) (pb (pcI pe_int))) (paC (pnD (pv 1)) paN))))) (pssOne (psRet (pnB (pv 1)))) pssNil))) (pssOne (psRet (pb (pcN pe_non)))))

theorem sc_world_breach : FnScope ["value", "place"] ["value"] (defScope s_world_breach) := ⟨rfl, rfl, rfl, by decide +kernel, rfl, by decide +kernel, by decide +kernel⟩
def w_world_breach : WS := (wSeq (wIfS (wtNot (wTst (wFn W_has_form (waCons (wVarD 0) waNil)))) (wRet (wTup (waCons (wC (.str "form")) (waCons (wNeg (wC (.int 1))) waNil)))) wNil) (wSeq (wSetD 1 (wFn W_still_breach (waCons (wVarD 0) waNil))) (wSeq (wIfS (wTst (wIsN true (wVar 1))) (wRet (wTup (waCons (wC (.str "still")) (waCons (wVarD 1) waNil)))) wNil) (wSeq (wSetD 1 (wFn W_fit_breach (waCons (wVarD 0) waNil))) (wSeq (wIfS (wTst (wIsN true (wVar 1))) (wRet (wTup (waCons (wC (.str "fit")) (waCons (wVarD 1) waNil)))) wNil) (wSeq (wSetD 1 (wFn W_unit_breach (waCons (wVarD 0) waNil))) (wSeq (wIfS (wTst (wIsN true (wVar 1))) (wRet (wTup (waCons (wC (.str "unit")) (waCons (wVarD 1) waNil)))) wNil) (wSeq (wSetD 1 (wFn W_order_breach (waCons (wVarD 0) waNil))) (wSeq (wIfS (wTst (wIsN true (wVar 1))) (wRet (wTup (waCons (wC (.str "order")) (waCons (wVarD 1) waNil)))) wNil) (wRet (wC .none)))))))))))
theorem der_world_breach (T : Txt K mg) (G_fit_breach : FnOk P w K mg base CX0 2 T.f_fit_breach T.fd_fit_breach ["world"] (spD K W_fit_breach)) (G_has_form : FnOk P w K mg base CX0 3 T.f_has_form T.fd_has_form ["value"] (spD K W_has_form)) (G_order_breach : FnOk P w K mg base CX0 2 T.f_order_breach T.fd_order_breach ["world"] (spD K W_order_breach)) (G_still_breach : FnOk P w K mg base CX0 1 T.f_still_breach T.fd_still_breach ["world"] (spD K W_still_breach)) (G_unit_breach : FnOk P w K mg base CX0 1 T.f_unit_breach T.fd_unit_breach ["world"] (spD K W_unit_breach)) : ∀ (cdv : Value) (A : Around) (outer : List Env) (s : Shared) (H : Hp) (E : XK), Room 3 (A.deeper (envOfC "world_breach" (defScope s_world_breach) s.heap.objs.size T.f_world_breach cdv)) → PSs (cxOf CX0 P w K mg base ["value", "place"] "world_breach" (defScope s_world_breach) T.f_world_breach cdv A outer s H E).nox (defBody s_world_breach) (tSt K (w_world_breach)) :=
  fun cdv A outer s H E hr => have hu := hr.units; have hu5 := units65 hr; (pssCons (psIf (ptNot (ptV (pFn G_has_form (hr.mono (by decide)) (by rfl) T.g_has_form T.F_has_form.kp T.b_has_form (paC (pnD (pv 0)) paN)))) (pssOne (psRet (pb (pTup (paC (pcS pe_str) (paC (pNeg (pcI pe_int)) paN)))))) pssNil) (pssCons (psSetD (ps_set (i := 1) sc_world_breach.nd rfl (by first | exact Or.inl rfl | exact Or.inr rfl) (pFn G_still_breach (hr.mono (by decide)) (by rfl) T.g_still_breach T.F_still_breach.kp T.b_still_breach (paC (pnD (pv 0)) paN)))) (pssCons (psIf (ptNotN (pnB (pv 1))) (pssOne (psRet (pb (pTup (paC (pcS pe_str) (paC (pnD (pv 1)) paN)))))) pssNil) (pssCons (psSetD (ps_set (i := 1) sc_world_breach.nd rfl (by first | exact Or.inl rfl | exact Or.inr rfl) (pFn G_fit_breach (hr.mono (by decide)) (by rfl) T.g_fit_breach T.F_fit_breach.kp T.b_fit_breach (paC (pnD (pv 0)) paN)))) (pssCons (psIf (ptNotN (pnB (pv 1))) (pssOne (psRet (pb (pTup (paC (pcS pe_str) (paC (pnD (pv 1)) paN)))))) pssNil) (pssCons (psSetD (ps_set (i := 1) sc_world_breach.nd rfl (by first | exact Or.inl rfl | exact Or.inr rfl) (pFn G_unit_breach (hr.mono (by decide)) (by rfl) T.g_unit_breach T.F_unit_breach.kp T.b_unit_breach (paC (pnD (pv 0)) paN)))) (pssCons (psIf (ptNotN (pnB (pv 1))) (pssOne (psRet (pb (pTup (paC (pcS pe_str) (paC (pnD (pv 1)) paN)))))) pssNil) (pssCons (psSetD (ps_set (i := 1) sc_world_breach.nd rfl (by first | exact Or.inl rfl | exact Or.inr rfl) (pFn G_order_breach (hr.mono (by decide)) (by rfl) T.g_order_breach T.F_order_breach.kp T.b_order_breach (paC (pnD (pv 0)) paN)))) (pssCons (psIf (ptNotN (pnB (pv 1))) (pssOne (psRet (pb (pTup (paC (pcS pe_str) (paC (pnD (pv 1)) paN)))))) pssNil) (pssOne (psRet (pb (pcN pe_non)))))))))))))

theorem sc_has_loop_form : FnScope ["rows", "k", "row"] ["rows"] (defScope s_has_loop_form) := ⟨rfl, rfl, rfl, by decide +kernel, rfl, by decide +kernel, by decide +kernel⟩
def w_has_loop_form : WS := (wSeq (wIfS (wtOr (wTst (wTyIs "tuple" true (wVar 0))) (wtNot (wTst (w3 fLe fLe (wC (.int 1)) (wCall fLen (waCons (wVar 0) waNil)) (wC (.int 40)))))) (wRet (wC (.bool false))) wNil) (wSeq (wSetD 1 (wCall fLen (waCons (wVar 0) waNil))) (wRet (wCall (fAll fun bs => bs.all id) (waCons (wfD (wLc (wi1 (wVarD 0)) (bName 2) wTy (wFn W_is_number_row (waCons (wVarD 2) (waCons (wVarD 1) (waCons (wC (.int 0)) (waCons (w2 fSub (wVar 1) (wC (.int 1))) waNil))))) [2])) waNil)))))
theorem der_has_loop_form (T : Txt K mg) (G_is_number_row : FnOk P w K mg base CX0 2 T.f_is_number_row T.fd_is_number_row ["value", "many", "low", "high"] (spD K W_is_number_row)) : ∀ (cdv : Value) (A : Around) (outer : List Env) (s : Shared) (H : Hp) (E : XK), Room 2 (A.deeper (envOfC "has_loop_form" (defScope s_has_loop_form) s.heap.objs.size T.f_has_loop_form cdv)) → PSs (cxOf CX0 P w K mg base ["rows", "k", "row"] "has_loop_form" (defScope s_has_loop_form) T.f_has_loop_form cdv A outer s H E).nox (defBody s_has_loop_form) (tSt K (w_has_loop_form)) :=
  fun cdv A outer s H E hr => have hu := hr.units; have hu5 := units65 hr; (pssCons (psIf (PW.pt (ptOr (ptTyNot (by rfl) T.m_type (by rfl) T.m_tuple boot_tuple (pnB (pv 0))) (ptOr1 (ptNot (ptCh od_B0 od_B0 (pt_chain op_le op_le (pb (pcI pe_int)) (pb (pLen rfl (by rfl) T.m_len (pnB (pv 0)))) (pb (pcI (pe_glob (by rfl) T.g_MOST_ARROWS.2 (T.g_MOST_ARROWS.1)))))))))) (pssOne (psRet (pb (pcB pe_bl)))) pssNil) (pssCons (psSetD (ps_set (i := 1) sc_has_loop_form.nd rfl (by first | exact Or.inl rfl | exact Or.inr rfl) (pLen rfl (by rfl) T.m_len (pnB (pv 0))))) (pssOne (psRet (pb (pB1 (cr_all rfl) cd_all (by rfl) T.m_all boot_all (pb (pf (pLc (own := [("row", 2)]) rfl sc_has_loop_form.nd (piSeq (pnD (pv 0))) (blkOk_by (by kernel_rfl)) (fun _ _ _ _ _ => (pgName (pg_name (i := 2) sc_has_loop_form.nd rfl (by first | exact Or.inl rfl | exact Or.inr rfl)))) (fun _ _ _ _ _ => ptsN) (fun _ _ _ _ _ => (pFn G_is_number_row (hr.mono (by decide)) (by rfl) T.g_is_number_row T.F_is_number_row.kp T.b_is_number_row (paC (pnD (pv 2)) (paC (pnD (pv 1)) (paC (pcI pe_int) (paC (pBin op_sub od_I0 (pnB (pv 1)) (pb (pcI pe_int))) paN)))))) (by decide))))))))))

theorem sc_is_loop_at : FnScope ["rows", "a", "b", "ab", "c", "bc"] ["rows", "a"] (defScope s_is_loop_at) := ⟨rfl, rfl, rfl, by decide +kernel, rfl, by decide +kernel, by decide +kernel⟩
def w_is_loop_at : WS := (wSeq (wIfS (wtOr (wTst (w2 (fEq true) (w2 fIx (w2 fIx (wVar 0) (wC (.int 0))) (wVar 1)) (wVar 1))) (wTst (w2 (fEq true) (w2 fIx (w2 fIx (wVar 0) (wVar 1)) (wC (.int 0))) (wVar 1)))) (wRet (wC (.bool false))) wNil) (wSeq (wFor (wiE (w2 fIx (wVar 0) (wVar 1))) (bTup (bCons (bName 2) (bCons (bName 3) bNil))) (wFor (wiE (w2 fIx (wVar 0) (wVar 2))) (bTup (bCons (bName 4) (bCons (bName 5) bNil))) (wIfS (wTst (w2 (fEq true) (w2 fIx (w2 fIx (wVar 0) (wVar 3)) (wVar 4)) (w2 fIx (w2 fIx (wVar 0) (wVar 1)) (wVar 5)))) (wRet (wC (.bool false))) wNil))) (wRet (wC (.bool true)))))
theorem der_is_loop_at (T : Txt K mg) : ∀ (cdv : Value) (A : Around) (outer : List Env) (s : Shared) (H : Hp) (E : XK), Room 0 (A.deeper (envOfC "is_loop_at" (defScope s_is_loop_at) s.heap.objs.size T.f_is_loop_at cdv)) → PSs (cxOf CX0 P w K mg base ["rows", "a", "b", "ab", "c", "bc"] "is_loop_at" (defScope s_is_loop_at) T.f_is_loop_at cdv A outer s H E).nox (defBody s_is_loop_at) (tSt K (w_is_loop_at)) :=
  fun cdv A outer s H E hr => have hu := hr.units; have hu5 := units65 hr; (pssCons (psIf (PW.pt (ptOr (pTc (op_neD hu) od_ne (pb (pIx (pb (pIx (pnB (pv 0)) (pb (pcI pe_int)))) (pnB (pv 1)))) (pnB (pv 1)) (nomark _)) (ptOr1 (pTc (op_neD hu) od_ne (pb (pIx (pb (pIx (pnB (pv 0)) (pnB (pv 1)))) (pb (pcI pe_int)))) (pnB (pv 1)) (nomark _))))) (pssOne (psRet (pb (pcB pe_bl)))) pssNil) (pssCons (psFor PassesOwn.never rfl (piEnum (by rfl) T.m_enumerate (pIx (pnB (pv 0)) (pnB (pv 1)))) (pgTup rfl (pgCons (pgName (pg_name (i := 2) sc_is_loop_at.nd rfl (by first | exact Or.inl rfl | exact Or.inr rfl))) (pgCons (pgName (pg_name (i := 3) sc_is_loop_at.nd rfl (by first | exact Or.inl rfl | exact Or.inr rfl))) pgNil)) rfl rfl (bCons_len (bCons_len bNil_len))) (pssOne (psFor PassesOwn.never rfl (piEnum (by rfl) T.m_enumerate (pIx (pnB (pv 0)) (pnB (pv 2)))) (pgTup rfl (pgCons (pgName (pg_name (i := 4) sc_is_loop_at.nd rfl (by first | exact Or.inl rfl | exact Or.inr rfl))) (pgCons (pgName (pg_name (i := 5) sc_is_loop_at.nd rfl (by first | exact Or.inl rfl | exact Or.inr rfl))) pgNil)) rfl rfl (bCons_len (bCons_len bNil_len))) (pssOne (psIf (pTc (op_neD hu) od_ne (pb (pIx (pb (pIx (pnB (pv 0)) (pnB (pv 3)))) (pnB (pv 4)))) (pb (pIx (pb (pIx (pnB (pv 0)) (pnB (pv 1)))) (pnB (pv 5)))) (nomark _)) (pssOne (psRet (pb (pcB pe_bl)))) pssNil))))) (pssOne (psRet (pb (pcB pe_bl))))))

theorem sc__law_begun : FnScope ["script", "k", "cells", "great", "seed", "cell"] ["script", "k"] (defScope s__law_begun) := ⟨rfl, rfl, rfl, by decide +kernel, rfl, by decide +kernel, by decide +kernel⟩
def w__law_begun : WS := (wSeq (wSetD 2 (w2 fAdd (wSlS (wVarD 0) (woS (wVarD 1)) woN) (wSlS (wVarD 0) woN (woS (wVarD 1))))) (wSeq (wSetD 3 (wfD (wLc (wi1 (wVarD 2)) (bName 5) (wTst (w2 fGe (wVar 5) (w2 fPow (wC (.int 10)) (wC (.int 18))))) (wVarD 5) [5]))) (wSeq (wSetD 4 (w2 fAdd (wC (.int 71)) (wVar 1))) (wSeq (wFor (wi1 (wVarD 2)) (bName 5) (wSetD 4 (w2 fMod (wCall fInt (waCons (w2 fAdd (w2 fMul (wVar 4) (wC (.int 48271))) (wVar 5)) waNil)) (wC (.int 2147483647))))) (wRet (wMk (wIf (wTst (w2 (fEq true) (wVar 3) (wfD (wLst waNil)))) (w2 fIx (wVar 3) (wC (.int 0))) (wC (.int 0))) (wVarD 4) (w2 fAdd (wVar 2) (wfD (wLst (waCons (w2 fAdd (w2 fMul (wC (.int 53)) (wVar 1)) (wC (.int 11))) waNil))))))))))
theorem der__law_begun (T : Txt K mg) : ∀ (cdv : Value) (A : Around) (outer : List Env) (s : Shared) (H : Hp) (E : XK), Room 0 (A.deeper (envOfC "_law_begun" (defScope s__law_begun) s.heap.objs.size T.f__law_begun cdv)) → PSs (cxOf CX0 P w K mg base ["script", "k", "cells", "great", "seed", "cell"] "_law_begun" (defScope s__law_begun) T.f__law_begun cdv A outer s H E).nox (defBody s__law_begun) (tSt K (w__law_begun)) :=
  fun cdv A outer s H E hr => have hu := hr.units; have hu5 := units65 hr; (pssCons (psSetD (ps_set (i := 2) sc__law_begun.nd rfl (by first | exact Or.inl rfl | exact Or.inr rfl) (pBin op_addD od_add (pb (pSlS (pnD (pv 0)) (poS (pnD (pv 1))) poN)) (pb (pSlS (pnD (pv 0)) poN (poS (pnD (pv 1)))))))) (pssCons (psSetFD (i := 3) (psSetLc (own := [("cell", 5)]) sc__law_begun.nd rfl rfl (sw_true rfl rfl rfl (by kernel_rfl)) rfl (piSeq (pnD (pv 2))) (blkOk_by (by kernel_rfl)) (fun _ _ _ _ _ => (pgName (pg_name (i := 5) sc__law_begun.nd rfl (by first | exact Or.inl rfl | exact Or.inr rfl)))) (fun _ _ _ _ _ => (ptsO (pTc op_ge od_B0 (pnB (pv 5)) (pb (pBin op_pow od_II (pb (pcI pe_int)) (pb (pcI pe_int)))) (nomark _)))) (fun _ _ _ _ _ => (pnD (pv 5))) (by decide))) (pssCons (psSetD (ps_set (i := 4) sc__law_begun.nd rfl (by first | exact Or.inl rfl | exact Or.inr rfl) (pBin op_addD od_add (pb (pcI pe_int)) (pnB (pv 1))))) (pssCons (psFor PassesOwn.never rfl (piSeq (pnD (pv 2))) (pgName (pg_name (i := 5) sc__law_begun.nd rfl (by first | exact Or.inl rfl | exact Or.inr rfl))) (pssOne (psSetD (ps_set (i := 4) sc__law_begun.nd rfl (by first | exact Or.inl rfl | exact Or.inr rfl) (pBin op_mod od_II (pb (pT1 call_int1 cd_int (by rfl) T.m_int boot_int (pb (pBin op_addD od_add (pb (pBin op_mulD od_mul (pnB (pv 4)) (pb (pcI pe_int)))) (pnB (pv 5)))))) (pb (pcI pe_int))))))) (pssOne (psRet (pb (pMk pe_str pe_str pe_str pe_str (pIf (pTc (op_neD hu) od_ne (pnB (pv 3)) (pb (pf (pLstF paN))) (nomark _)) (pIx (pnB (pv 3)) (pb (pcI pe_int))) (pcI pe_int)) (pnD (pv 4)) (pBin op_addD od_add (pnB (pv 2)) (pb (pf (pLstF (paC (pBin op_addD od_add (pb (pBin op_mulD od_mul (pb (pcI pe_int)) (pnB (pv 1)))) (pb (pcI pe_int))) paN))))) pe_int))))))))

theorem sc__law_draw : FnScope ["m", "bound", "spot", "cell", "blend", "found", "cells", "extra"] ["m", "bound"] (defScope s__law_draw) := ⟨rfl, rfl, rfl, by decide +kernel, rfl, by decide +kernel, by decide +kernel⟩
def w__law_draw : WS := (wSeq (wIfS (wTst (w2 fGt (wMLeft 0) (wC (.int 0)))) (wSeq (wSetD 5 (w2 fMod (wCall fInt (waCons (wMLeft 0) waNil)) (wVar 1))) (wSeq (wPutLeft 0 (w2 fDiv (wMLeft 0) (wVar 1))) (wRet (wVar 5)))) wNil) (wSeq (wSetD 2 (wMSpot 0)) (wSeq (wPutSpot 0 (w2 fAdd (wVar 2) (wC (.int 1)))) (wSeq (wPar 6 7 (waCons (wMCells 0) (waCons (w2 fAdd (wMSeed 0) (w2 fMul (w2 fMul (wC (.int 40503)) (wVar 2)) (wVar 2))) waNil))) (wSeq (wSetD 3 (w2 fIx (wVar 6) (w2 fMod (wCall fInt (waCons (wVar 2) waNil)) (wCall fLen (waCons (wVar 6) waNil))))) (wSeq (wSetD 4 (w2 fMod (wCall fInt (waCons (w2 fAdd (w2 fMul (wVar 3) (w2 fAdd (w2 fMul (wC (.int 2)) (wVar 2)) (wC (.int 3)))) (wVar 7)) waNil)) (wC (.int 2147483647)))) (wSeq (wSetD 4 (w2 fMod (wCall fInt (waCons (w2 fAdd (w2 fAdd (w2 fMul (wVar 4) (wVar 4)) (w2 fMul (wC (.int 69621)) (wVar 2))) (wMSeed 0)) waNil)) (wC (.int 2147483629)))) (wRet (w2 fMod (w2 fDiv (w2 fMod (wCall fInt (waCons (w2 fAdd (w2 fMul (wVar 4) (wC (.int 48271))) (wVar 2)) waNil)) (wC (.int 2147483647))) (wC (.int 11))) (wVar 1))))))))))
theorem der__law_draw (T : Txt K mg) : ∀ (cdv : Value) (A : Around) (outer : List Env) (s : Shared) (H : Hp) (E : XK), Room 0 (A.deeper (envOfC "_law_draw" (defScope s__law_draw) s.heap.objs.size T.f__law_draw cdv)) → PSs (cxOf CX0 P w K mg base ["m", "bound", "spot", "cell", "blend", "found", "cells", "extra"] "_law_draw" (defScope s__law_draw) T.f__law_draw cdv A outer s H E).nox (defBody s__law_draw) (tSt K (w__law_draw)) :=
  fun cdv A outer s H E hr => have hu := hr.units; have hu5 := units65 hr; (pssCons (psIf (pTc op_gt od_B0 (pb (pMLeft hu5 (pv 0) pe_str)) (pb (pcI pe_int)) (nomark _)) (pssCons (psSetD (ps_set (i := 5) sc__law_draw.nd rfl (by first | exact Or.inl rfl | exact Or.inr rfl) (pBin op_mod od_II (pb (pT1 call_int1 cd_int (by rfl) T.m_int boot_int (pb (pMLeft hu5 (pv 0) pe_str)))) (pnB (pv 1))))) (pssCons (psPutLeft hu5 (pv 0) pe_str (pBin op_fdiv od_II (pb (pMLeft hu5 (pv 0) pe_str)) (pnB (pv 1)))) (pssOne (psRet (pnB (pv 5)))))) pssNil) (pssCons (psSetD (ps_set (i := 2) sc__law_draw.nd rfl (by first | exact Or.inl rfl | exact Or.inr rfl) (pMSpot hu5 (pv 0) pe_str))) (pssCons (psPutSpot hu5 (pv 0) pe_str (pBin op_addD od_add (pnB (pv 2)) (pb (pcI pe_int)))) (pssCons (psPar (ps_par (i := 6) (j := 7) rfl sc__law_draw.nd rfl rfl (by decide) rfl rfl (paC (pMCells hu5 (pv 0) pe_str) (paC (pBin op_addD od_add (pb (pMSeed hu5 (pv 0) pe_str)) (pb (pBin op_mulD od_mul (pb (pBin op_mulD od_mul (pb (pcI pe_int)) (pnB (pv 2)))) (pnB (pv 2))))) paN)) (by rfl))) (pssCons (psSetD (ps_set (i := 3) sc__law_draw.nd rfl (by first | exact Or.inl rfl | exact Or.inr rfl) (pIx (pnB (pv 6)) (pb (pBin op_mod od_II (pb (pT1 call_int1 cd_int (by rfl) T.m_int boot_int (pnB (pv 2)))) (pb (pLen rfl (by rfl) T.m_len (pnB (pv 6))))))))) (pssCons (psSetD (ps_set (i := 4) sc__law_draw.nd rfl (by first | exact Or.inl rfl | exact Or.inr rfl) (pBin op_mod od_II (pb (pT1 call_int1 cd_int (by rfl) T.m_int boot_int (pb (pBin op_addD od_add (pb (pBin op_mulD od_mul (pnB (pv 3)) (pb (pBin op_addD od_add (pb (pBin op_mulD od_mul (pb (pcI pe_int)) (pnB (pv 2)))) (pb (pcI pe_int)))))) (pnB (pv 7)))))) (pb (pcI pe_int))))) (pssCons (psSetD (ps_set (i := 4) sc__law_draw.nd rfl (by first | exact Or.inl rfl | exact Or.inr rfl) (pBin op_mod od_II (pb (pT1 call_int1 cd_int (by rfl) T.m_int boot_int (pb (pBin op_addD od_add (pb (pBin op_addD od_add (pb (pBin op_mulD od_mul (pnB (pv 4)) (pnB (pv 4)))) (pb (pBin op_mulD od_mul (pb (pcI pe_int)) (pnB (pv 2)))))) (pb (pMSeed hu5 (pv 0) pe_str)))))) (pb (pcI pe_int))))) (pssOne (psRet (pb (pBin op_mod od_II (pb (pBin op_fdiv od_II (pb (pBin op_mod od_II (pb (pT1 call_int1 cd_int (by rfl) T.m_int boot_int (pb (pBin op_addD od_add (pb (pBin op_mulD od_mul (pnB (pv 4)) (pb (pcI pe_int)))) (pnB (pv 2)))))) (pb (pcI pe_int)))) (pb (pcI pe_int)))) (pnB (pv 1)))))))))))))

theorem sc__law_of : FnScope ["m", "some"] ["m", "some"] (defScope s__law_of) := ⟨rfl, rfl, rfl, by decide +kernel, rfl, by decide +kernel, by decide +kernel⟩
def w__law_of : WS := (wRet (w2 fIx (wVar 1) (wFn W__law_draw (waCons (wVarD 0) (waCons (wCall fLen (waCons (wVar 1) waNil)) waNil)))))
theorem der__law_of (T : Txt K mg) (G__law_draw : FnOk P w K mg base CX0 1 T.f__law_draw T.fd__law_draw ["m", "bound"] (spD K W__law_draw)) : ∀ (cdv : Value) (A : Around) (outer : List Env) (s : Shared) (H : Hp) (E : XK), Room 1 (A.deeper (envOfC "_law_of" (defScope s__law_of) s.heap.objs.size T.f__law_of cdv)) → PSs (cxOf CX0 P w K mg base ["m", "some"] "_law_of" (defScope s__law_of) T.f__law_of cdv A outer s H E).nox (defBody s__law_of) (tSt K (w__law_of)) :=
  fun cdv A outer s H E hr => have hu := hr.units; have hu5 := units65 hr; (pssOne (psRet (pb (pIx (pnB (pv 1)) (pb (pFn G__law_draw (hr.mono (by decide)) (by rfl) T.g__law_draw T.F__law_draw.kp T.b__law_draw (paC (pnD (pv 0)) (paC (pLen rfl (by rfl) T.m_len (pnB (pv 1))) paN))))))))

theorem sc__law_like : FnScope ["got", "due"] ["got", "due"] (defScope s__law_like) := ⟨rfl, rfl, rfl, by decide +kernel, rfl, by decide +kernel, by decide +kernel⟩
def w__law_like : WS := (wRet (w2 fEqS (wCall fRepr (waCons (wVar 0) waNil)) (wCall fRepr (waCons (wVar 1) waNil))))
theorem der__law_like (T : Txt K mg) : ∀ (cdv : Value) (A : Around) (outer : List Env) (s : Shared) (H : Hp) (E : XK), (A.deeper (envOfC "_law_like" (defScope s__law_like) s.heap.objs.size T.f__law_like cdv)).guards = some [] → Room 0 (A.deeper (envOfC "_law_like" (defScope s__law_like) s.heap.objs.size T.f__law_like cdv)) → PSs (cxOf CX0 P w K mg base ["got", "due"] "_law_like" (defScope s__law_like) T.f__law_like cdv A outer s H E).nox (defBody s__law_like) (tSt K (w__law_like)) :=
  fun cdv A outer s H E hG hr => have hu := hr.units; have hu5 := units65 hr; (pssOne (psRet (pb (pCmp op_eq od_eqS (pb (pRepr rfl hG hu5 (by rfl) T.m_repr (pnB (pv 0)))) (pb (pRepr rfl hG hu5 (by rfl) T.m_repr (pnB (pv 1)))) (nomark _)))))

theorem sc__law_loops : FnScope ["rows_so", "row"] ["rows_so"] (defScope s__law_loops) := ⟨rfl, rfl, rfl, by decide +kernel, rfl, by decide +kernel, by decide +kernel⟩
def w__law_loops : WS := (wRet (wTup (waCons (wC (.int 1)) (waCons (wCall fTupOf (waCons (wfD (wLc (wi1 (wVarD 0)) (bName 1) wTy (wTup (waCons (wC (.int 0)) (waCons (wC (.int 0)) waNil))) [1])) waNil)) (waCons (wCall fTupOf (waCons (wfD (wLc (wi1 (wVarD 0)) (bName 1) wTy (wCall fTupOf (waCons (wVar 1) waNil)) [1])) waNil)) waNil)))))
theorem der__law_loops (T : Txt K mg) : ∀ (cdv : Value) (A : Around) (outer : List Env) (s : Shared) (H : Hp) (E : XK), Room 0 (A.deeper (envOfC "_law_loops" (defScope s__law_loops) s.heap.objs.size T.f__law_loops cdv)) → PSs (cxOf CX0 P w K mg base ["rows_so", "row"] "_law_loops" (defScope s__law_loops) T.f__law_loops cdv A outer s H E).nox (defBody s__law_loops) (tSt K (w__law_loops)) :=
  fun cdv A outer s H E hr => have hu := hr.units; have hu5 := units65 hr; (pssOne (psRet (pb (pTup (paC (pcI pe_int) (paC (pT1 call_tuple_of cd_tup (by rfl) T.m_tuple boot_tuple (pb (pf (pLc (own := [("row", 1)]) rfl sc__law_loops.nd (piSeq (pnD (pv 0))) (blkOk_by (by kernel_rfl)) (fun _ _ _ _ _ => (pgName (pg_name (i := 1) sc__law_loops.nd rfl (by first | exact Or.inl rfl | exact Or.inr rfl)))) (fun _ _ _ _ _ => ptsN) (fun _ _ _ _ _ => (pTup (paC (pcI pe_int) (paC (pcI pe_int) paN)))) (by decide))))) (paC (pT1 call_tuple_of cd_tup (by rfl) T.m_tuple boot_tuple (pb (pf (pLc (own := [("row", 1)]) rfl sc__law_loops.nd (piSeq (pnD (pv 0))) (blkOk_by (by kernel_rfl)) (fun _ _ _ _ _ => (pgName (pg_name (i := 1) sc__law_loops.nd rfl (by first | exact Or.inl rfl | exact Or.inr rfl)))) (fun _ _ _ _ _ => ptsN) (fun _ _ _ _ _ => (pT1 call_tuple_of cd_tup (by rfl) T.m_tuple boot_tuple (pnB (pv 1)))) (by decide))))) paN)))))))

theorem sc__law_good : FnScope ["value", "k", "row", "a", "one", "b", "c"] ["value"] (defScope s__law_good) := ⟨rfl, rfl, rfl, by decide +kernel, rfl, by decide +kernel, by decide +kernel⟩
def w__law_good : WS := (wSeq (wIfS (wtOr (wtNot (wTst (wIsi "tuple" (wVar 0)))) (wtNot (wTst (w3 fLt fLt (wC (.int 0)) (wCall fLen (waCons (wVar 0) waNil)) (wC (.int 41)))))) (wRet (wC (.bool false))) wNil) (wSeq (wSetD 1 (wCall fLen (waCons (wVar 0) waNil))) (wSeq (wFor (wi1 (wVarD 0)) (bName 2) (wSeq (wIfS (wtOr (wtNot (wTst (wIsi "tuple" (wVar 2)))) (wTst (w2 (fEq true) (wCall fLen (waCons (wVar 2) waNil)) (wVar 1)))) (wRet (wC (.bool false))) wNil) (wFor (wi1 (wVarD 2)) (bName 4) (wIfS (wtOr (wtNot (wTst (wIsi "int" (wVar 4)))) (wtOr (wTst (wIsi "bool" (wVar 4))) (wtNot (wTst (w3 fLe fLt (wC (.int 0)) (wVar 4) (wVar 1)))))) (wRet (wC (.bool false))) wNil)))) (wSeq (wIfS (wtOr (wTst (w2 (fEq true) (w2 fIx (wVar 0) (wC (.int 0))) (wTupRg (wr1 (wVarD 1))))) (wTst (w2 (fEq true) (wfD (wLc (wi1 (wVarD 0)) (bName 2) wTy (w2 fIx (wVar 2) (wC (.int 0))) [2])) (wfD (wListRg (wr1 (wVarD 1))))))) (wRet (wC (.bool false))) wNil) (wSeq (wFor (wiR1 (wVarD 1)) (bName 3) (wFor (wiR1 (wVarD 1)) (bName 5) (wFor (wiR1 (wVarD 1)) (bName 6) (wIfS (wTst (w2 (fEq true) (w2 fIx (w2 fIx (wVar 0) (w2 fIx (w2 fIx (wVar 0) (wVar 3)) (wVar 5))) (wVar 6)) (w2 fIx (w2 fIx (wVar 0) (wVar 3)) (w2 fIx (w2 fIx (wVar 0) (wVar 5)) (wVar 6))))) (wRet (wC (.bool false))) wNil)))) (wRet (wC (.bool true))))))))
theorem der__law_good (T : Txt K mg) : ∀ (cdv : Value) (A : Around) (outer : List Env) (s : Shared) (H : Hp) (E : XK), Room 0 (A.deeper (envOfC "_law_good" (defScope s__law_good) s.heap.objs.size T.f__law_good cdv)) → PSs (cxOf CX0 P w K mg base ["value", "k", "row", "a", "one", "b", "c"] "_law_good" (defScope s__law_good) T.f__law_good cdv A outer s H E).nox (defBody s__law_good) (tSt K (w__law_good)) :=
  fun cdv A outer s H E hr => have hu := hr.units; have hu5 := units65 hr; (pssCons (psIf (PW.pt (ptOr (ptNot (ptV (pIsi (by rfl) T.m_isinstance boot_isinstance (by rfl) T.m_tuple boot_tuple (pnB (pv 0))))) (ptOr1 (ptNot (ptCh od_B0 od_B0 (pt_chain op_lt op_lt (pb (pcI pe_int)) (pb (pLen rfl (by rfl) T.m_len (pnB (pv 0)))) (pb (pcI pe_int)))))))) (pssOne (psRet (pb (pcB pe_bl)))) pssNil) (pssCons (psSetD (ps_set (i := 1) sc__law_good.nd rfl (by first | exact Or.inl rfl | exact Or.inr rfl) (pLen rfl (by rfl) T.m_len (pnB (pv 0))))) (pssCons (psFor PassesOwn.never rfl (piSeq (pnD (pv 0))) (pgName (pg_name (i := 2) sc__law_good.nd rfl (by first | exact Or.inl rfl | exact Or.inr rfl))) (pssCons (psIf (PW.pt (ptOr (ptNot (ptV (pIsi (by rfl) T.m_isinstance boot_isinstance (by rfl) T.m_tuple boot_tuple (pnB (pv 2))))) (ptOr1 (pTc (op_neD hu) od_ne (pb (pLen rfl (by rfl) T.m_len (pnB (pv 2)))) (pnB (pv 1)) (nomark _))))) (pssOne (psRet (pb (pcB pe_bl)))) pssNil) (pssOne (psFor PassesOwn.never rfl (piSeq (pnD (pv 2))) (pgName (pg_name (i := 4) sc__law_good.nd rfl (by first | exact Or.inl rfl | exact Or.inr rfl))) (pssOne (psIf (PW.pt (ptOr (ptNot (ptV (pIsi (by rfl) T.m_isinstance boot_isinstance (by rfl) T.m_int boot_int (pnB (pv 4))))) (ptOr (ptV (pIsi (by rfl) T.m_isinstance boot_isinstance (by rfl) T.m_bool boot_bool (pnB (pv 4)))) (ptOr1 (ptNot (ptCh od_B0 od_B0 (pt_chain op_le op_lt (pb (pcI pe_int)) (pnB (pv 4)) (pnB (pv 1))))))))) (pssOne (psRet (pb (pcB pe_bl)))) pssNil)))))) (pssCons (psIf (PW.pt (ptOr (pTc (op_neD hu) od_ne (pb (pIx (pnB (pv 0)) (pb (pcI pe_int)))) (pb (pTupRg rfl (by rfl) T.m_tuple (pRg1 (by rfl) T.m_range (pnD (pv 1))))) (nomark _)) (ptOr1 (pTc (op_neD hu) od_ne (pb (pf (pLc (own := [("row", 2)]) rfl sc__law_good.nd (piSeq (pnD (pv 0))) (blkOk_by (by kernel_rfl)) (fun _ _ _ _ _ => (pgName (pg_name (i := 2) sc__law_good.nd rfl (by first | exact Or.inl rfl | exact Or.inr rfl)))) (fun _ _ _ _ _ => ptsN) (fun _ _ _ _ _ => (pIx (pnB (pv 2)) (pb (pcI pe_int)))) (by decide)))) (pb (pf (pListRgF rfl (by rfl) T.m_list (pRg1 (by rfl) T.m_range (pnD (pv 1)))))) (nomark _))))) (pssOne (psRet (pb (pcB pe_bl)))) pssNil) (pssCons (psFor PassesOwn.never rfl (piRg1 (by rfl) T.m_range (pnD (pv 1))) (pgName (pg_name (i := 3) sc__law_good.nd rfl (by first | exact Or.inl rfl | exact Or.inr rfl))) (pssOne (psFor PassesOwn.never rfl (piRg1 (by rfl) T.m_range (pnD (pv 1))) (pgName (pg_name (i := 5) sc__law_good.nd rfl (by first | exact Or.inl rfl | exact Or.inr rfl))) (pssOne (psFor PassesOwn.never rfl (piRg1 (by rfl) T.m_range (pnD (pv 1))) (pgName (pg_name (i := 6) sc__law_good.nd rfl (by first | exact Or.inl rfl | exact Or.inr rfl))) (pssOne (psIf (pTc (op_neD hu) od_ne (pb (pIx (pb (pIx (pnB (pv 0)) (pb (pIx (pb (pIx (pnB (pv 0)) (pnB (pv 3)))) (pnB (pv 5)))))) (pnB (pv 6)))) (pb (pIx (pb (pIx (pnB (pv 0)) (pnB (pv 3)))) (pb (pIx (pb (pIx (pnB (pv 0)) (pnB (pv 5)))) (pnB (pv 6)))))) (nomark _)) (pssOne (psRet (pb (pcB pe_bl)))) pssNil))))))) (pssOne (psRet (pb (pcB pe_bl)))))))))

theorem sc_loop_world : FnScope ["rows", "_", "a"] ["rows"] (defScope s_loop_world) := ⟨rfl, rfl, rfl, by decide +kernel, rfl, by decide +kernel, by decide +kernel⟩
def w_loop_world (c_NotLoops : Value) : WS := (wSeq (wIfS (wtOr (wtNot (wTst (wFn W_has_loop_form (waCons (wVarD 0) waNil)))) (wtNot (wTst (wCall (fAll fun bs => bs.all id) (waCons (wfD (wLc (wiR1 (wCall fLen (waCons (wVar 0) waNil))) (bName 2) wTy (wFn W_is_loop_at (waCons (wVarD 0) (waCons (wVarD 2) waNil))) [2])) waNil))))) (wRaise c_NotLoops) wNil) (wRet (wTup (waCons (wC (.int 1)) (waCons (wCall fTupOf (waCons (wfD (wLc (wi1 (wVarD 0)) (bName 1) wTy (wTup (waCons (wC (.int 0)) (waCons (wC (.int 0)) waNil))) [1])) waNil)) (waCons (wVarD 0) waNil))))))
theorem der_loop_world (T : Txt K mg) (G_has_loop_form : FnOk P w K mg base CX0 3 T.f_has_loop_form T.fd_has_loop_form ["rows"] (spD K W_has_loop_form)) (G_is_loop_at : FnOk P w K mg base CX0 1 T.f_is_loop_at T.fd_is_loop_at ["rows", "a"] (spD K W_is_loop_at)) : ∀ (cdv : Value) (A : Around) (outer : List Env) (s : Shared) (H : Hp) (E : XK), Room 3 (A.deeper (envOfC "loop_world" (defScope s_loop_world) s.heap.objs.size T.f_loop_world cdv)) → PSs (cxOf (L2.CX P w) P w K mg base ["rows", "_", "a"] "loop_world" (defScope s_loop_world) T.f_loop_world cdv A outer s H E) (defBody s_loop_world) (tSx K E (w_loop_world (T.c_NotLoops))) :=
  fun cdv A outer s H E hr => have hu := hr.units; have hu5 := units65 hr; (pssCons (psIf (PW.pt (ptOr (ptNot (ptV (pFn G_has_loop_form (hr.mono (by decide)) (by rfl) T.g_has_loop_form T.F_has_loop_form.kp T.b_has_loop_form (paC (pnD (pv 0)) paN)))) (ptOr1 (ptNot (ptV (pB1 (cr_all rfl) cd_all (by rfl) T.m_all boot_all (pb (pf (pLc (own := [("a", 2)]) rfl sc_loop_world.nd (piRg1 (by rfl) T.m_range (pLen rfl (by rfl) T.m_len (pnB (pv 0)))) (blkOk_by (by kernel_rfl)) (fun _ _ _ _ _ => (pgName (pg_name (i := 2) sc_loop_world.nd rfl (by first | exact Or.inl rfl | exact Or.inr rfl)))) (fun _ _ _ _ _ => ptsN) (fun _ _ _ _ _ => (pFn G_is_loop_at (hr.mono (by decide)) (by rfl) T.g_is_loop_at T.F_is_loop_at.kp T.b_is_loop_at (paC (pnD (pv 0)) (paC (pnD (pv 2)) paN)))) (by decide)))))))))) (pssOne (psRaise rfl (takes_of rfl rfl rfl rfl) (pmk_own PySem.F.excBase_ValueError T.xq_NotLoops T.xg_NotLoops T.xk_NotLoops (raises_own T.xs_NotLoops T.xt_NotLoops) (by rfl)))) pssNil) (pssOne (psRet (pb (pTup (paC (pcI pe_int) (paC (pT1 call_tuple_of cd_tup (by rfl) T.m_tuple boot_tuple (pb (pf (pLc (own := [("_", 1)]) rfl sc_loop_world.nd (piSeq (pnD (pv 0))) (blkOk_by (by kernel_rfl)) (fun _ _ _ _ _ => (pgName (pg_name (i := 1) sc_loop_world.nd rfl (by first | exact Or.inl rfl | exact Or.inr rfl)))) (fun _ _ _ _ _ => ptsN) (fun _ _ _ _ _ => (pTup (paC (pcI pe_int) (paC (pcI pe_int) paN)))) (by decide))))) (paC (pnD (pv 0)) paN))))))))

theorem sc__law_table : FnScope ["m", "moves", "step", "word", "size", "k", "one", "two", "both", "a", "x", "b"] ["m"] (defScope s__law_table) := ⟨rfl, rfl, rfl, by decide +kernel, rfl, by decide +kernel, by decide +kernel⟩
def w__law_table : WS := (wSeq (wUnp (bTup (bCons (bName 3) (bCons (bName 4) bNil))) (wTup (waCons (wFn W__law_draw (waCons (wVarD 0) (waCons (wC (.int 4)) waNil))) (waCons (w2 fAdd (wC (.int 1)) (wFn W__law_draw (waCons (wVarD 0) (waCons (wC (.int 3)) waNil)))) waNil)))) (wSeq (wIfS (wTst (w2 (fEq false) (wVar 3) (wC (.int 0)))) (wSeq (wSetD 5 (w2 fAdd (wC (.int 1)) (wFn W__law_draw (waCons (wVarD 0) (waCons (wC (.int 9)) waNil))))) (wRet (wCall fTupOf (waCons (wfD (wLc (wiR1 (wVarD 5)) (bName 9) wTy (wCall fTupOf (waCons (wfD (wLc (wiR1 (wVarD 5)) (bName 11) wTy (w2 fMod (wCall fInt (waCons (w2 fAdd (wVar 9) (wVar 11)) waNil)) (wVar 5)) [11])) waNil)) [9])) waNil)))) wNil) (wSeq (wIfS (wTst (w2 (fEq false) (wVar 3) (wC (.int 1)))) (wSeq (wSetD 5 (w2 fAdd (wC (.int 1)) (wFn W__law_draw (waCons (wVarD 0) (waCons (wC (.int 7)) waNil))))) (wRet (wCall fTupOf (waCons (wfD (wLc (wiR1 (wVarD 5)) (bName 9) wTy (wCall fTupOf (waCons (wfD (wLc (wiR1 (wVarD 5)) (bName 11) wTy (wCall fMax2 (waCons (wVar 9) (waCons (wVar 11) waNil))) [11])) waNil)) [9])) waNil)))) wNil) (wSeq (wSetF 1 (wLst (waCons (wTupRg (wr1 (wVarD 4))) waNil))) (wSeq (wFor (wiR1 (w2 fAdd (wC (.int 1)) (wFn W__law_draw (waCons (wVarD 0) (waCons (wC (.int 2)) waNil))))) (bName 2) (wSeq (wSetD 6 (wCall fTupOf (waCons (wfD (wLc (wiR1 (wVarD 4)) (bName 10) wTy (wFn W__law_draw (waCons (wVarD 0) (waCons (wVarD 4) waNil))) [10])) waNil))) (wSetF 1 (wAddF (wVar 1) (wIf (wTst (w2 (fIn true) (wVar 6) (wVar 1))) (wfD (wLst (waCons (wVarD 6) waNil))) (wfD (wLst waNil))))))) (wSeq (wFor (wiR1 (wC (.int 30))) (bName 2) (wIfS (wTst (w2 fLt (wVar 2) (wCall fLen (waCons (wVar 1) waNil)))) (wFor (wi1 (wSl (wVar 1) woN woN)) (bName 7) (wFor (wi1 (wTup (waCons (wCall fTupOf (waCons (wfD (wLc (wi1 (w2 fIx (wVar 1) (wVar 2))) (bName 10) wTy (w2 fIx (wVar 7) (wVar 10)) [10])) waNil)) (waCons (wCall fTupOf (waCons (wfD (wLc (wi1 (wVarD 7)) (bName 10) wTy (w2 fIx (w2 fIx (wVar 1) (wVar 2)) (wVar 10)) [10])) waNil)) waNil)))) (bName 8) (wIfS (wTst (w2 (fIn true) (wVar 8) (wVar 1))) (wApp 1 (wVarD 8)) wNil))) wNil)) (wFrz 1 (wRet (wCall fTupOf (waCons (wfD (wLc (wi1 (wVarD 1)) (bName 6) wTy (wCall fTupOf (waCons (wfD (wLc (wi1 (wVarD 1)) (bName 7) wTy (wIndex (wVar 1) (wCall fTupOf (waCons (wfD (wLc (wi1 (wVarD 6)) (bName 10) wTy (w2 fIx (wVar 7) (wVar 10)) [10])) waNil))) [7])) waNil)) [6])) waNil))))))))))
theorem der__law_table (T : Txt K mg) (G__law_draw : FnOk P w K mg base CX0 1 T.f__law_draw T.fd__law_draw ["m", "bound"] (spD K W__law_draw)) : ∀ (cdv : Value) (A : Around) (outer : List Env) (s : Shared) (H : Hp) (E : XK), Room 1 (A.deeper (envOfC "_law_table" (defScope s__law_table) s.heap.objs.size T.f__law_table cdv)) → PSs (cxOf CX0 P w K mg base ["m", "moves", "step", "word", "size", "k", "one", "two", "both", "a", "x", "b"] "_law_table" (defScope s__law_table) T.f__law_table cdv A outer s H E).nox (defBody s__law_table) (tSt K (w__law_table)) :=
  fun cdv A outer s H E hr => have hu := hr.units; have hu5 := units65 hr; (pssCons (psUnp (ps_asg (pTup (paC (pFn G__law_draw (hr.mono (by decide)) (by rfl) T.g__law_draw T.F__law_draw.kp T.b__law_draw (paC (pnD (pv 0)) (paC (pcI pe_int) paN))) (paC (pBin op_addD od_add (pb (pcI pe_int)) (pb (pFn G__law_draw (hr.mono (by decide)) (by rfl) T.g__law_draw T.F__law_draw.kp T.b__law_draw (paC (pnD (pv 0)) (paC (pcI pe_int) paN))))) paN))) (pgTup rfl (pgCons (pgName (pg_name (i := 3) sc__law_table.nd rfl (by first | exact Or.inl rfl | exact Or.inr rfl))) (pgCons (pgName (pg_name (i := 4) sc__law_table.nd rfl (by first | exact Or.inl rfl | exact Or.inr rfl))) pgNil)) rfl rfl (bCons_len (bCons_len bNil_len))))) (pssCons (psIf (pTc (op_eqD hu) od_eq (pnB (pv 3)) (pb (pcI pe_int)) (nomark _)) (pssCons (psSetD (ps_set (i := 5) sc__law_table.nd rfl (by first | exact Or.inl rfl | exact Or.inr rfl) (pBin op_addD od_add (pb (pcI pe_int)) (pb (pFn G__law_draw (hr.mono (by decide)) (by rfl) T.g__law_draw T.F__law_draw.kp T.b__law_draw (paC (pnD (pv 0)) (paC (pcI pe_int) paN))))))) (pssOne (psRet (pb (pT1 call_tuple_of cd_tup (by rfl) T.m_tuple boot_tuple (pb (pf (pLc (own := [("a", 9)]) rfl sc__law_table.nd (piRg1 (by rfl) T.m_range (pnD (pv 5))) (blkOk_by (by kernel_rfl)) (fun _ _ _ _ _ => (pgName (pg_name (i := 9) sc__law_table.nd rfl (by first | exact Or.inl rfl | exact Or.inr rfl)))) (fun _ _ _ _ _ => ptsN) (fun _ _ _ _ _ => (pT1 call_tuple_of cd_tup (by rfl) T.m_tuple boot_tuple (pb (pf (pLc (own := [("b", 11)]) rfl sc__law_table.nd (piRg1 (by rfl) T.m_range (pnD (pv 5))) (blkOk_by (by kernel_rfl)) (fun _ _ _ _ _ => (pgName (pg_name (i := 11) sc__law_table.nd rfl (by first | exact Or.inl rfl | exact Or.inr rfl)))) (fun _ _ _ _ _ => ptsN) (fun _ _ _ _ _ => (pBin op_mod od_II (pb (pT1 call_int1 cd_int (by rfl) T.m_int boot_int (pb (pBin op_addD od_add (pnB (pv 9)) (pnB (pv 11)))))) (pnB (pv 5)))) (by decide)))))) (by decide))))))))) pssNil) (pssCons (psIf (pTc (op_eqD hu) od_eq (pnB (pv 3)) (pb (pcI pe_int)) (nomark _)) (pssCons (psSetD (ps_set (i := 5) sc__law_table.nd rfl (by first | exact Or.inl rfl | exact Or.inr rfl) (pBin op_addD od_add (pb (pcI pe_int)) (pb (pFn G__law_draw (hr.mono (by decide)) (by rfl) T.g__law_draw T.F__law_draw.kp T.b__law_draw (paC (pnD (pv 0)) (paC (pcI pe_int) paN))))))) (pssOne (psRet (pb (pT1 call_tuple_of cd_tup (by rfl) T.m_tuple boot_tuple (pb (pf (pLc (own := [("a", 9)]) rfl sc__law_table.nd (piRg1 (by rfl) T.m_range (pnD (pv 5))) (blkOk_by (by kernel_rfl)) (fun _ _ _ _ _ => (pgName (pg_name (i := 9) sc__law_table.nd rfl (by first | exact Or.inl rfl | exact Or.inr rfl)))) (fun _ _ _ _ _ => ptsN) (fun _ _ _ _ _ => (pT1 call_tuple_of cd_tup (by rfl) T.m_tuple boot_tuple (pb (pf (pLc (own := [("b", 11)]) rfl sc__law_table.nd (piRg1 (by rfl) T.m_range (pnD (pv 5))) (blkOk_by (by kernel_rfl)) (fun _ _ _ _ _ => (pgName (pg_name (i := 11) sc__law_table.nd rfl (by first | exact Or.inl rfl | exact Or.inr rfl)))) (fun _ _ _ _ _ => ptsN) (fun _ _ _ _ _ => (pB2 (call_max2 rfl) cd_max2 (by rfl) T.m_max boot_max (pnB (pv 9)) (pnB (pv 11)))) (by decide)))))) (by decide))))))))) pssNil) (pssCons (psSetF (ps_set (i := 1) sc__law_table.nd rfl (by first | exact Or.inl rfl | exact Or.inr rfl) (pLstF (paC (pTupRg rfl (by rfl) T.m_tuple (pRg1 (by rfl) T.m_range (pnD (pv 4)))) paN)))) (pssCons (psFor PassesOwn.never rfl (piRg1 (by rfl) T.m_range (pBin op_addD od_add (pb (pcI pe_int)) (pb (pFn G__law_draw (hr.mono (by decide)) (by rfl) T.g__law_draw T.F__law_draw.kp T.b__law_draw (paC (pnD (pv 0)) (paC (pcI pe_int) paN)))))) (pgName (pg_name (i := 2) sc__law_table.nd rfl (by first | exact Or.inl rfl | exact Or.inr rfl))) (pssCons (psSetD (ps_set (i := 6) sc__law_table.nd rfl (by first | exact Or.inl rfl | exact Or.inr rfl) (pT1 call_tuple_of cd_tup (by rfl) T.m_tuple boot_tuple (pb (pf (pLc (own := [("x", 10)]) rfl sc__law_table.nd (piRg1 (by rfl) T.m_range (pnD (pv 4))) (blkOk_by (by kernel_rfl)) (fun _ _ _ _ _ => (pgName (pg_name (i := 10) sc__law_table.nd rfl (by first | exact Or.inl rfl | exact Or.inr rfl)))) (fun _ _ _ _ _ => ptsN) (fun _ _ _ _ _ => (pFn G__law_draw (hr.mono (by decide)) (by rfl) T.g__law_draw T.F__law_draw.kp T.b__law_draw (paC (pnD (pv 0)) (paC (pnD (pv 4)) paN)))) (by decide))))))) (pssOne (psSetF (ps_set (i := 1) sc__law_table.nd rfl (by first | exact Or.inl rfl | exact Or.inr rfl) (pAddF (pnB (pv 1)) (pb (pIf (pTc (op_notInD hu5) od_notIn (pnB (pv 6)) (pnB (pv 1)) (by rfl)) (pf (pLstF (paC (pnD (pv 6)) paN))) (pf (pLstF paN)))))))))) (pssCons (psFor PassesOwn.never rfl (piRg1 (by rfl) T.m_range (pcI pe_int)) (pgName (pg_name (i := 2) sc__law_table.nd rfl (by first | exact Or.inl rfl | exact Or.inr rfl))) (pssOne (psIf (pTc op_lt od_B0 (pnB (pv 2)) (pb (pLen rfl (by rfl) T.m_len (pnB (pv 1)))) (nomark _)) (pssOne (psFor PassesOwn.never rfl (piSeq (pSl (pnB (pv 1)) poN poN)) (pgName (pg_name (i := 7) sc__law_table.nd rfl (by first | exact Or.inl rfl | exact Or.inr rfl))) (pssOne (psFor PassesOwn.never rfl (piSeq (pTup (paC (pT1 call_tuple_of cd_tup (by rfl) T.m_tuple boot_tuple (pb (pf (pLc (own := [("x", 10)]) rfl sc__law_table.nd (piSeq (pIx (pnB (pv 1)) (pnB (pv 2)))) (blkOk_by (by kernel_rfl)) (fun _ _ _ _ _ => (pgName (pg_name (i := 10) sc__law_table.nd rfl (by first | exact Or.inl rfl | exact Or.inr rfl)))) (fun _ _ _ _ _ => ptsN) (fun _ _ _ _ _ => (pIx (pnB (pv 7)) (pnB (pv 10)))) (by decide))))) (paC (pT1 call_tuple_of cd_tup (by rfl) T.m_tuple boot_tuple (pb (pf (pLc (own := [("x", 10)]) rfl sc__law_table.nd (piSeq (pnD (pv 7))) (blkOk_by (by kernel_rfl)) (fun _ _ _ _ _ => (pgName (pg_name (i := 10) sc__law_table.nd rfl (by first | exact Or.inl rfl | exact Or.inr rfl)))) (fun _ _ _ _ _ => ptsN) (fun _ _ _ _ _ => (pIx (pb (pIx (pnB (pv 1)) (pnB (pv 2)))) (pnB (pv 10)))) (by decide))))) paN)))) (pgName (pg_name (i := 8) sc__law_table.nd rfl (by first | exact Or.inl rfl | exact Or.inr rfl))) (pssOne (psIf (pTc (op_notInD hu5) od_notIn (pnB (pv 8)) (pnB (pv 1)) (by rfl)) (pssOne (psApp (i := 1) (ps_expr (pe_bm PySem.F.plainAttrs_list PySem.F.slot_list_append PySem.F.type_list_append mt_append (pv 1) (pa_cons (pnD (pv 8)) pa_nil))))) pssNil)))))) pssNil))) (pssFrz (i := 1) (pssOne (psRet (pb (pT1 call_tuple_of cd_tup (by rfl) T.m_tuple boot_tuple (pb (pf (pLc (own := [("one", 6)]) rfl sc__law_table.nd (piSeq (pnD (pv 1))) (blkOk_by (by kernel_rfl)) (fun _ _ _ _ _ => (pgName (pg_name (i := 6) sc__law_table.nd rfl (by first | exact Or.inl rfl | exact Or.inr rfl)))) (fun _ _ _ _ _ => ptsN) (fun _ _ _ _ _ => (pT1 call_tuple_of cd_tup (by rfl) T.m_tuple boot_tuple (pb (pf (pLc (own := [("two", 7)]) rfl sc__law_table.nd (piSeq (pnD (pv 1))) (blkOk_by (by kernel_rfl)) (fun _ _ _ _ _ => (pgName (pg_name (i := 7) sc__law_table.nd rfl (by first | exact Or.inl rfl | exact Or.inr rfl)))) (fun _ _ _ _ _ => ptsN) (fun _ _ _ _ _ => (pIndex hu5 (pnB (pv 1)) (pb (pT1 call_tuple_of cd_tup (by rfl) T.m_tuple boot_tuple (pb (pf (pLc (own := [("x", 10)]) rfl sc__law_table.nd (piSeq (pnD (pv 6))) (blkOk_by (by kernel_rfl)) (fun _ _ _ _ _ => (pgName (pg_name (i := 10) sc__law_table.nd rfl (by first | exact Or.inl rfl | exact Or.inr rfl)))) (fun _ _ _ _ _ => ptsN) (fun _ _ _ _ _ => (pIx (pnB (pv 7)) (pnB (pv 10)))) (by decide)))))))) (by decide)))))) (by decide)))))))))))))))

theorem sc__law_bent : FnScope ["m", "table", "rows_so", "word", "k", "a", "b", "row"] ["m", "table"] (defScope s__law_bent) := ⟨rfl, rfl, rfl, by decide +kernel, rfl, by decide +kernel, by decide +kernel⟩
def w__law_bent : WS := (wSeq (wPar 3 4 (waCons (wFn W__law_draw (waCons (wVarD 0) (waCons (wC (.int 8)) waNil))) (waCons (wCall fLen (waCons (wVar 1) waNil)) waNil))) (wSeq (wPar 5 6 (waCons (wFn W__law_draw (waCons (wVarD 0) (waCons (wVarD 4) waNil))) (waCons (wFn W__law_draw (waCons (wVarD 0) (waCons (wVarD 4) waNil))) waNil))) (wNest 2 5 6 (wLcF (wi1 (wVarD 1)) (bName 7) (wListOf (wVar 7)) [7]) (wTst (w2 fLt (wVar 3) (wC (.int 3)))) (wFn W__law_of (waCons (wVarD 0) (waCons (wfD (wLst (waCons (wFn W__law_draw (waCons (wVarD 0) (waCons (wVarD 4) waNil))) (waCons (wVarD 4) (waCons (wNeg (wC (.int 1))) (waCons (wC (.bool true)) (waCons (wC (.str "0")) (waCons (wC .none) (waCons (wC (.int 0)) (waCons (w2 fPow (wC (.int 10)) (wC (.int 20))) (waCons (wfD (wLst waNil)) (waCons (wTup waNil) waNil)))))))))))) waNil))) (wRet (wCall fTupOf (waCons (wfD (wLc (wi1 (wVarD 2)) (bName 7) wTy (wCall fTupOf (waCons (wVar 7) waNil)) [7])) waNil))) (wSeq (wIfS (wTst (w2 (fEq false) (wVar 3) (wC (.int 3)))) (wRet (w2 fAdd (wSl (wVar 1) woN (woS (wVarD 5))) (wSl (wVar 1) (woS (w2 fAdd (wVar 5) (wC (.int 1)))) woN))) wNil) (wSeq (wIfS (wTst (w2 (fEq false) (wVar 3) (wC (.int 4)))) (wRet (wCall fTupOf (waCons (w2 fAdd (wfD (wLc (wi1 (wSl (wVar 2) woN (woS (wNeg (wC (.int 1)))))) (bName 7) wTy (wCall fTupOf (waCons (wVar 7) waNil)) [7])) (wfD (wLst (waCons (wfD (wListOf (w2 fIx (wVar 2) (wNeg (wC (.int 1)))))) waNil)))) waNil))) wNil) (wSeq (wIfS (wTst (w2 (fEq false) (wVar 3) (wC (.int 5)))) (wRet (wCall fTupOf (waCons (wfD (wLc (wi1 (wVarD 1)) (bName 7) wTy (w2 fAdd (wVar 7) (wTup (waCons (wC (.int 0)) waNil))) [7])) waNil))) wNil) (wRet (wFn W__law_of (waCons (wVarD 0) (waCons (wfD (wLst (waCons (wC .none) (waCons (wTup waNil) (waCons (wfD (wLst waNil)) (waCons (wC (.int 0)) (waCons (wC (.bool true)) (waCons (wC (.str "loops")) (waCons (wC (.dict [])) (waCons (wfD (wListOf (wVar 1))) (waCons (wTup (waCons (wTup waNil) waNil)) (waCons (wTup (waCons (wTup (waCons (wC (.bool true)) waNil)) waNil)) (waCons (wTup (waCons (wTup (waCons (wC (.str "0")) waNil)) waNil)) (waCons (wTup (waCons (wTup (waCons (wC (.int 0)) (waCons (wC (.int 1)) waNil))) (waCons (wTup (waCons (wC (.int 1)) waNil)) waNil))) (waCons (wTup (waCons (wC (.int 0)) waNil)) waNil))))))))))))))) waNil))))))))))
theorem der__law_bent (T : Txt K mg) (G__law_draw : FnOk P w K mg base CX0 1 T.f__law_draw T.fd__law_draw ["m", "bound"] (spD K W__law_draw)) (G__law_of : FnOk P w K mg base CX0 2 T.f__law_of T.fd__law_of ["m", "some"] (spD K W__law_of)) : ∀ (cdv : Value) (A : Around) (outer : List Env) (s : Shared) (H : Hp) (E : XK), Room 2 (A.deeper (envOfC "_law_bent" (defScope s__law_bent) s.heap.objs.size T.f__law_bent cdv)) → PSs (cxOf CX0 P w K mg base ["m", "table", "rows_so", "word", "k", "a", "b", "row"] "_law_bent" (defScope s__law_bent) T.f__law_bent cdv A outer s H E).nox (defBody s__law_bent) (tSt K (w__law_bent)) :=
  fun cdv A outer s H E hr => have hu := hr.units; have hu5 := units65 hr; (pssCons (psPar (ps_par (i := 3) (j := 4) rfl sc__law_bent.nd rfl rfl (by decide) rfl rfl (paC (pFn G__law_draw (hr.mono (by decide)) (by rfl) T.g__law_draw T.F__law_draw.kp T.b__law_draw (paC (pnD (pv 0)) (paC (pcI pe_int) paN))) (paC (pLen rfl (by rfl) T.m_len (pnB (pv 1))) paN)) (by rfl))) (pssCons (psPar (ps_par (i := 5) (j := 6) rfl sc__law_bent.nd rfl rfl (by decide) rfl rfl (paC (pFn G__law_draw (hr.mono (by decide)) (by rfl) T.g__law_draw T.F__law_draw.kp T.b__law_draw (paC (pnD (pv 0)) (paC (pnD (pv 4)) paN))) (paC (pFn G__law_draw (hr.mono (by decide)) (by rfl) T.g__law_draw T.F__law_draw.kp T.b__law_draw (paC (pnD (pv 0)) (paC (pnD (pv 4)) paN))) paN)) (by rfl))) (pssNest (i := 2) (ja := 5) (jb := 6) (psSetLcN (i := 2) (own := [("row", 7)]) sc__law_bent.nd rfl rfl (sw_true rfl rfl rfl (by kernel_rfl)) rfl (piSeq (pnD (pv 1))) (blkOk_by (by kernel_rfl)) (fun _ _ _ _ _ => (pgName (pg_name (i := 7) sc__law_bent.nd rfl (by first | exact Or.inl rfl | exact Or.inr rfl)))) (fun _ _ _ _ _ => (pListOfF rfl (by rfl) T.m_list (pnB (pv 7)))) (by decide)) (pTc op_lt od_B0 (pnB (pv 3)) (pb (pcI pe_int)) (nomark _)) (ps_asg (pFn G__law_of (hr.mono (by decide)) (by rfl) T.g__law_of T.F__law_of.kp T.b__law_of (paC (pnD (pv 0)) (paC (pf (pLstF (paC (pFn G__law_draw (hr.mono (by decide)) (by rfl) T.g__law_draw T.F__law_draw.kp T.b__law_draw (paC (pnD (pv 0)) (paC (pnD (pv 4)) paN))) (paC (pnD (pv 4)) (paC (pNeg (pcI pe_int)) (paC (pcB pe_bl) (paC (pcS pe_str) (paC (pcN pe_non) (paC (pcI pe_int) (paC (pBin op_pow od_II (pb (pcI pe_int)) (pb (pcI pe_int))) (paC (pf (pLstF paN)) (paC (pTup paN) paN)))))))))))) paN))) (pg_sub (pe_ix ix_list (pv 2) (pv 5) (fun _ _ => rfl)) (pv 6) set_list (fun _ => rfl))) (pssOne (psRet (pb (pT1 call_tuple_of cd_tup (by rfl) T.m_tuple boot_tuple (pb (pf (pLc (own := [("row", 7)]) rfl sc__law_bent.nd (piSeq (pnD (pv 2))) (blkOk_by (by kernel_rfl)) (fun _ _ _ _ _ => (pgName (pg_name (i := 7) sc__law_bent.nd rfl (by first | exact Or.inl rfl | exact Or.inr rfl)))) (fun _ _ _ _ _ => ptsN) (fun _ _ _ _ _ => (pT1 call_tuple_of cd_tup (by rfl) T.m_tuple boot_tuple (pnB (pv 7)))) (by decide)))))))) (pssCons (psIf (pTc (op_eqD hu) od_eq (pnB (pv 3)) (pb (pcI pe_int)) (nomark _)) (pssOne (psRet (pb (pBin op_addD od_add (pb (pSl (pnB (pv 1)) poN (poS (pnD (pv 5))))) (pb (pSl (pnB (pv 1)) (poS (pBin op_addD od_add (pnB (pv 5)) (pb (pcI pe_int)))) poN)))))) pssNil) (pssCons (psIf (pTc (op_eqD hu) od_eq (pnB (pv 3)) (pb (pcI pe_int)) (nomark _)) (pssOne (psRet (pb (pT1 call_tuple_of cd_tup (by rfl) T.m_tuple boot_tuple (pb (pBin op_addD od_add (pb (pf (pLc (own := [("row", 7)]) rfl sc__law_bent.nd (piSeq (pSl (pnB (pv 2)) poN (poS (pNeg (pcI pe_int))))) (blkOk_by (by kernel_rfl)) (fun _ _ _ _ _ => (pgName (pg_name (i := 7) sc__law_bent.nd rfl (by first | exact Or.inl rfl | exact Or.inr rfl)))) (fun _ _ _ _ _ => ptsN) (fun _ _ _ _ _ => (pT1 call_tuple_of cd_tup (by rfl) T.m_tuple boot_tuple (pnB (pv 7)))) (by decide)))) (pb (pf (pLstF (paC (pf (pListOfF rfl (by rfl) T.m_list (pb (pIx (pnB (pv 2)) (pb (pNeg (pcI pe_int))))))) paN)))))))))) pssNil) (pssCons (psIf (pTc (op_eqD hu) od_eq (pnB (pv 3)) (pb (pcI pe_int)) (nomark _)) (pssOne (psRet (pb (pT1 call_tuple_of cd_tup (by rfl) T.m_tuple boot_tuple (pb (pf (pLc (own := [("row", 7)]) rfl sc__law_bent.nd (piSeq (pnD (pv 1))) (blkOk_by (by kernel_rfl)) (fun _ _ _ _ _ => (pgName (pg_name (i := 7) sc__law_bent.nd rfl (by first | exact Or.inl rfl | exact Or.inr rfl)))) (fun _ _ _ _ _ => ptsN) (fun _ _ _ _ _ => (pBin op_addD od_add (pnB (pv 7)) (pb (pTup (paC (pcI pe_int) paN))))) (by decide)))))))) pssNil) (pssOne (psRet (pb (pFn G__law_of (hr.mono (by decide)) (by rfl) T.g__law_of T.F__law_of.kp T.b__law_of (paC (pnD (pv 0)) (paC (pf (pLstF (paC (pcN pe_non) (paC (pTup paN) (paC (pf (pLstF paN)) (paC (pcI pe_int) (paC (pcB pe_bl) (paC (pcS pe_str) (paC pDict0 (paC (pf (pListOfF rfl (by rfl) T.m_list (pnB (pv 1)))) (paC (pTup (paC (pTup paN) paN)) (paC (pTup (paC (pTup (paC (pcB pe_bl) paN)) paN)) (paC (pTup (paC (pTup (paC (pcS pe_str) paN)) paN)) (paC (pTup (paC (pTup (paC (pcI pe_int) (paC (pcI pe_int) paN))) (paC (pTup (paC (pcI pe_int) paN)) paN))) (paC (pTup (paC (pcI pe_int) paN)) paN))))))))))))))) paN))))))))))))

theorem sc_law : FnScope ["script", "turn", "forty", "more", "m", "table", "step", "value", "a", "b"] ["script"] (defScope s_law) := ⟨rfl, rfl, rfl, by decide +kernel, rfl, by decide +kernel, by decide +kernel⟩
def w_law (c_NotLoops : Value) : WS := (wSeq (wFor (wiR1 (wCall fMax2 (waCons (wC (.int 1)) (waCons (wCall fMin2 (waCons (wC (.int 4)) (waCons (wCall fLen (waCons (wVar 0) waNil)) waNil))) waNil)))) (bName 1) (wSeq (wSetD 4 (wFn W__law_begun (waCons (wVarD 0) (waCons (wVarD 1) waNil)))) (wSeq (wSetD 5 (wFn W__law_table (waCons (wVarD 4) waNil))) (wSeq (wIfS (wtNot (wTst (wFn W__law_like (waCons (wfD (wLst (waCons (wFnX (W_loop_world c_NotLoops) (waCons (wVarD 5) waNil)) (waCons (wFnX (W_loop_world c_NotLoops) (waCons (wVarD 5) waNil)) waNil)))) (waCons (w2 fMul (wfD (wLst (waCons (wFn W__law_loops (waCons (wVarD 5) waNil)) waNil))) (wC (.int 2))) waNil))))) (wRet (wC (.bool false))) wNil) (wSeq (wIfS (wTst (wIsN true (wFn W_world_breach (waCons (wFnX (W_loop_world c_NotLoops) (waCons (wVarD 5) waNil)) waNil)))) (wRet (wC (.bool false))) wNil) (wFor (wiR1 (wC (.int 4))) (bName 6) (wSeq (wSetD 7 (wFn W__law_bent (waCons (wVarD 4) (waCons (wVarD 5) waNil)))) (wIfS (wtNot (wTst (wFn W__law_like (waCons (wFn W__law_heard (waCons (wVarD 7) waNil)) (waCons (wIf (wTst (wFn W__law_good (waCons (wVarD 7) waNil))) (wfD (wLst (waCons (wFn W__law_loops (waCons (wVarD 7) waNil)) waNil))) (wC (.str "loops"))) waNil))))) (wRet (wC (.bool false))) wNil)))))))) (wSeq (wSetD 2 (wCall fTupOf (waCons (wfD (wLc (wiR1 (wC (.int 40))) (bName 8) wTy (wCall fTupOf (waCons (wfD (wLc (wiR1 (wC (.int 40))) (bName 9) wTy (wCall fMax2 (waCons (wVar 8) (waCons (wVar 9) waNil))) [9])) waNil)) [8])) waNil))) (wSeq (wSetD 3 (wCall fTupOf (waCons (wfD (wLc (wiR1 (wC (.int 41))) (bName 8) wTy (wCall fTupOf (waCons (wfD (wLc (wiR1 (wC (.int 41))) (bName 9) wTy (wCall fMax2 (waCons (wVar 8) (waCons (wVar 9) waNil))) [9])) waNil)) [8])) waNil))) (wSeq (wIfS (wtAnd (wTst (w2 (fEq false) (wFn W__law_draw (waCons (wVarD 4) (waCons (wC (.int 6)) waNil))) (wC (.int 0)))) (wtNot (wTst (wFn W__law_like (waCons (wFn W__law_heard (waCons (wVarD 2) waNil)) (waCons (wfD (wLst (waCons (wFn W__law_loops (waCons (wVarD 2) waNil)) waNil))) waNil)))))) (wRet (wC (.bool false))) wNil) (wRet (wFn W__law_like (waCons (wfD (wLst (waCons (wFn W__law_heard (waCons (wVarD 3) waNil)) (waCons (wFn W__law_heard (waCons (wTup (waCons (wTup (waCons (wC (.int 0)) waNil)) waNil)) waNil)) waNil)))) (waCons (wfD (wLst (waCons (wC (.str "loops")) (waCons (wfD (wLst (waCons (wTup (waCons (wC (.int 1)) (waCons (wTup (waCons (wTup (waCons (wC (.int 0)) (waCons (wC (.int 0)) waNil))) waNil)) (waCons (wTup (waCons (wTup (waCons (wC (.int 0)) waNil)) waNil)) waNil)))) waNil))) waNil)))) waNil))))))))
theorem der_law (T : Txt K mg) (G__law_begun : FnOk P w K mg base CX0 1 T.f__law_begun T.fd__law_begun ["script", "k"] (spD K W__law_begun)) (G__law_bent : FnOk P w K mg base CX0 3 T.f__law_bent T.fd__law_bent ["m", "table"] (spD K W__law_bent)) (G__law_draw : FnOk P w K mg base CX0 1 T.f__law_draw T.fd__law_draw ["m", "bound"] (spD K W__law_draw)) (G__law_good : FnOk P w K mg base CX0 1 T.f__law_good T.fd__law_good ["value"] (spD K W__law_good)) (G__law_heard : FnOk P w K mg base CX0 5 T.f__law_heard T.fd__law_heard ["value"] (spD K W__law_heard)) (G__law_like : FnG P w K mg base 1 T.f__law_like T.fd__law_like ["got", "due"] (spD K W__law_like)) (G__law_loops : FnOk P w K mg base CX0 1 T.f__law_loops T.fd__law_loops ["rows_so"] (spD K W__law_loops)) (G__law_table : FnOk P w K mg base CX0 2 T.f__law_table T.fd__law_table ["m"] (spD K W__law_table)) (G_loop_world : FnOk P w K mg base (L2.CX P w) 4 T.f_loop_world T.fd_loop_world ["rows"] (spX K (W_loop_world T.c_NotLoops))) (G_world_breach : FnOk P w K mg base CX0 4 T.f_world_breach T.fd_world_breach ["value"] (spD K W_world_breach)) : ∀ (cdv : Value) (A : Around) (outer : List Env) (s : Shared) (H : Hp) (E : XK), (A.deeper (envOfC "law" (defScope s_law) s.heap.objs.size T.f_law cdv)).guards = some [] → Room 5 (A.deeper (envOfC "law" (defScope s_law) s.heap.objs.size T.f_law cdv)) → PSs (cxOf CX0 P w K mg base ["script", "turn", "forty", "more", "m", "table", "step", "value", "a", "b"] "law" (defScope s_law) T.f_law cdv A outer s H E).nox (defBody s_law) (tSt K (w_law (T.c_NotLoops))) :=
  fun cdv A outer s H E hG hr => have hu := hr.units; have hu5 := units65 hr; (pssCons (psFor PassesOwn.never rfl (piRg1 (by rfl) T.m_range (pB2 (call_max2 rfl) cd_max2 (by rfl) T.m_max boot_max (pb (pcI pe_int)) (pb (pB2 (call_min2 rfl) cd_min2 (by rfl) T.m_min boot_min (pb (pcI pe_int)) (pb (pLen rfl (by rfl) T.m_len (pnB (pv 0)))))))) (pgName (pg_name (i := 1) sc_law.nd rfl (by first | exact Or.inl rfl | exact Or.inr rfl))) (pssCons (psSetD (ps_set (i := 4) sc_law.nd rfl (by first | exact Or.inl rfl | exact Or.inr rfl) (pFn G__law_begun (hr.mono (by decide)) (by rfl) T.g__law_begun T.F__law_begun.kp T.b__law_begun (paC (pnD (pv 0)) (paC (pnD (pv 1)) paN))))) (pssCons (psSetD (ps_set (i := 5) sc_law.nd rfl (by first | exact Or.inl rfl | exact Or.inr rfl) (pFn G__law_table (hr.mono (by decide)) (by rfl) T.g__law_table T.F__law_table.kp T.b__law_table (paC (pnD (pv 4)) paN)))) (pssCons (psIf (ptNot (ptV (pFnG G__law_like hG (hr.mono (by decide)) (by rfl) T.g__law_like T.F__law_like.kp T.b__law_like (paC (pf (pLstF (paC (pFnX G_loop_world (hr.mono (by decide)) (by rfl) T.g_loop_world T.F_loop_world.kp T.b_loop_world (paC (pnD (pv 5)) paN)) (paC (pFnXN G_loop_world (hr.mono (by decide)) (by rfl) T.g_loop_world T.F_loop_world.kp T.n_loop_world (pkC (pnD (pv 5)) pkN)) paN)))) (paC (pBin op_mulD od_mul (pb (pf (pLstF (paC (pFn G__law_loops (hr.mono (by decide)) (by rfl) T.g__law_loops T.F__law_loops.kp T.b__law_loops (paC (pnD (pv 5)) paN)) paN)))) (pb (pcI pe_int))) paN))))) (pssOne (psRet (pb (pcB pe_bl)))) pssNil) (pssCons (psIf (ptNotN (pb (pFn G_world_breach (hr.mono (by decide)) (by rfl) T.g_world_breach T.F_world_breach.kp T.b_world_breach (paC (pFnX G_loop_world (hr.mono (by decide)) (by rfl) T.g_loop_world T.F_loop_world.kp T.b_loop_world (paC (pnD (pv 5)) paN)) paN)))) (pssOne (psRet (pb (pcB pe_bl)))) pssNil) (pssOne (psFor PassesOwn.never rfl (piRg1 (by rfl) T.m_range (pcI pe_int)) (pgName (pg_name (i := 6) sc_law.nd rfl (by first | exact Or.inl rfl | exact Or.inr rfl))) (pssCons (psSetD (ps_set (i := 7) sc_law.nd rfl (by first | exact Or.inl rfl | exact Or.inr rfl) (pFn G__law_bent (hr.mono (by decide)) (by rfl) T.g__law_bent T.F__law_bent.kp T.b__law_bent (paC (pnD (pv 4)) (paC (pnD (pv 5)) paN))))) (pssOne (psIf (ptNot (ptV (pFnG G__law_like hG (hr.mono (by decide)) (by rfl) T.g__law_like T.F__law_like.kp T.b__law_like (paC (pFn G__law_heard (hr.mono (by decide)) (by rfl) T.g__law_heard T.F__law_heard.kp T.b__law_heard (paC (pnD (pv 7)) paN)) (paC (pIf (ptV (pFn G__law_good (hr.mono (by decide)) (by rfl) T.g__law_good T.F__law_good.kp T.b__law_good (paC (pnD (pv 7)) paN))) (pf (pLstF (paC (pFn G__law_loops (hr.mono (by decide)) (by rfl) T.g__law_loops T.F__law_loops.kp T.b__law_loops (paC (pnD (pv 7)) paN)) paN))) (pcS pe_str)) paN))))) (pssOne (psRet (pb (pcB pe_bl)))) pssNil)))))))))) (pssCons (psSetD (ps_set (i := 2) sc_law.nd rfl (by first | exact Or.inl rfl | exact Or.inr rfl) (pT1 call_tuple_of cd_tup (by rfl) T.m_tuple boot_tuple (pb (pf (pLc (own := [("a", 8)]) rfl sc_law.nd (piRg1 (by rfl) T.m_range (pcI pe_int)) (blkOk_by (by kernel_rfl)) (fun _ _ _ _ _ => (pgName (pg_name (i := 8) sc_law.nd rfl (by first | exact Or.inl rfl | exact Or.inr rfl)))) (fun _ _ _ _ _ => ptsN) (fun _ _ _ _ _ => (pT1 call_tuple_of cd_tup (by rfl) T.m_tuple boot_tuple (pb (pf (pLc (own := [("b", 9)]) rfl sc_law.nd (piRg1 (by rfl) T.m_range (pcI pe_int)) (blkOk_by (by kernel_rfl)) (fun _ _ _ _ _ => (pgName (pg_name (i := 9) sc_law.nd rfl (by first | exact Or.inl rfl | exact Or.inr rfl)))) (fun _ _ _ _ _ => ptsN) (fun _ _ _ _ _ => (pB2 (call_max2 rfl) cd_max2 (by rfl) T.m_max boot_max (pnB (pv 8)) (pnB (pv 9)))) (by decide)))))) (by decide))))))) (pssCons (psSetD (ps_set (i := 3) sc_law.nd rfl (by first | exact Or.inl rfl | exact Or.inr rfl) (pT1 call_tuple_of cd_tup (by rfl) T.m_tuple boot_tuple (pb (pf (pLc (own := [("a", 8)]) rfl sc_law.nd (piRg1 (by rfl) T.m_range (pcI pe_int)) (blkOk_by (by kernel_rfl)) (fun _ _ _ _ _ => (pgName (pg_name (i := 8) sc_law.nd rfl (by first | exact Or.inl rfl | exact Or.inr rfl)))) (fun _ _ _ _ _ => ptsN) (fun _ _ _ _ _ => (pT1 call_tuple_of cd_tup (by rfl) T.m_tuple boot_tuple (pb (pf (pLc (own := [("b", 9)]) rfl sc_law.nd (piRg1 (by rfl) T.m_range (pcI pe_int)) (blkOk_by (by kernel_rfl)) (fun _ _ _ _ _ => (pgName (pg_name (i := 9) sc_law.nd rfl (by first | exact Or.inl rfl | exact Or.inr rfl)))) (fun _ _ _ _ _ => ptsN) (fun _ _ _ _ _ => (pB2 (call_max2 rfl) cd_max2 (by rfl) T.m_max boot_max (pnB (pv 8)) (pnB (pv 9)))) (by decide)))))) (by decide))))))) (pssCons (psIf (PW.pt (ptAnd (pTc (op_eqD hu) od_eq (pb (pFn G__law_draw (hr.mono (by decide)) (by rfl) T.g__law_draw T.F__law_draw.kp T.b__law_draw (paC (pnD (pv 4)) (paC (pcI pe_int) paN)))) (pb (pcI pe_int)) (nomark _)) (ptAnd1 (ptNot (ptV (pFnG G__law_like hG (hr.mono (by decide)) (by rfl) T.g__law_like T.F__law_like.kp T.b__law_like (paC (pFn G__law_heard (hr.mono (by decide)) (by rfl) T.g__law_heard T.F__law_heard.kp T.b__law_heard (paC (pnD (pv 2)) paN)) (paC (pf (pLstF (paC (pFn G__law_loops (hr.mono (by decide)) (by rfl) T.g__law_loops T.F__law_loops.kp T.b__law_loops (paC (pnD (pv 2)) paN)) paN))) paN)))))))) (pssOne (psRet (pb (pcB pe_bl)))) pssNil) (pssOne (psRet (pb (pFnG G__law_like hG (hr.mono (by decide)) (by rfl) T.g__law_like T.F__law_like.kp T.b__law_like (paC (pf (pLstF (paC (pFn G__law_heard (hr.mono (by decide)) (by rfl) T.g__law_heard T.F__law_heard.kp T.b__law_heard (paC (pnD (pv 3)) paN)) (paC (pFn G__law_heard (hr.mono (by decide)) (by rfl) T.g__law_heard T.F__law_heard.kp T.b__law_heard (paC (pTup (paC (pTup (paC (pcI pe_int) paN)) paN)) paN)) paN)))) (paC (pf (pLstF (paC (pcS pe_str) (paC (pf (pLstF (paC (pTup (paC (pcI pe_int) (paC (pTup (paC (pTup (paC (pcI pe_int) (paC (pcI pe_int) paN))) paN)) (paC (pTup (paC (pTup (paC (pcI pe_int) paN)) paN)) paN)))) paN))) paN)))) paN))))))))))

end
end K10

set_option Elab.async false
set_option linter.all false
set_option maxRecDepth 100000
set_option maxHeartbeats 4000000
namespace K10
open PySem PySem.Spec PyProof.Rows L2 DW
theorem ob_is_number : ∀ u ds Qd, W_is_number u ds Qd → ds.length = 3 ∧ w_is_number { nx := fun _ u' => Qd .none u', rt := Qd } (startR ["value", "low", "high"] ds) u := by
  rintro u ds Qd ⟨v, lo, hi, rfl, hp, q⟩
  refine ⟨rfl, ?_⟩
  cases v <;> try (simp_all [w_is_number, isNum]; done)
  simp [w_is_number]
  rename_i i
  by_cases h1 : lo ≤ i
  · exact .inr ⟨h1, by simpa [isNum, h1] using q⟩
  · exact .inl ⟨by omega, by simpa [isNum, h1] using q⟩
theorem ob_is_row : ∀ u ds Qd, W_is_row u ds Qd → ds.length = 2 ∧ w_is_row { nx := fun _ u' => Qd .none u', rt := Qd } (startR ["value", "many"] ds) u := by
  rintro u ds Qd ⟨v, n, rfl, hp, q⟩
  refine ⟨rfl, ?_⟩
  cases v <;> simp_all [w_is_row, isRow, fEq_int, -fEq]
theorem ob_is_number_row : ∀ u ds Qd, W_is_number_row u ds Qd → ds.length = 4 ∧ w_is_number_row { nx := fun _ u' => Qd .none u', rt := Qd } (startR ["value", "many", "low", "high", "entry"] ds) u := by
  rintro u ds Qd ⟨v, n, lo, hi, rfl, hp, q⟩
  refine ⟨rfl, ?_⟩
  by_cases ht : ∃ xs, v = .tuple xs
  case neg =>
    have e1 : isRow v n = false := by cases v <;> first | rfl | exact absurd ⟨_, rfl⟩ ht
    have e2 : isNumRow v n lo hi = false := by cases v <;> first | rfl | exact absurd ⟨_, rfl⟩ ht
    rw [e2] at q
    simp [w_is_number_row, x_is_row, e1, hp.1, -wComp, -plainD]
    exact q
  obtain ⟨xs, rfl⟩ := ht
  obtain ⟨hp, hx⟩ := hp
  obtain ⟨hl, hx⟩ := hx xs rfl
  simp [w_is_number_row, x_is_row, isRow, hp, -wComp, -plainD]
  by_cases h : (xs.length : Int) = n
  case neg => simpa [isNumRow, h, -wComp] using q
  refine .inr ⟨h, hl, ?_⟩
  refine wComp_map (fun x => .bool (isNum x lo hi)) _ _ _ (fun x hm => ⟨_, rfl, fun u R r => ?_⟩) ?_
  · simp [x_is_number, hx x hm, -plainD]
    exact r
  · refine ⟨xs.map fun x => isNum x lo hi, by simp, ?_⟩
    simpa [isNumRow, h] using q
theorem isNumRow_row {T : List (List Nat)} {r : List Nat} (hT : IsTab T) (hr : r ∈ T) : isNumRow (rowD r) (T.length : Nat) (-1) ((T.length : Int) - 1) = true := by
  obtain ⟨h1, h2⟩ := hT.2.2 r hr
  simp [isNumRow, rowD, h1, isNum]
  intro x hx
  have := h2 x hx
  omega
theorem plain_row {r : List Nat} (h : r.length < 100000) : plainRow (rowD r) := ⟨rfl, fun xs e => by
  unfold rowD at e
  cases e
  refine ⟨by simpa using h, fun x hx => ?_⟩
  obtain ⟨e, _, rfl⟩ := List.mem_map.mp hx
  rfl⟩
theorem ob_has_form : ∀ u ds Qd, W_has_form u ds Qd → ds.length = 1 ∧ w_has_form { nx := fun _ u' => Qd .none u', rt := Qd } (startR ["value", "m", "n", "ends", "table", "row", "pair"] ds) u := by
  rintro u ds Qd ⟨T, rfl, hT, q⟩
  refine ⟨rfl, ?_⟩
  have h1 : isRow (worldD T) 3 = true := rfl
  have h2 : plainD (worldD T) = true := rfl
  have h3 : isNum (.int 1) 0 8 = true := rfl
  have h4 : plainD (tabD T) = true := rfl
  have h5 : isRow (tabD T) (T.length : Nat) = true := by simp [isRow, tabD]
  have h6 : tyName (endsD T.length) = "tuple" := rfl
  have h7 : plainD (endsD T.length) = true := rfl
  have hb : ∀ ρ : Rho, bTup (bCons (bName 2) (bCons (bName 3) (bCons (bName 4) bNil))) (worldD T) ρ = some (((ρ.set 2 (some (.d (.int 1)))).set 3 (some (.d (endsD T.length)))).set 4 (some (.d (tabD T)))) := fun ρ => rfl
  have h8 := hT.1
  have h9 := hT.2.1
  have s1 : ∀ Q : List D → Prop, seqD (endsD T.length) Q = Q (List.replicate T.length (.tuple [.int 0, .int 0])) := fun Q => rfl
  have h10 : (1 : Int) ≤ T.length := by omega
  have h11 : (T.length : Int) ≤ 40 := by omega
  simp [w_has_form, plain_int, x_is_row, x_is_number, h1, h2, h3, h4, h5, h6, h7, hb, fLen_ends, h10, h11, s1, seqD_tab, -bTup, -bCons, -bName, -bNil, -fLen, -seqD, -wComp, -plainD, -tyName]
  refine ⟨by omega, ?_⟩
  refine wComp_map (fun x => .bool true) _ _ _ (fun x hm => ⟨_, rfl, fun u R r => ?_⟩) ?_
  · have e : x = .tuple [.int 0, .int 0] := (List.mem_replicate.mp hm).2
    subst e
    simp [x_is_number_row, isNumRow, isNum]
    exact ⟨plain_row (r := [0, 0]) (by decide), r⟩
  refine ⟨List.replicate T.length true, by simp, ?_⟩
  simp [-wComp]
  refine ⟨by omega, ?_⟩
  refine wComp_map (fun x => .bool true) _ _ _ (fun x hm => ⟨_, rfl, fun u R r => ?_⟩) ?_
  · obtain ⟨y, hy, rfl⟩ := List.mem_map.mp hm
    simp [x_is_number_row, isNumRow_row hT hy]
    exact ⟨plain_row (by have := (hT.2.2 y hy).1; omega), r⟩
  refine ⟨(List.map rowD T).map fun _ => true, by simp, ?_⟩
  have e : ((List.map rowD T).map fun _ => true).all id = true := by
    rw [List.all_eq_true]
    intro x hx
    obtain ⟨_, _, rfl⟩ := List.mem_map.mp hx
    rfl
  show Qd (.bool (((List.map rowD T).map fun _ => true).all id)) u
  rw [e]
  exact q
theorem ob_is_loop_at : ∀ u ds Qd, W_is_loop_at u ds Qd → ds.length = 2 ∧ w_is_loop_at { nx := fun _ u' => Qd .none u', rt := Qd } (startR ["rows", "a", "b", "ab", "c", "bc"] ds) u := by
  rintro u ds Qd ⟨T, a, rfl, hT, ha, q⟩
  refine ⟨rfl, ?_⟩
  have h0 : 0 < T.length := hT.1
  have hra := (hT.row ha).1
  have hr0 := (hT.row h0).1
  simp only [w_is_loop_at, startR]
  simp [fIx_tab, fIx_tab0, fIx_row, fIx_row0, fEq_int, fEq_num, seqD_row, nth_row, Int.ofNat_inj, -fIx, -fEq, -seqD, -wLoop, ha, h0, hra, hr0]
  have bad : loopAt T a ≠ true → Qd (.bool false) u := fun h => by
    rw [Bool.eq_false_iff.mpr h] at q; exact q
  by_cases h1 : at2 T 0 a = a
  case neg => exact .inr ⟨h1, bad fun h => h1 (loopAt_iff.1 h).1⟩
  refine .inl ⟨h1, ?_⟩
  by_cases h2 : at2 T a 0 = a
  case neg => exact .inr ⟨h2, bad fun h => h2 (loopAt_iff.1 h).2.1⟩
  refine .inl ⟨h2, ?_⟩
  refine wLoop_inv _ (fun i ρ u' => u' = u ∧ (∃ s2 s3 s4 s5, ρ = [some (.d (tabD T)), some (.d (.int a)), s2, s3, s4, s5]) ∧ ∀ b, b < i → ∀ c, c < T.length → at2 T (at2 T a b) c = at2 T a (at2 T b c)) ?_ ?_ _ u ⟨rfl, ⟨_, _, _, _, rfl⟩, by omega⟩
  · rintro i x ρ u' F' hx ⟨rfl, ⟨s2, s3, s4, s5, rfl⟩, hall⟩ n1 n2 n3 n4 n5
    obtain ⟨hi, rfl⟩ := en_row hx
    rw [hra] at hi
    refine ⟨_, rfl, ?_⟩
    have hri := (hT.row hi).1
    have hti := hT.lt ha hi
    simp [fIx_tab, seqD_row, nth_row, -fIx, -fEq, -seqD, -wLoop, ha, hi, hra]
    refine wLoop_inv _ (fun j ρ u'' => u'' = u' ∧ (∃ s4 s5, ρ = [some (.d (tabD T)), some (.d (.int a)), some (.d (.int i)), some (.d (.int (at2 T a i))), s4, s5]) ∧ ∀ c, c < j → at2 T (at2 T a i) c = at2 T a (at2 T i c)) ?_ ?_ _ u' ⟨rfl, ⟨_, _, rfl⟩, by omega⟩
    · rintro j x ρ u'' F2 hx ⟨rfl, ⟨s4, s5, rfl⟩, hin⟩ m1 m2 m3 m4 m5
      obtain ⟨hj, rfl⟩ := en_row hx
      rw [hri] at hj
      refine ⟨_, rfl, ?_⟩
      have hrt := (hT.row hti).1
      have hij := hT.lt hi hj
      simp [fIx_tab, fIx_row, fEq_num, nth_row, -fIx, -fEq, -seqD, ha, hi, hj, hra, hti, hrt, hij]
      by_cases hb : at2 T (at2 T a i) j = at2 T a (at2 T i j)
      · refine .inl ⟨hb, m1 _ _ ⟨rfl, ⟨_, _, rfl⟩, fun c hc => ?_⟩⟩
        by_cases e : c = j
        · rw [e]; exact hb
        · exact hin c (by omega)
      · refine .inr ⟨hb, ?_⟩
        rw [m3, n3]
        exact bad fun h => hb ((loopAt_iff.1 h).2.2 i hi j hj)
    · rintro ρ u'' ⟨rfl, ⟨s4, s5, rfl⟩, hin⟩
      rw [enumD_len, List.length_map, hri] at hin
      refine n1 _ _ ⟨rfl, ⟨_, _, _, _, rfl⟩, fun b hb => ?_⟩
      by_cases e : b = i
      · rw [e]; exact hin
      · exact hall b (by omega)
  · rintro ρ u' ⟨rfl, ⟨s2, s3, s4, s5, rfl⟩, hall⟩
    rw [enumD_len, List.length_map, hra] at hall
    have hl := loopAt_iff.2 ⟨h1, h2, hall⟩
    rw [hl] at q
    simpa using q
theorem ob_still : ∀ u ds Qd, W_still_breach u ds Qd → ds.length = 1 ∧ w_still_breach { nx := fun _ u' => Qd .none u', rt := Qd } (startR ["world", "k"] ds) u := by
  rintro u ds Qd ⟨T, rfl, hT, q⟩
  refine ⟨rfl, ?_⟩
  simp only [w_still_breach, startR]
  have h0 := hT.1
  simp [fIx_w0, fIx_w1, fIx_w2, -fIx, -wLoop, -fEq]
  refine ⟨by unfold big62; omega, ?_⟩
  refine wLoop_inv _ (fun i ρ u' => u' = u ∧ i ≤ 1 ∧ ∃ s, ρ = [some (.d (worldD T)), s]) ?_ ?_ _ u ⟨rfl, by omega, _, rfl⟩
  · rintro i x ρ u' F' hx ⟨rfl, hi, s, rfl⟩ n1 n2 n3 n4 n5
    obtain ⟨hi, rfl⟩ := rg_get (n := 1) hx
    have hi0 : i = 0 := by omega
    subst hi0
    refine ⟨_, rfl, ?_⟩
    simp [fIx_w1, -fIx, -fEq]
    rw [fIx_ends0 hT.1, fEq_z]
    exact .inl ⟨rfl, n1 _ _ ⟨rfl, by omega, _, rfl⟩⟩
  · rintro ρ u' ⟨rfl, hi, s, rfl⟩
    simpa using q
theorem ob_does_fit : ∀ u ds Qd, W_does_fit u ds Qd → ds.length = 4 ∧ w_does_fit { nx := fun _ u' => Qd .none u', rt := Qd } (startR ["ends", "f", "g", "entry"] ds) u := by
  rintro u ds Qd ⟨n, f, g, e, rfl, h1, h2, h3, q⟩
  refine ⟨rfl, ?_⟩
  simp only [w_does_fit, startR]
  simp [fIx_ends, fIx_z0, fIx_z1, fEq_int, h1, h2, h3, -fIx, -fEq]
  rw [fEq_z]
  exact q
theorem ob_fit : ∀ u ds Qd, W_fit_breach u ds Qd → ds.length = 1 ∧ w_fit_breach { nx := fun _ u' => Qd .none u', rt := Qd } (startR ["world", "m", "f", "ends", "table", "g"] ds) u := by
  rintro u ds Qd ⟨T, rfl, hT, q⟩
  refine ⟨rfl, ?_⟩
  simp only [w_fit_breach, startR]
  have h0 := hT.1
  have h40 := hT.2.1
  have hb : big62 (T.length : Nat) := by unfold big62; omega
  simp [fIx_w1, fIx_w2, fLen_ends, ex2, hb, -fIx, -wLoop, -fEq, -fLen]
  refine wLoop_inv _ (fun i ρ u' => u' = u ∧ ∃ s1 s2, ρ = [some (.d (worldD T)), some (.d (.int T.length)), s1, some (.d (endsD T.length)), some (.d (tabD T)), s2]) ?_ ?_ _ u ⟨rfl, _, _, rfl⟩
  · rintro i x ρ u' F' hx ⟨rfl, s1, s2, rfl⟩ n1 n2 n3 n4 n5
    obtain ⟨hi, rfl⟩ := rg_get hx
    refine ⟨_, rfl, ?_⟩
    simp [hb, -wLoop]
    refine wLoop_inv _ (fun j ρ u'' => u'' = u' ∧ ∃ s2, ρ = [some (.d (worldD T)), some (.d (.int T.length)), some (.d (.int i)), some (.d (endsD T.length)), some (.d (tabD T)), s2]) ?_ ?_ _ u' ⟨rfl, _, rfl⟩
    · rintro j x ρ u'' F2 hx ⟨rfl, s2, rfl⟩ m1 m2 m3 m4 m5
      obtain ⟨hj, rfl⟩ := rg_get hx
      refine ⟨_, rfl, ?_⟩
      have hri := (hT.row hi).1
      simp [fIx_tab, fIx_row, nth_row, hi, hj, hri, -fIx]
      refine x_does_fit hi hj (hT.lt hi hj) ?_
      simp
      exact m1 _ _ ⟨rfl, _, rfl⟩
    · rintro ρ u'' ⟨rfl, s2, rfl⟩
      exact n1 _ _ ⟨rfl, _, _, rfl⟩
  · rintro ρ u' ⟨rfl, s1, s2, rfl⟩
    simpa using q
theorem ob_unit : ∀ u ds Qd, W_unit_breach u ds Qd → ds.length = 1 ∧ w_unit_breach { nx := fun _ u' => Qd .none u', rt := Qd } (startR ["world", "f", "ends", "table", "x", "y"] ds) u := by
  rintro u ds Qd ⟨T, rfl, hT, q⟩
  refine ⟨rfl, ?_⟩
  simp only [w_unit_breach, startR]
  have h0 := hT.1.1
  have h40 := hT.1.2.1
  have hb : big62 (T.length : Nat) := by unfold big62; omega
  simp [fIx_w1, fIx_w2, fLen_ends, ex2, hb, -fIx, -wLoop, -fEq, -fLen]
  refine wLoop_inv _ (fun i ρ u' => u' = u ∧ ∃ s1 s2 s3, ρ = [some (.d (worldD T)), s1, some (.d (endsD T.length)), some (.d (tabD T)), s2, s3]) ?_ ?_ _ u ⟨rfl, _, _, _, rfl⟩
  · rintro i x ρ u' F' hx ⟨rfl, s1, s2, s3, rfl⟩ n1 n2 n3 n4 n5
    obtain ⟨hi, rfl⟩ := rg_get hx
    refine ⟨_, rfl, ?_⟩
    have hri := (hT.1.row hi).1
    have h0 : 0 < T.length := h0
    have hr0 := (hT.1.row h0).1
    simp [fIx_ends, hi, -fIx, -fEq]
    simp [fIx_tab, fIx_tab0, fIx_row, fIx_row0, nth_row, fEq_num, hi, hri, hr0, h0, hT.unit0 hi, hT.unit1 hi, -fIx, -fEq]
    exact n1 _ _ ⟨rfl, _, _, _, rfl⟩
  · rintro ρ u' ⟨rfl, s1, s2, s3, rfl⟩
    simpa using q
theorem ob_is_ordered_at : ∀ u ds Qd, W_is_ordered_at u ds Qd → ds.length = 2 ∧ w_is_ordered_at { nx := fun _ u' => Qd .none u', rt := Qd } (startR ["table", "f", "g", "first", "h", "second"] ds) u := by
  rintro u ds Qd ⟨T, a, rfl, hT, ha, q⟩
  refine ⟨rfl, ?_⟩
  have h0 : 0 < T.length := hT.1.1
  have hra := (hT.1.row ha).1
  simp only [w_is_ordered_at, startR]
  simp [fIx_tab, fIx_row, fEq_num, seqD_row, nth_row, -fIx, -fEq, -seqD, -wLoop, ha, h0, hra]
  refine wLoop_inv _ (fun i ρ u' => u' = u ∧ (∃ s2 s3 s4 s5, ρ = [some (.d (tabD T)), some (.d (.int a)), s2, s3, s4, s5])) ?_ ?_ _ u ⟨rfl, _, _, _, _, rfl⟩
  · rintro i x ρ u' F' hx ⟨rfl, s2, s3, s4, s5, rfl⟩ n1 n2 n3 n4 n5
    obtain ⟨hi, rfl⟩ := en_row hx
    rw [hra] at hi
    refine ⟨_, rfl, ?_⟩
    have hri := (hT.1.row hi).1
    have hti := hT.1.lt ha hi
    simp [fIx_tab, seqD_row, nth_row, -fIx, -fEq, -seqD, -wLoop, ha, hi, hra]
    refine wLoop_inv _ (fun j ρ u'' => u'' = u' ∧ (∃ s4 s5, ρ = [some (.d (tabD T)), some (.d (.int a)), some (.d (.int i)), some (.d (.int (at2 T a i))), s4, s5])) ?_ ?_ _ u' ⟨rfl, _, _, rfl⟩
    · rintro j x ρ u'' F2 hx ⟨rfl, s4, s5, rfl⟩ m1 m2 m3 m4 m5
      obtain ⟨hj, rfl⟩ := en_row hx
      rw [hri] at hj
      refine ⟨_, rfl, ?_⟩
      have hrt := (hT.1.row hti).1
      have hij := hT.1.lt hi hj
      simp [fIx_tab, fIx_row, fEq_num, nth_row, -fIx, -fEq, -seqD, ha, hi, hj, hra, hti, hrt, hij, hT.assoc ha hi hj]
      exact m1 _ _ ⟨rfl, _, _, rfl⟩
    · rintro ρ u'' ⟨rfl, s4, s5, rfl⟩
      exact n1 _ _ ⟨rfl, _, _, _, _, rfl⟩
  · rintro ρ u' ⟨rfl, s2, s3, s4, s5, rfl⟩
    simpa using q
theorem ob_order : ∀ u ds Qd, W_order_breach u ds Qd → ds.length = 1 ∧ w_order_breach { nx := fun _ u' => Qd .none u', rt := Qd } (startR ["world", "f"] ds) u := by
  rintro u ds Qd ⟨T, rfl, hT, q⟩
  refine ⟨rfl, ?_⟩
  simp only [w_order_breach, startR]
  have h0 := hT.1.1
  have h40 := hT.1.2.1
  have hb : big62 (T.length : Nat) := by unfold big62; omega
  simp [fIx_w1, fIx_w2, fLen_ends, ex2, hb, -fIx, -wLoop, -fEq, -fLen]
  refine wLoop_inv _ (fun i ρ u' => u' = u ∧ ∃ s1, ρ = [some (.d (worldD T)), s1]) ?_ ?_ _ u ⟨rfl, _, rfl⟩
  · rintro i x ρ u' F' hx ⟨rfl, s1, rfl⟩ n1 n2 n3 n4 n5
    obtain ⟨hi, rfl⟩ := rg_get hx
    refine ⟨_, rfl, ?_⟩
    simp [fIx_w2, x_is_ordered_at, hi, -fIx, -fEq]
    exact ⟨hT, n1 _ _ ⟨rfl, _, rfl⟩⟩
  · rintro ρ u' ⟨rfl, s1, rfl⟩
    simpa using q
theorem ob_world_breach : ∀ u ds Qd, W_world_breach u ds Qd → ds.length = 1 ∧ w_world_breach { nx := fun _ u' => Qd .none u', rt := Qd } (startR ["value", "place"] ds) u := by
  rintro u ds Qd ⟨T, rfl, hT, q⟩
  refine ⟨rfl, ?_⟩
  simp only [w_world_breach, startR]
  simp [x_has_form, x_still, x_fit, x_unit, x_order, hT.1]
  exact ⟨hT, q⟩
theorem ob_has_loop_form : ∀ u ds Qd, W_has_loop_form u ds Qd → ds.length = 1 ∧ w_has_loop_form { nx := fun _ u' => Qd .none u', rt := Qd } (startR ["rows", "k", "row"] ds) u := by
  rintro u ds Qd ⟨v, rfl, ⟨hp, hx⟩, q⟩
  refine ⟨rfl, ?_⟩
  by_cases ht : ∃ xs, v = .tuple xs
  case neg =>
    have e1 : tyName v ≠ "tuple" := by cases v <;> first | exact absurd ⟨_, rfl⟩ ht | simp
    have e2 : formB v = false := by cases v <;> first | rfl | exact absurd ⟨_, rfl⟩ ht
    rw [e2] at q
    simp only [w_has_loop_form, startR]
    simp [hp, e1, -plainD, -tyName, -wComp, -seqD, -fLen]
    exact q
  obtain ⟨xs, rfl⟩ := ht
  obtain ⟨hl, hx⟩ := hx xs rfl
  simp only [w_has_loop_form, startR]
  simp [-wComp]
  by_cases h1 : 1 ≤ xs.length
  case neg =>
    have e2 : formB (.tuple xs) = false := by simp [formB]; omega
    rw [e2] at q
    exact .inl ⟨by omega, q⟩
  refine .inr ⟨by omega, ?_⟩
  by_cases h2 : xs.length ≤ 40
  case neg =>
    have e2 : formB (.tuple xs) = false := by simp [formB]; omega
    rw [e2] at q
    exact .inl ⟨by omega, q⟩
  refine .inr ⟨by omega, hl, ?_⟩
  refine wComp_map (fun x => .bool (isNumRow x xs.length 0 (xs.length - 1))) _ _ _ (fun x hm => ⟨_, rfl, fun u R r => ?_⟩) ?_
  · simp [x_is_number_row, hx x hm]
    exact r
  · refine ⟨xs.map fun x => isNumRow x xs.length 0 (xs.length - 1), by simp, ?_⟩
    have e : formB (.tuple xs) = (xs.map fun x => isNumRow x xs.length 0 ((xs.length : Int) - 1)).all id := by
      simp [formB, h1, h2, Function.comp_def]
    show Qd (.bool ((xs.map fun x => isNumRow x xs.length 0 ((xs.length : Int) - 1)).all id)) u
    rw [← e]
    exact q
end K10

set_option Elab.async false
set_option linter.all false
set_option maxRecDepth 100000
set_option maxHeartbeats 4000000
namespace K10
open PySem PySem.Spec PyProof.Rows L2 DW
theorem ob_law_draw : ∀ u ds Qd, W__law_draw u ds Qd → ds.length = 2 ∧ w__law_draw { nx := fun _ u' => Qd .none u', rt := Qd } (startR ["m", "bound", "spot", "cell", "blend", "found", "cells", "extra"] ds) u := by
  rintro u ds Qd ⟨b, rfl, b0, b1, hu, q⟩
  refine ⟨rfl, ?_⟩
  simp only [w__law_draw, startR]
  simp only [wSeq, wIfS, wTst, w2, wMLeft, wMSpot, wMSeed, wMCells, wC, wSetD, wVar, wPutLeft, wPutSpot, wPar, waCons, waNil, wRet, wNil, wCall]
  simp [-fIx, -fLen, fLen_list]
  intro l hl
  by_cases h : 0 < l
  · rw [if_pos h]
    intro l2 h2
    refine ⟨b0, fun l3 h3 => ⟨⟨b0, b1⟩, Int.ediv_nonneg h3 (by omega), q _ (Int.emod_nonneg _ (by omega)) (Int.emod_lt_of_pos _ b0)⟩⟩
  · rw [if_neg h]
    intro p p0 p1
    refine ⟨by omega, p1, ?_⟩
    intro cells hc s s0 s1
    refine ⟨.inr ⟨by omega, by omega⟩, _, _, ⟨rfl, rfl⟩, ?_⟩
    simp [-fIx, -fLen, fLen_list]
    have hl : 0 < cells.length := List.length_pos_iff.mpr hc
    refine ⟨hl, ?_⟩
    refine fIx_ints (Int.emod_nonneg _ (by omega)) (Int.emod_lt_of_pos _ (by omega)) fun j => ?_
    simp
    refine ⟨.inr ⟨by omega, by omega⟩, ⟨by omega, by omega⟩, fun l2 h2 h3 => ⟨⟨by decide, by decide⟩, b0, q _ (Int.emod_nonneg _ (by omega)) (Int.emod_lt_of_pos _ b0)⟩⟩
theorem ob_law_of : ∀ u ds Qd, W__law_of u ds Qd → ds.length = 2 ∧ w__law_of { nx := fun _ u' => Qd .none u', rt := Qd } (startR ["m", "some"] ds) u := by
  rintro u ds Qd ⟨xs, rfl, h0, h1, hu, q⟩
  refine ⟨rfl, ?_⟩
  simp only [w__law_of, startR]
  simp only [wRet, w2, wVar, wFn, waCons, wVarD, wCall, waNil, SV.val]
  refine ⟨_, rfl, _, rfl, _, rfl, ?_⟩
  refine ⟨xs.length, rfl, by omega, by omega, hu, fun r r0 r1 => ?_⟩
  obtain ⟨n, rfl⟩ := Int.eq_ofNat_of_zero_le r0
  have hn : n < xs.length := by omega
  show fIx (.list xs) _ _
  rw [fIx_list (z := xs[n]) (by simp [hn])]
  exact q _ (List.getElem_mem hn)
theorem ob_law_like : ∀ u ds Qd, W__law_like u ds Qd → ds.length = 2 ∧ w__law_like { nx := fun _ u' => Qd .none u', rt := Qd } (startR ["got", "due"] ds) u := by
  rintro u ds Qd ⟨a, b, rfl, ha, hb, q⟩
  refine ⟨rfl, ?_⟩
  simp only [w__law_like, startR]
  simp only [wRet, w2, wVar, waCons, wCall, waNil, SV.val, fRepr]
  refine ⟨_, rfl, a, rfl, ha, _, rfl, b, rfl, hb, ?_⟩
  exact q
theorem ob_law_loops : ∀ u ds Qd, W__law_loops u ds Qd → ds.length = 1 ∧ w__law_loops { nx := fun _ u' => Qd .none u', rt := Qd } (startR ["rows_so", "row"] ds) u := by
  rintro u ds Qd ⟨T, rfl, hT, q⟩
  refine ⟨rfl, ?_⟩
  simp only [w__law_loops, startR]
  have h40 := hT.2.1
  simp [seqD_tab, -seqD, -wComp]
  refine ⟨by omega, ?_⟩
  refine wComp_map (fun _ => .tuple [.int 0, .int 0]) _ _ _ (fun x hm => ⟨_, rfl, fun u R r => by simpa using r⟩) ?_
  simp [-wComp]
  refine ⟨by omega, ?_⟩
  refine wComp_map (fun x => x) _ _ _ (fun x hm => ⟨_, rfl, fun u R r => ?_⟩) ?_
  · obtain ⟨y, _, rfl⟩ := List.mem_map.mp hm
    simp [rowD]
    exact r
  · simp
    have e : worldD T = .tuple [.int 1, .tuple (List.map ((fun x => PyData.tuple [PyData.int 0, PyData.int 0]) ∘ rowD) T), .tuple (List.map rowD T)] := by
      unfold worldD endsD tabD
      have : List.replicate T.length (PyData.tuple [PyData.int 0, PyData.int 0]) = List.map ((fun x => PyData.tuple [PyData.int 0, PyData.int 0]) ∘ rowD) T := by
        simp [Function.comp_def, List.map_const']
      rw [this]
    have e2 : List.map ((fun x => x) ∘ rowD) T = List.map rowD T := rfl
    rw [e2, ← e]
    exact q
theorem ob_law_begun : ∀ u ds Qd, W__law_begun u ds Qd → ds.length = 2 ∧ w__law_begun { nx := fun _ u' => Qd .none u', rt := Qd } (startR ["script", "k", "cells", "great", "seed", "cell"] ds) u := by
  rintro u ds Qd ⟨ns, k, rfl, k0, k1, hn, q⟩
  refine ⟨rfl, ?_⟩
  simp only [w__law_begun, startR]
  obtain ⟨c1, e1, l1, _⟩ := cutD_map (fun i => (.int i : D)) ns (some k) none
  obtain ⟨c2, e2, l2, _⟩ := cutD_map (fun i => (.int i : D)) ns none (some k)
  simp only [wSeq, wSetD, w2, wSlS, wVarD, woS, woN]
  refine ⟨_, rfl, _, rfl, k, rfl, ns, rfl, _, rfl, _, rfl, k, rfl, ns, rfl, ?_⟩
  rw [e1, e2]
  simp only [fAdd, List.length_map, ← List.map_append]
  refine ⟨by omega, ?_⟩
  generalize hcs : c1 ++ c2 = cs
  have hl : cs.length ≤ 126 := by rw [← hcs, List.length_append]; omega
  simp only [wfD, wLc, wi1, wVarD, seqD, wipeR]
  refine ⟨_, rfl, by rw [List.length_map]; omega, ?_⟩
  refine wComp_filtT (fun i => (.int i : D)) (fun i => decide (10 ^ 18 ≤ i)) (fun i => .int i) cs [] u (fun x hx => ⟨_, rfl, fun u R r => ?_, fun _ u R r => ?_⟩) ?_
  · simp [CPow]
    by_cases h : (1000000000000000000 : Int) ≤ x
    · exact .inr ⟨h, by simpa [h] using r⟩
    · exact .inl ⟨by omega, by simpa [h] using r⟩
  · exact ⟨_, rfl, r⟩
  simp [-wComp, -wLoop, -fIx, -fEq]
  generalize hgs : List.filter (fun i => decide (1000000000000000000 ≤ i)) cs = gs
  have hg0 : ∀ g ∈ gs, 0 ≤ g := fun g hg => by
    rw [← hgs, List.mem_filter] at hg
    have := of_decide_eq_true hg.2
    omega
  refine wLoop_inv _ (fun i ρ u' => u' = u ∧ ∃ s s5, ρ = [some (.d (sD ns)), some (.d (.int k)), some (.d (.list (cs.map fun i => .int i))), some (.d (.list (gs.map fun i => .int i))), some (.d (.int s)), s5] ∧ 0 ≤ s ∧ s < 2147483647) ?_ ?_ _ u ⟨rfl, _, _, rfl, by omega, by omega⟩
  · rintro i x ρ u' F' hx ⟨rfl, s, s5, rfl, s0, s1⟩ n1 n2 n3 n4 n5
    rw [List.getElem?_map] at hx
    obtain ⟨y, _, rfl⟩ := Option.map_eq_some_iff.mp hx
    refine ⟨_, rfl, ?_⟩
    simp
    exact n1 _ _ ⟨rfl, _, _, rfl, by omega, by omega⟩
  · rintro ρ u' ⟨rfl, s, s5, rfl, s0, s1⟩
    have hsg : Sh 64 (.list (gs.map fun i => (.int i : D))) := (Sh.lst (n := 0) Sh.ints).mono (by omega)
    have hs0 : Sh 64 (.list ([] : List D)) := (Sh.lst (n := 0) (by simp)).mono (by omega)
    simp only [wRet, wMk, wIf, wTst, w2, wVar, wfD, wLst, waNil, SV.val]
    refine ⟨_, rfl, by simp, ?_⟩
    simp only [SV.val]
    rw [fEq_sh (p := decide (gs = [])) hsg hs0 (by simp)]
    have fin : ∀ l : Int, 0 ≤ l → Qd mD u' := fun _ _ => q
    refine ⟨_, rfl, ?_⟩
    cases gs with
    | nil =>
      simp
      exact ⟨by omega, cs ++ [53 * k + 11], by simp, s0, s1, by simp, q⟩
    | cons g gs =>
      simp [-fIx]
      rw [fIx_head]
      exact ⟨by omega, g, rfl, cs ++ [53 * k + 11], by simp, hg0 g List.mem_cons_self, s0, s1, by simp, q⟩
end K10

set_option Elab.async false
set_option linter.all false
set_option maxRecDepth 100000
set_option maxHeartbeats 4000000
namespace K10
open PySem PySem.Spec PyProof.Rows L2 DW
theorem all_good {T : List (List Nat)} : ((List.range T.length).map (loopAt T)).all id = goodT T := by
  simp [goodT, List.all_map, Function.comp_def]
theorem ob_loop_world (c : Value) : ∀ u ds Qd Ed, W_loop_world c u ds Qd Ed → ds.length = 1 ∧ w_loop_world c { nx := fun _ u' => Qd .none u', rt := Qd, ex := Ed } (startR ["rows", "_", "a"] ds) u := by
  rintro u ds Qd Ed ⟨v, rfl, hp, h⟩
  refine ⟨rfl, ?_⟩
  simp only [w_loop_world, startR]
  simp [x_has_loop_form, -wComp, -fLen]
  refine ⟨hp, ?_⟩
  by_cases hf : formB v = true
  case neg =>
    have e : formB v = false := by simpa using hf
    rcases h with ⟨T, rfl, hT, _⟩ | ⟨_, h⟩
    · exact absurd (formB_iff.2 ⟨T, rfl, hT.1⟩) hf
    · simpa [e] using h
  obtain ⟨T, rfl, hT⟩ := formB_iff.1 hf
  have h40 := hT.2.1
  simp [hf, fLen_tab, seqD_tab, -seqD, -wComp, -fLen]
  refine ⟨by unfold big62; omega, by rw [rgD_len]; omega, ?_⟩
  rw [rgD_map]
  refine wComp_mapT (fun i : Nat => (.int (i : Nat) : D)) (fun i => .bool (loopAt T i)) (List.range T.length) [] u (fun i hi => ⟨_, rfl, fun u R r => ?_⟩) ?_
  · simp [x_is_loop_at]
    exact ⟨hT, by simpa using hi, r⟩
  refine ⟨(List.range T.length).map (loopAt T), by simp, ?_⟩
  change (PyData.bool (((List.range T.length).map (loopAt T)).all id) = PyData.bool false ∧ Ed c u) ∨ (PyData.bool (((List.range T.length).map (loopAt T)).all id) = PyData.bool true ∧ _)
  rw [all_good]
  by_cases hg : goodT T = true
  case neg =>
    have e : goodT T = false := by simpa using hg
    rw [e]
    rcases h with ⟨T2, e2, hT2, _⟩ | ⟨_, h⟩
    · rw [tabD_inj e2] at hg
      exact absurd hT2.2 hg
    · exact .inl ⟨rfl, h⟩
  rw [hg]
  refine .inr ⟨rfl, ?_⟩
  have hq : Qd (worldD T) u := by
    rcases h with ⟨T2, e2, _, q⟩ | ⟨hn, _⟩
    · rw [tabD_inj e2]; exact q
    · exact absurd ⟨T, rfl, hT, hg⟩ hn
  refine ⟨show (T.map rowD).length < 100000 by rw [List.length_map]; omega, ?_⟩
  refine wComp_map (fun _ => .tuple [.int 0, .int 0]) _ _ _ (fun x hm => ⟨_, rfl, fun u R r => by simpa using r⟩) ?_
  have e : worldD T = .tuple [.int 1, .tuple ([] ++ List.map (fun _ => PyData.tuple [PyData.int 0, PyData.int 0]) (List.map rowD T)), tabD T] := by
    unfold worldD endsD
    simp [Function.comp_def, List.map_const']
  show Qd (.tuple [.int 1, .tuple ([] ++ List.map (fun _ => PyData.tuple [PyData.int 0, PyData.int 0]) (List.map rowD T)), tabD T]) u
  rw [← e]
  exact hq
theorem ob_law_good : ∀ u ds Qd, W__law_good u ds Qd → ds.length = 1 ∧ w__law_good { nx := fun _ u' => Qd .none u', rt := Qd } (startR ["value", "k", "row", "a", "one", "b", "c"] ds) u := by
  rintro u ds Qd ⟨v, rfl, ⟨hp, hx⟩, q⟩
  refine ⟨rfl, ?_⟩
  have bad : (¬ ∃ T, v = tabD T ∧ GT T) → Qd (.bool false) u := fun h => q false (by simp [h])
  by_cases ht : ∃ xs, v = .tuple xs
  case neg =>
    have hb : Qd (.bool false) u := bad fun ⟨T, e, _⟩ => ht ⟨_, e⟩
    have e1 : ∃ r, kitB (tyName v) "tuple" = some r ∧ r = false := by
      cases v <;> first | exact absurd ⟨_, rfl⟩ ht | exact ⟨_, rfl, rfl⟩
    obtain ⟨r, e1, rfl⟩ := e1
    simp only [w__law_good, startR]
    simp [e1, hp, -plainD, -tyName, -wComp, -wLoop, -seqD, -fLen]
    exact hb
  obtain ⟨xs, rfl⟩ := ht
  obtain ⟨hl, hx⟩ := hx xs rfl
  have e1 : kitB "tuple" "tuple" = some true := rfl
  simp only [w__law_good, startR]
  simp [e1, -wComp, -wLoop, -fIx]
  by_cases h0 : xs = []
  · exact .inl ⟨h0, bad fun ⟨T, e, hT⟩ => by
      have h1 := hT.1.1
      subst h0
      have e2 := PyData.tuple.inj e
      have : T = [] := List.map_eq_nil_iff.mp e2.symm
      rw [this] at h1
      simp at h1⟩
  refine .inr ⟨List.length_pos_iff.mpr h0, ?_⟩
  by_cases h41 : xs.length < 41
  case neg =>
    exact .inl ⟨by omega, bad fun ⟨T, e, hT⟩ => by
      have h1 := hT.1.2.1
      have e2 := PyData.tuple.inj e
      rw [e2, List.length_map] at h41
      omega⟩
  refine .inr ⟨by omega, ?_⟩
  have badRow : ∀ x ∈ xs, isNumRow x (xs.length : Nat) 0 ((xs.length : Int) - 1) = false → Qd (.bool false) u := fun x hxm hr => bad fun ⟨T, e, hT⟩ => by
    have e2 := PyData.tuple.inj e
    have := numRow_iff.2 (show ∃ r : List Nat, x = rowD r ∧ r.length = xs.length ∧ ∀ e ∈ r, e < xs.length from by
      rw [e2] at hxm ⊢
      obtain ⟨r, hr2, rfl⟩ := List.mem_map.mp hxm
      rw [List.length_map]
      exact ⟨r, rfl, hT.1.2.2 r hr2⟩)
    rw [this] at hr
    cases hr
  refine wLoop_inv _ (fun i ρ u' => u' = u ∧ (∃ s2 s4, ρ = [some (.d (.tuple xs)), some (.d (.int xs.length)), s2, none, s4, none, none]) ∧ ∀ j, j < i → ∀ x, xs[j]? = some x → isNumRow x (xs.length : Nat) 0 ((xs.length : Int) - 1) = true) ?_ ?_ _ u ⟨rfl, ⟨_, _, rfl⟩, by omega⟩
  · rintro i x ρ u' F' hxi ⟨rfl, ⟨s2, s4, rfl⟩, hall⟩ n1 n2 n3 n4 n5
    refine ⟨_, rfl, ?_⟩
    have hxm := List.mem_of_getElem? hxi
    obtain ⟨hpx, hxx⟩ := hx x hxm
    have ret : isNumRow x (xs.length : Nat) 0 ((xs.length : Int) - 1) = false → F'.rt (.bool false) u' := fun h => by rw [n3]; exact badRow x hxm h
    by_cases hxt : ∃ ys, x = .tuple ys
    case neg =>
      have e2 : ∃ r, kitB (tyName x) "tuple" = some r ∧ r = false := by
        cases x <;> first | exact absurd ⟨_, rfl⟩ hxt | exact ⟨_, rfl, rfl⟩
      obtain ⟨r, e2, rfl⟩ := e2
      have e3 : isNumRow x (xs.length : Nat) 0 ((xs.length : Int) - 1) = false := by cases x <;> first | rfl | exact absurd ⟨_, rfl⟩ hxt
      simp [e2, hpx, -plainD, -tyName, -wLoop, -seqD, -fLen]
      exact ret e3
    obtain ⟨ys, rfl⟩ := hxt
    obtain ⟨hyl, hyp⟩ := hxx ys rfl
    simp [e1, fEq_num, -wLoop, -fEq]
    by_cases hlen : ys.length = xs.length
    case neg => exact .inr ⟨hlen, ret (by simp [isNumRow]; omega)⟩
    refine .inl ⟨hlen, ?_⟩
    refine wLoop_inv _ (fun j ρ u'' => u'' = u' ∧ (∃ s4, ρ = [some (.d (.tuple xs)), some (.d (.int xs.length)), some (.d (.tuple ys)), none, s4, none, none]) ∧ ∀ k, k < j → ∀ y, ys[k]? = some y → isNum y 0 ((xs.length : Int) - 1) = true) ?_ ?_ _ u' ⟨rfl, ⟨_, rfl⟩, by omega⟩
    · rintro j y ρ u'' F2 hyj ⟨rfl, ⟨s4, rfl⟩, hin⟩ m1 m2 m3 m4 m5
      refine ⟨_, rfl, ?_⟩
      have hym := List.mem_of_getElem? hyj
      have hpy := hyp y hym
      have ret2 : isNum y 0 ((xs.length : Int) - 1) = false → F2.rt (.bool false) u'' := fun h => by
        rw [m3]
        refine ret ?_
        simp only [isNumRow, Bool.and_eq_false_iff]
        refine .inr ?_
        rw [← Bool.not_eq_true, List.all_eq_true]
        intro hh
        rw [hh y hym] at h
        cases h
      have go : isNum y 0 ((xs.length : Int) - 1) = true → F2.nx [some (.d (.tuple xs)), some (.d (.int xs.length)), some (.d (.tuple ys)), none, some (.d y), none, none] u'' := fun h => m1 _ _ ⟨rfl, ⟨_, rfl⟩, fun k hk z hz => by
        by_cases e : k = j
        · subst e
          rw [hyj] at hz
          cases hz
          exact h
        · exact hin k (by omega) z hz⟩
      cases y with
      | int a =>
        have k1 : kitB "int" "int" = some true := rfl
        have k2 : kitB "int" "bool" = some false := rfl
        simp [k1, k2]
        by_cases g0 : 0 ≤ a
        · by_cases g1 : a < xs.length
          · exact .inr ⟨g0, .inr ⟨g1, go (by simp [isNum]; omega)⟩⟩
          · exact .inr ⟨g0, .inl ⟨by omega, ret2 (by simp [isNum]; omega)⟩⟩
        · exact .inl ⟨by omega, ret2 (by simp [isNum]; omega)⟩
      | bool a =>
        have k1 : kitB "bool" "int" = some true := rfl
        have k2 : kitB "bool" "bool" = some true := rfl
        simp [k1, k2]
        exact ret2 rfl
      | none =>
        have k1 : kitB "NoneType" "int" = some false := rfl
        simp [k1]
        exact ret2 rfl
      | str a =>
        have k1 : kitB "str" "int" = some false := rfl
        simp [k1]
        exact ret2 rfl
      | list a =>
        have k1 : kitB "list" "int" = some false := rfl
        simp [k1]
        exact ret2 rfl
      | tuple a =>
        have k1 : kitB "tuple" "int" = some false := rfl
        simp [k1]
        exact ret2 rfl
      | dict a =>
        have k1 : kitB "dict" "int" = some false := rfl
        simp [k1, hpy, -plainD]
        exact ret2 rfl
    · rintro ρ u'' ⟨rfl, ⟨s4, rfl⟩, hin⟩
      refine n1 _ _ ⟨rfl, ⟨_, _, rfl⟩, fun j hj z hz => ?_⟩
      by_cases e : j = i
      · subst e
        rw [hxi] at hz
        cases hz
        simp only [isNumRow, Bool.and_eq_true, decide_eq_true_eq, List.all_eq_true]
        refine ⟨by omega, fun y hy => ?_⟩
        obtain ⟨k, hk⟩ := List.getElem?_of_mem hy
        exact hin k (List.getElem?_eq_some_iff.mp hk).1 y hk
      · exact hall j (by omega) z hz
  · rintro ρ u' ⟨rfl, ⟨s2, s4, rfl⟩, hall⟩
    have hform : formB (.tuple xs) = true := by
      simp only [formB, Bool.and_eq_true, decide_eq_true_eq, List.all_eq_true]
      have := List.length_pos_iff.mpr h0
      refine ⟨⟨by omega, by omega⟩, fun x hx => ?_⟩
      obtain ⟨k, hk⟩ := List.getElem?_of_mem hx
      exact hall k (List.getElem?_eq_some_iff.mp hk).1 x hk
    obtain ⟨T, eT, hT⟩ := formB_iff.1 hform
    have eX : xs = T.map rowD := PyData.tuple.inj eT
    subst eX
    have hTl : (List.map rowD T).length = T.length := List.length_map _
    rw [hTl]
    have hb : big62 (T.length : Nat) := by unfold big62; have := hT.2.1; omega
    have h40 := hT.2.1
    have hpos : 0 < T.length := hT.1
    have hrg : RgOk 0 (T.length : Nat) := RgOk.of_le (Int.le_refl 0) (by omega) (by omega) (by omega)
    have tD1 : (.tuple (List.map rowD T) : D) = tabD T := rfl
    rw [tD1] at bad ⊢
    have q1 : goodT T = true → Qd (.bool true) u' := fun h => q true (by simp; exact ⟨T, rfl, hT, h⟩)
    have bad2 : goodT T ≠ true → Qd (.bool false) u' := fun h => bad fun ⟨T2, e, h2⟩ => h (by rw [tabD_inj e]; exact h2.2)
    have shr : ∀ r : List Nat, Sh 64 (rowD r) := fun r => (Sh.tup (n := 0) (fun d hd => by obtain ⟨_, _, rfl⟩ := List.mem_map.mp hd; exact Sh.int)).mono (by omega)
    have shl : ∀ r : List Nat, Sh 64 (.list (r.map fun e => (.int (e : Nat) : D))) := fun r => (Sh.lst (n := 0) (fun d hd => by obtain ⟨_, _, rfl⟩ := List.mem_map.mp hd; exact Sh.int)).mono (by omega)
    have eRow : (.tuple (rgD 0 (T.length : Nat)) : D) = rowD (List.range T.length) := by rw [rgD_map]; rfl
    have row0 : rowOf T 0 = List.range T.length ↔ ∀ a, a < T.length → at2 T 0 a = a := by
      have hl := (hT.row hpos).1
      constructor
      · intro e a ha
        have := nth_get (r := rowOf T 0) (a := a) (by omega)
        rw [e, List.getElem?_range ha] at this
        unfold at2
        rw [e]
        exact (Option.some.inj this).symm
      · intro h
        refine List.ext_getElem? fun a => ?_
        by_cases ha : a < T.length
        · rw [nth_get (by omega), List.getElem?_range ha]
          exact congrArg some (h a ha)
        · rw [List.getElem?_eq_none (by omega), List.getElem?_eq_none (by simpa using ha)]
    have col0 : (T.map fun r => nth r 0) = List.range T.length ↔ ∀ a, a < T.length → at2 T a 0 = a := by
      constructor
      · intro e a ha
        have h1 : (T.map fun r => nth r 0)[a]? = some (nth (rowOf T a) 0) := by rw [List.getElem?_map, rowOf_get ha]; rfl
        rw [e, List.getElem?_range ha] at h1
        exact (Option.some.inj h1).symm
      · intro h
        refine List.ext_getElem? fun a => ?_
        by_cases ha : a < T.length
        · rw [List.getElem?_map, rowOf_get ha, List.getElem?_range ha]
          exact congrArg some (h a ha)
        · rw [List.getElem?_map, List.getElem?_eq_none (by omega), List.getElem?_eq_none (by simpa using ha)]; rfl
    simp [fIx_tab0, hpos, eRow, hrg, -fIx, -fEq, -seqD, -wComp, -wLoop]
    rw [fEq_sh (p := decide (rowOf T 0 = List.range T.length)) (shr _) (shr _) (by simp; exact ⟨fun h => by rw [h], rowD_inj⟩)]
    by_cases g1 : rowOf T 0 = List.range T.length
    case neg => exact .inr ⟨by simp [g1], bad2 fun h => g1 (row0.2 fun a ha => (show GT T from ⟨hT, h⟩).unit0 ha)⟩
    refine .inl ⟨by simp [g1], ?_⟩
    rw [seqD_tab]
    refine ⟨by rw [hTl]; omega, ?_⟩
    refine wComp_mapT rowD (fun r => .int (nth r 0 : Nat)) T [] u' (fun r hr => ⟨_, rfl, fun u R rr => ?_⟩) ?_
    · have hr0 : 0 < r.length := by have := (hT.2.2 r hr).1; omega
      simp [fIx_row0, hr0, -fIx]
      exact rr
    have eCol : T.map (fun r => (.int (nth r 0 : Nat) : D)) = (T.map fun r => nth r 0).map fun e => .int (e : Nat) := by rw [List.map_map]; rfl
    rw [List.nil_append, rgD_map, eCol, fEq_sh (p := decide ((T.map fun r => nth r 0) = List.range T.length)) (shl _) (shl _) (by
      rw [decide_eq_true_eq]
      exact ⟨fun h => by rw [h], fun h => List.map_inj_right (fun x y e => Int.ofNat_inj.mp (PyData.int.inj e)) |>.mp (PyData.list.inj h)⟩)]
    by_cases g2 : (T.map fun r => nth r 0) = List.range T.length
    case neg => exact .inr ⟨by simp [g2], bad2 fun h => g2 (col0.2 fun a ha => (show GT T from ⟨hT, h⟩).unit1 ha)⟩
    refine .inl ⟨by simp [g2], hb, ?_⟩
    rw [← rgD_map]
    refine wLoop_inv _ (fun i ρ u => u = u' ∧ (∃ s2 s3 s4 s5 s6, ρ = [some (.d (tabD T)), some (.d (.int T.length)), s2, s3, s4, s5, s6]) ∧ ∀ a, a < i → ∀ b, b < T.length → ∀ c, c < T.length → at2 T (at2 T a b) c = at2 T a (at2 T b c)) ?_ ?_ _ u' ⟨rfl, ⟨_, _, _, _, _, rfl⟩, by omega⟩
    · rintro a x ρ u'' F' hx ⟨rfl, ⟨s2, s3, s4, s5, s6, rfl⟩, hall⟩ n1 n2 n3 n4 n5
      obtain ⟨ha, rfl⟩ := rg_get hx
      refine ⟨_, rfl, ?_⟩
      simp [hb, -wLoop]
      refine wLoop_inv _ (fun i ρ u => u = u'' ∧ (∃ s2 s4 s5 s6, ρ = [some (.d (tabD T)), some (.d (.int T.length)), s2, some (.d (.int a)), s4, s5, s6]) ∧ ∀ b, b < i → ∀ c, c < T.length → at2 T (at2 T a b) c = at2 T a (at2 T b c)) ?_ ?_ _ u'' ⟨rfl, ⟨_, _, _, _, rfl⟩, by omega⟩
      · rintro b x ρ u3 F2 hx ⟨rfl, ⟨s2, s4, s5, s6, rfl⟩, hall2⟩ m1 m2 m3 m4 m5
        obtain ⟨hb', rfl⟩ := rg_get hx
        refine ⟨_, rfl, ?_⟩
        simp [hb, -wLoop]
        refine wLoop_inv _ (fun i ρ u => u = u3 ∧ (∃ s2 s4 s6, ρ = [some (.d (tabD T)), some (.d (.int T.length)), s2, some (.d (.int a)), s4, some (.d (.int b)), s6]) ∧ ∀ c, c < i → at2 T (at2 T a b) c = at2 T a (at2 T b c)) ?_ ?_ _ u3 ⟨rfl, ⟨_, _, _, rfl⟩, by omega⟩
        · rintro c x ρ u4 F3 hx ⟨rfl, ⟨s2, s4, s6, rfl⟩, hall3⟩ l1 l2 l3 l4 l5
          obtain ⟨hc, rfl⟩ := rg_get hx
          refine ⟨_, rfl, ?_⟩
          have t1 := hT.lt ha hb'
          have t2 := hT.lt hb' hc
          have r1 := (hT.row ha).1
          have r2 := (hT.row hb').1
          have r3 := (hT.row t1).1
          simp [fIx_tab, fIx_row, nth_row, fEq_num, ha, hb', hc, t1, t2, r1, r2, r3, -fIx, -fEq]
          by_cases g : at2 T (at2 T a b) c = at2 T a (at2 T b c)
          · refine .inl ⟨g, l1 _ _ ⟨rfl, ⟨_, _, _, rfl⟩, fun c' hc' => ?_⟩⟩
            by_cases e : c' = c
            · rw [e]; exact g
            · exact hall3 c' (by omega)
          · refine .inr ⟨g, ?_⟩
            rw [l3, m3, n3]
            exact bad2 fun h => g ((show GT T from ⟨hT, h⟩).assoc ha hb' hc)
        · rintro ρ u4 ⟨rfl, ⟨s2, s4, s6, rfl⟩, hall3⟩
          rw [rgD_len] at hall3
          refine m1 _ _ ⟨rfl, ⟨_, _, _, _, rfl⟩, fun b2 hb2 => ?_⟩
          by_cases e : b2 = b
          · rw [e]; exact hall3
          · exact hall2 b2 (by omega)
      · rintro ρ u3 ⟨rfl, ⟨s2, s4, s5, s6, rfl⟩, hall2⟩
        rw [rgD_len] at hall2
        refine n1 _ _ ⟨rfl, ⟨_, _, _, _, _, rfl⟩, fun b2 hb2 => ?_⟩
        by_cases e : b2 = a
        · rw [e]; exact hall2
        · exact hall b2 (by omega)
    · rintro ρ u'' ⟨rfl, ⟨s2, s3, s4, s5, s6, rfl⟩, hall⟩
      rw [rgD_len] at hall
      simp
      exact q1 (goodT_iff.2 fun a ha => loopAt_iff.2 ⟨row0.1 g1 a ha, col0.1 g2 a ha, hall a ha⟩)
end K10

set_option Elab.async false
set_option linter.all false
set_option maxRecDepth 100000
set_option maxHeartbeats 4000000
namespace K10
open PySem PySem.Spec L2 DW
def tabOf (k : Nat) (f : Nat → Nat → Nat) : List (List Nat) := (List.range k).map fun a => (List.range k).map fun b => f a b
theorem tabOf_len {k : Nat} {f : Nat → Nat → Nat} : (tabOf k f).length = k := by simp [tabOf]
theorem tabOf_at {k : Nat} {f : Nat → Nat → Nat} {a b : Nat} (ha : a < k) (hb : b < k) : at2 (tabOf k f) a b = f a b := by
  simp [at2, rowOf, nth, tabOf, List.getD, ha, hb]
theorem tabOf_good {k : Nat} {f : Nat → Nat → Nat} (h1 : 1 ≤ k) (h40 : k ≤ 40) (hl : ∀ a b, a < k → b < k → f a b < k) (u0 : ∀ a, a < k → f 0 a = a) (u1 : ∀ a, a < k → f a 0 = a)
    (as : ∀ a b c, a < k → b < k → c < k → f (f a b) c = f a (f b c)) : GT (tabOf k f) := by
  refine ⟨⟨by rw [tabOf_len]; exact h1, by rw [tabOf_len]; exact h40, fun r hr => ?_⟩, goodT_iff.2 fun a ha => loopAt_iff.2 ?_⟩
  · rw [tabOf_len]
    obtain ⟨a, ha, rfl⟩ := List.mem_map.mp hr
    refine ⟨by simp, fun e he => ?_⟩
    obtain ⟨b, hb, rfl⟩ := List.mem_map.mp he
    exact hl a b (by simpa using ha) (by simpa using hb)
  · rw [tabOf_len] at ha ⊢
    refine ⟨by rw [tabOf_at h1 ha]; exact u0 a ha, by rw [tabOf_at ha h1]; exact u1 a ha, fun b hb c hc => ?_⟩
    rw [tabOf_at ha hb, tabOf_at hb hc, tabOf_at (hl a b ha hb) hc, tabOf_at ha (hl b c hb hc)]
    exact as a b c ha hb hc
theorem good_sum {k : Nat} (h1 : 1 ≤ k) (h40 : k ≤ 40) : GT (tabOf k fun a b => (a + b) % k) :=
  tabOf_good h1 h40 (fun a b _ _ => Nat.mod_lt _ h1) (fun a ha => by rw [Nat.zero_add]; exact Nat.mod_eq_of_lt ha) (fun a ha => Nat.mod_eq_of_lt ha) fun a b c _ _ _ => by
    rw [Nat.mod_add_mod, Nat.add_mod_mod, Nat.add_assoc]
theorem good_max {k : Nat} (h1 : 1 ≤ k) (h40 : k ≤ 40) : GT (tabOf k fun a b => max a b) :=
  tabOf_good h1 h40 (fun a b ha hb => by omega) (fun a ha => by omega) (fun a ha => by omega) fun a b c _ _ _ => by omega
/-! moves -/
def comp (one two : List Nat) : List Nat := one.map (nth two)
def IsMv (n : Nat) (r : List Nat) : Prop := r.length = n ∧ ∀ e ∈ r, e < n
theorem comp_mv {n : Nat} {f g : List Nat} (hf : IsMv n f) (hg : IsMv n g) : IsMv n (comp f g) := by
  refine ⟨by rw [comp, List.length_map]; exact hf.1, fun e he => ?_⟩
  obtain ⟨x, hx, rfl⟩ := List.mem_map.mp he
  exact hg.2 _ (nth_mem (by rw [hg.1]; exact hf.2 x hx))
theorem comp_nth {f g : List Nat} {x : Nat} (h : x < f.length) : nth (comp f g) x = nth g (nth f x) := by
  have e := nth_get (r := comp f g) (a := x) (by rw [comp, List.length_map]; exact h)
  rw [comp, List.getElem?_map, nth_get h] at e
  exact (Option.some.inj e).symm
theorem mv_ext {n : Nat} {f g : List Nat} (hf : IsMv n f) (hg : IsMv n g) (h : ∀ x, x < n → nth f x = nth g x) : f = g := by
  refine List.ext_getElem? fun x => ?_
  by_cases hx : x < n
  · rw [nth_get (by rw [hf.1]; exact hx), nth_get (by rw [hg.1]; exact hx), h x hx]
  · rw [List.getElem?_eq_none (by rw [hf.1]; omega), List.getElem?_eq_none (by rw [hg.1]; omega)]
theorem mv_lt {n : Nat} {f : List Nat} (hf : IsMv n f) {x : Nat} (h : x < n) : nth f x < n := hf.2 _ (nth_mem (by rw [hf.1]; exact h))
theorem comp_assoc {n : Nat} {f g h : List Nat} (hf : IsMv n f) (hg : IsMv n g) (hh : IsMv n h) : comp (comp f g) h = comp f (comp g h) := by
  refine mv_ext (comp_mv (comp_mv hf hg) hh) (comp_mv hf (comp_mv hg hh)) fun x hx => ?_
  have l1 : x < f.length := by rw [hf.1]; exact hx
  rw [comp_nth (by rw [comp, List.length_map]; exact l1), comp_nth l1, comp_nth l1, comp_nth (by rw [hg.1]; exact mv_lt hf hx)]
theorem id_mv (n : Nat) : IsMv n (List.range n) := ⟨by simp, fun e he => by simpa using he⟩
theorem nth_range {n x : Nat} (h : x < n) : nth (List.range n) x = x := by simp [nth, List.getD, h]
theorem comp_id0 {n : Nat} {f : List Nat} (hf : IsMv n f) : comp (List.range n) f = f :=
  mv_ext (comp_mv (id_mv n) hf) hf fun x hx => by rw [comp_nth (by simpa using hx), nth_range hx]
theorem comp_id1 {n : Nat} {f : List Nat} (hf : IsMv n f) : comp f (List.range n) = f :=
  mv_ext (comp_mv hf (id_mv n)) hf fun x hx => by rw [comp_nth (by rw [hf.1]; exact hx), nth_range (mv_lt hf hx)]
/-! how many there may be -/
def allR : Nat → Nat → List (List Nat)
  | 0, _ => [[]]
  | n + 1, k => (List.range k).flatMap fun a => (allR n k).map (a :: ·)
theorem mem_allR {k : Nat} : ∀ {n : Nat} {r : List Nat}, r.length = n → (∀ e ∈ r, e < k) → r ∈ allR n k
  | 0, [], _, _ => by simp [allR]
  | n + 1, a :: r, hl, he => by
    simp only [allR, List.mem_flatMap, List.mem_map, List.mem_range]
    exact ⟨a, he a List.mem_cons_self, r, mem_allR (by simpa using hl) (fun e h => he e (List.mem_cons_of_mem _ h)), rfl⟩
theorem nd_le : ∀ (l m : List (List Nat)), l.Nodup → (∀ x ∈ l, x ∈ m) → l.length ≤ m.length
  | [], m, _, _ => Nat.zero_le _
  | x :: l, m, hn, hs => by
    have hx := hs x List.mem_cons_self
    have h1 := nd_le l (m.erase x) (List.nodup_cons.mp hn).2 fun y hy => (List.mem_erase_of_ne (fun e => (List.nodup_cons.mp hn).1 (by rw [← e]; exact hy))).mpr (hs y (List.mem_cons_of_mem _ hy))
    have h2 := List.length_erase_of_mem hx
    have h3 := List.length_pos_of_mem hx
    simp only [List.length_cons]
    omega
structure Mvs (n : Nat) (ms : List (List Nat)) : Prop where
  hd : ms[0]? = some (List.range n)
  nd : ms.Nodup
  mv : ∀ f ∈ ms, IsMv n f
theorem Mvs.le {n : Nat} {ms : List (List Nat)} (h : Mvs n ms) (n3 : n ≤ 3) : ms.length ≤ 27 := by
  have h1 := nd_le ms (allR n n) h.nd fun f hf => mem_allR (h.mv f hf).1 (h.mv f hf).2
  have h2 : (allR n n).length ≤ 27 := by
    have : n = 0 ∨ n = 1 ∨ n = 2 ∨ n = 3 := by omega
    rcases this with rfl | rfl | rfl | rfl <;> decide
  omega
theorem Mvs.add {n : Nat} {ms : List (List Nat)} (h : Mvs n ms) {f : List Nat} (hf : IsMv n f) (hn : f ∉ ms) : Mvs n (ms ++ [f]) := by
  refine ⟨?_, ?_, fun g hg => ?_⟩
  · rw [List.getElem?_append_left (List.getElem?_eq_some_iff.mp h.hd).1]
    exact h.hd
  · rw [List.nodup_append]
    exact ⟨h.nd, by simp, fun a ha b hb => by
      have : b = f := by simpa using hb
      rw [this]
      exact fun e => hn (by rw [← e]; exact ha)⟩
  · rcases List.mem_append.mp hg with hg | hg
    · exact h.mv g hg
    · have : g = f := by simpa using hg
      rw [this]; exact hf
theorem sh_row (r : List Nat) : Sh 62 (rowD r) := (Sh.tup (n := 0) (fun d hd => by obtain ⟨_, _, rfl⟩ := List.mem_map.mp hd; exact Sh.int)).mono (by omega)
theorem fIn_rows {neg : Bool} {r : List Nat} {ms : List (List Nat)} {Q : D → Prop} : fIn neg (rowD r) (.list (ms.map rowD)) Q = Q (.bool (if neg then !decide (r ∈ ms) else decide (r ∈ ms))) :=
  fIn_sh ((sh_row r).mono (by omega)) (fun d hd => by obtain ⟨x, _, rfl⟩ := List.mem_map.mp hd; exact (sh_row x).mono (by omega)) (by
    rw [decide_eq_true_eq, List.mem_map]
    exact ⟨fun h => ⟨r, h, rfl⟩, fun ⟨x, hx, e⟩ => by rw [← rowD_inj e]; exact hx⟩)
theorem cutD_all (xs : List D) : DW.cutD xs none none = xs := by simp [DW.cutD, HT.sIx]
theorem fIx_rows {ms : List (List Nat)} {i : Nat} {r : List Nat} {Q : D → Prop} (h : ms[i]? = some r) : fIx (.list (ms.map rowD)) (.int (i : Nat)) Q = Q (rowD r) :=
  fIx_list (by rw [List.getElem?_map, h]; rfl)
/-- f and then g, made by the comprehension -/
theorem wComp_comp {b : WB} {we : WE} {ρ : Rho} {n : Nat} {f g : List Nat} {u : Nat} {Q : List D → Nat → Prop} (hf : IsMv n f) (hg : IsMv n g)
    (h : ∀ e : Nat, e < n → ∃ ρ', b (.int (e : Nat)) ρ = some ρ' ∧ ∀ u (R : D → Nat → Prop), fIx (rowD g) (.int (e : Nat)) (fun z => R z u) → we ρ' u R) (q : Q ((comp f g).map fun e => .int (e : Nat)) u) : wComp b wTy we ρ (f.map fun e => .int (e : Nat)) [] u Q := by
  refine wComp_mapT (fun e : Nat => (.int (e : Nat) : D)) (fun e => .int (nth g e : Nat)) f [] u (fun e he => ?_) ?_
  · obtain ⟨ρ', e1, h1⟩ := h e (hf.2 e he)
    refine ⟨ρ', e1, fun u R r => h1 u R ?_⟩
    rw [fIx_row (by rw [hg.1]; exact hf.2 e he)]
    exact r
  · simpa [comp, List.map_map, Function.comp_def] using q
def idx (ms : List (List Nat)) (f : List Nat) : Nat := ms.idxOf f
theorem idx_get {ms : List (List Nat)} {f : List Nat} (h : f ∈ ms) : ms[idx ms f]? = some f := by
  unfold idx
  rw [List.getElem?_eq_getElem (List.idxOf_lt_length_of_mem h)]
  simp
theorem idx_of {ms : List (List Nat)} (hn : ms.Nodup) {i : Nat} {f : List Nat} (h : ms[i]? = some f) : idx ms f = i := by
  have hm := List.mem_of_getElem? h
  have h1 := idx_get hm
  have l1 := (List.getElem?_eq_some_iff.mp h1).1
  have l2 := (List.getElem?_eq_some_iff.mp h).1
  exact (List.getElem?_inj l1 hn).mp (h1.trans h.symm)
def tabMv (ms : List (List Nat)) : List (List Nat) := ms.map fun one => ms.map fun two => idx ms (comp one two)
theorem tabMv_good {n : Nat} {ms : List (List Nat)} (h : Mvs n ms) (n3 : n ≤ 3) (cl : ∀ f ∈ ms, ∀ g ∈ ms, comp f g ∈ ms) : GT (tabMv ms) := by
  have hl : (tabMv ms).length = ms.length := by simp [tabMv]
  have h27 := h.le n3
  have h0 := (List.getElem?_eq_some_iff.mp h.hd).1
  have idl : ∀ f ∈ ms, idx ms f < ms.length := fun f hf => (List.getElem?_eq_some_iff.mp (idx_get hf)).1
  have row : ∀ (a : Nat) (f : List Nat), ms[a]? = some f → rowOf (tabMv ms) a = ms.map fun two => idx ms (comp f two) := fun a f ha => by
    have e := rowOf_get (T := tabMv ms) (a := a) (by rw [hl]; exact (List.getElem?_eq_some_iff.mp ha).1)
    rw [tabMv, List.getElem?_map, ha] at e
    exact (Option.some.inj e).symm
  have at_ : ∀ (a b : Nat) (f g : List Nat), ms[a]? = some f → ms[b]? = some g → at2 (tabMv ms) a b = idx ms (comp f g) := fun a b f g ha hb => by
    unfold at2
    rw [row a f ha]
    have e := nth_get (r := ms.map fun two => idx ms (comp f two)) (a := b) (by rw [List.length_map]; exact (List.getElem?_eq_some_iff.mp hb).1)
    rw [List.getElem?_map, hb] at e
    exact (Option.some.inj e).symm
  have get : ∀ a, a < ms.length → ∃ f, ms[a]? = some f ∧ f ∈ ms := fun a ha => ⟨ms[a], List.getElem?_eq_getElem ha, List.getElem_mem ha⟩
  refine ⟨⟨by omega, by omega, fun r hr => ?_⟩, goodT_iff.2 fun a ha => loopAt_iff.2 ?_⟩
  · obtain ⟨f, hf, rfl⟩ := List.mem_map.mp hr
    refine ⟨by rw [hl, List.length_map], fun e he => ?_⟩
    obtain ⟨g, hg, rfl⟩ := List.mem_map.mp he
    rw [hl]
    exact idl _ (cl f hf g hg)
  · rw [hl] at ha ⊢
    obtain ⟨f, hf, hfm⟩ := get a ha
    refine ⟨?_, ?_, fun b hb c hc => ?_⟩
    · rw [at_ 0 a _ _ h.hd hf, comp_id0 (h.mv f hfm)]
      exact idx_of h.nd hf
    · rw [at_ a 0 _ _ hf h.hd, comp_id1 (h.mv f hfm)]
      exact idx_of h.nd hf
    · obtain ⟨g, hg, hgm⟩ := get b hb
      obtain ⟨k, hk, hkm⟩ := get c hc
      have c1 := cl f hfm g hgm
      have c2 := cl g hgm k hkm
      rw [at_ a b f g hf hg, at_ b c g k hg hk, at_ _ c _ k (idx_get c1) hk, at_ a _ f _ hf (idx_get c2), comp_assoc (h.mv f hfm) (h.mv g hgm) (h.mv k hkm)]
end K10

set_option Elab.async false
set_option linter.all false
set_option maxRecDepth 100000
set_option maxHeartbeats 4000000
namespace K10
open PySem PySem.Spec PyProof.Rows L2 DW
theorem x_draw {u : Nat} {b : Int} {Q : D → Nat → Prop} : W__law_draw u [mD, .int b] Q = (0 < b ∧ b < 1073741824 ∧ (u : Int) < 1000000000 ∧ ∀ r, 0 ≤ r → r < b → Q (.int r) (u + 1)) :=
  propext ⟨fun ⟨b, e, h⟩ => by cases e; exact h, fun h => ⟨b, rfl, h⟩⟩
def addM (ms : List (List Nat)) (c : List Nat) : List (List Nat) := if c ∈ ms then ms else ms ++ [c]
theorem addM_mv {n : Nat} {ms : List (List Nat)} (h : Mvs n ms) {c : List Nat} (hc : IsMv n c) : Mvs n (addM ms c) := by
  unfold addM
  by_cases e : c ∈ ms
  · rw [if_pos e]; exact h
  · rw [if_neg e]; exact h.add hc e
theorem addM_mem {ms : List (List Nat)} {c : List Nat} : c ∈ addM ms c := by
  unfold addM
  by_cases e : c ∈ ms
  · rw [if_pos e]; exact e
  · rw [if_neg e]; simp
theorem addM_pre {ms : List (List Nat)} {c g : List Nat} {a : Nat} (h : ms[a]? = some g) : (addM ms c)[a]? = some g := by
  unfold addM
  by_cases e : c ∈ ms
  · rw [if_pos e]; exact h
  · rw [if_neg e, List.getElem?_append_left (List.getElem?_eq_some_iff.mp h).1]; exact h
theorem addM_in {ms : List (List Nat)} {c g : List Nat} (h : g ∈ ms) : g ∈ addM ms c := let ⟨_, ha⟩ := List.getElem?_of_mem h; List.mem_of_getElem? (addM_pre ha)
theorem step_add {F : DE} {ms : List (List Nat)} {c : List Nat} {a2 a3 a4 a5 a6 a7 a9 a10 a11 : Option SV} {u : Nat} (hl : ms.length < 1000)
    (h : F.nx [some (.d mD), some (.own ((addM ms c).map rowD)), a2, a3, a4, a5, a6, a7, some (.d (rowD c)), a9, a10, a11] u) :
    wIfS (wTst (w2 (fIn true) (wVar 8) (wVar 1))) (wApp 1 (wVarD 8)) wNil F [some (.d mD), some (.own (ms.map rowD)), a2, a3, a4, a5, a6, a7, some (.d (rowD c)), a9, a10, a11] u := by
  simp only [wIfS, wTst, w2, wVar, SV.val]
  refine ⟨_, rfl, _, rfl, ?_⟩
  show fIn true (rowD c) (.list (ms.map rowD)) _
  rw [fIn_rows]
  unfold addM at h
  by_cases e : c ∈ ms
  · rw [if_pos e] at h
    exact ⟨false, by simp [e], by simpa using h⟩
  · rw [if_neg e] at h
    refine ⟨true, by simp [e], ?_⟩
    simp
    exact ⟨by omega, by simpa using h⟩
theorem ob_law_table : ∀ u ds Qd, W__law_table u ds Qd → ds.length = 1 ∧ w__law_table { nx := fun _ u' => Qd .none u', rt := Qd } (startR ["m", "moves", "step", "word", "size", "k", "one", "two", "both", "a", "x", "b"] ds) u := by
  rintro u ds Qd ⟨rfl, hu, q⟩
  refine ⟨rfl, ?_⟩
  simp only [w__law_table, startR]
  simp [x_draw, fEq_int, -fIx, -fEq, -wComp, -wLoop, -fIn]
  refine ⟨by omega, fun word w0 w1 => ⟨by omega, fun sz s0 s1 => ?_⟩⟩
  obtain ⟨n, hn⟩ : ∃ n : Nat, 1 + sz = (n : Int) := ⟨(1 + sz).toNat, by omega⟩
  have n1 : 1 ≤ n := by omega
  have n3 : n ≤ 3 := by omega
  rw [hn]
  by_cases h0 : word = 0
  · subst h0
    simp [-wComp, -wLoop]
    refine ⟨by omega, fun r r0 r1 => ?_⟩
    obtain ⟨k, hk⟩ : ∃ k : Nat, 1 + r = (k : Int) := ⟨(1 + r).toNat, by omega⟩
    rw [hk]
    refine ⟨by unfold big62; omega, by rw [rgD_len]; omega, ?_⟩
    rw [rgD_map]
    refine wComp_mapT (fun i : Nat => (.int (i : Nat) : D)) (fun a => rowD ((List.range k).map fun b => (a + b) % k)) (List.range k) [] _ (fun a ha => ⟨_, rfl, fun u R rr => ?_⟩) ?_
    · simp [-wComp]
      refine ⟨by unfold big62; omega, by rw [rgD_len]; omega, ?_⟩
      rw [rgD_map]
      refine wComp_mapT (fun i : Nat => (.int (i : Nat) : D)) (fun b => .int (((a + b) % k : Nat) : Int)) (List.range k) [] _ (fun b hb => ⟨_, rfl, fun u R rr => ?_⟩) ?_
      · simp
        exact ⟨by omega, rr⟩
      · simpa [rowD, List.map_map, Function.comp_def] using rr
    · have := q (tabOf k fun a b => (a + b) % k) (u + 1 + 1 + 1) (good_sum (by omega) (by omega)) (by omega)
      simpa [tabD, tabOf, List.map_map, Function.comp_def] using this
  by_cases h1 : word = 1
  · subst h1
    simp [-wComp, -wLoop]
    refine ⟨by omega, fun r r0 r1 => ?_⟩
    obtain ⟨k, hk⟩ : ∃ k : Nat, 1 + r = (k : Int) := ⟨(1 + r).toNat, by omega⟩
    rw [hk]
    refine ⟨by unfold big62; omega, by rw [rgD_len]; omega, ?_⟩
    rw [rgD_map]
    refine wComp_mapT (fun i : Nat => (.int (i : Nat) : D)) (fun a => rowD ((List.range k).map fun b => max a b)) (List.range k) [] _ (fun a ha => ⟨_, rfl, fun u R rr => ?_⟩) ?_
    · simp [-wComp]
      refine ⟨by unfold big62; omega, by rw [rgD_len]; omega, ?_⟩
      rw [rgD_map]
      refine wComp_mapT (fun i : Nat => (.int (i : Nat) : D)) (fun b => .int ((max a b : Nat) : Int)) (List.range k) [] _ (fun b hb => ⟨_, rfl, fun u R rr => ?_⟩) ?_
      · simp
        have e : (if a < b then (b : Int) else a) = ((max a b : Nat) : Int) := by
          by_cases h : a < b
          · rw [if_pos h]; omega
          · rw [if_neg h]; omega
        rw [e]
        exact rr
      · simpa [rowD, List.map_map, Function.comp_def] using rr
    · have := q (tabOf k fun a b => max a b) (u + 1 + 1 + 1) (good_max (by omega) (by omega)) (by omega)
      simpa [tabD, tabOf, List.map_map, Function.comp_def] using this
  simp [h0, h1, -wComp, -wLoop]
  refine ⟨RgOk.of_le (Int.le_refl 0) (by omega) (by omega) (by omega), by omega, fun r r0 r1 => ⟨by unfold big62; omega, ?_⟩⟩
  have e0 : ([.tuple (rgD 0 (n : Nat))] : List D) = ([List.range n]).map rowD := by rw [rgD_map]; rfl
  rw [e0]
  have m0 : Mvs n [List.range n] := ⟨rfl, by simp, fun f hf => by
    have : f = List.range n := by simpa using hf
    rw [this]; exact id_mv n⟩
  have er : 1 + r = ((1 + r).toNat : Int) := by omega
  generalize hk : (1 + r).toNat = k at er
  have hk2 : k ≤ 2 := by omega
  rw [er]
  refine wLoop_inv _ (fun i ρ u' => u' ≤ u + 3 + 10 * i ∧ ∃ ms s2 s6, Mvs n ms ∧ ρ = [some (.d mD), some (.own (ms.map rowD)), s2, some (.d (.int word)), some (.d (.int n)), none, s6, none, none, none, none, none]) ?_ ?_ _ _ ⟨by omega, _, _, _, m0, rfl⟩
  · rintro i x ρ u' F' hx ⟨hu', ms, s2, s6, hm, rfl⟩ n1' n2' n3' n4' n5'
    obtain ⟨hi, rfl⟩ := rg_get hx
    refine ⟨_, rfl, ?_⟩
    simp [-wComp, -fIn]
    refine ⟨by unfold big62; omega, by rw [rgD_len]; omega, ?_⟩
    refine wComp_draw (fun x y => ∃ e : Nat, y = .int (e : Nat) ∧ e < n) 1 _ _ _ (fun x hx => ⟨_, rfl, fun v R hv hR => ?_⟩) ?_
    · rw [rgD_len] at hv
      simp [x_draw]
      refine ⟨by omega, by omega, by omega, fun e e0 e1 => hR _ _ ⟨e.toNat, by congr 1; omega, by omega⟩ (Nat.le_refl _)⟩
    · intro ys u2 hl hg hu2
      rw [rgD_len] at hl hu2
      obtain ⟨one, rfl, h1⟩ : ∃ one : List Nat, ys = one.map (fun e => .int (e : Nat)) ∧ ∀ e ∈ one, e < n := by
        have key : ∀ zs : List D, (∀ z ∈ zs, ∃ e : Nat, z = .int (e : Nat) ∧ e < n) → ∃ one : List Nat, zs = one.map (fun e => .int (e : Nat)) ∧ ∀ e ∈ one, e < n := by
          intro zs
          induction zs with
          | nil => exact fun _ => ⟨[], rfl, by simp⟩
          | cons z zs ih =>
            intro h
            obtain ⟨e, rfl, he⟩ := h z List.mem_cons_self
            obtain ⟨r, rfl, hr⟩ := ih fun x hx => h x (List.mem_cons_of_mem _ hx)
            exact ⟨e :: r, rfl, fun x hx => (List.mem_cons.mp hx).elim (fun q => by rw [q]; exact he) (hr x)⟩
        refine key ys fun z hz => ?_
        obtain ⟨j, hj⟩ := List.getElem?_of_mem hz
        have hjl : j < n := by have := (List.getElem?_eq_some_iff.mp hj).1; omega
        exact hg j _ z (by rw [rgD_get, if_pos hjl]) hj
      have hone : IsMv n one := ⟨by simpa using hl, h1⟩
      have eo : (.tuple ([] ++ one.map (fun e => (.int (e : Nat) : D))) : D) = rowD one := rfl
      show fIn true (.tuple ([] ++ one.map (fun e => (.int (e : Nat) : D)))) _ _
      rw [eo, fIn_rows]
      have h27 := hm.le n3
      by_cases hmem : one ∈ ms
      · simp [hmem]
        exact ⟨by omega, n1' _ _ ⟨by omega, ms, _, _, hm, rfl⟩⟩
      · simp [hmem]
        have e2 : List.map rowD ms ++ [rowD one] = List.map rowD (ms ++ [one]) := by simp
        rw [e2]
        exact ⟨by omega, n1' _ _ ⟨by omega, ms ++ [one], _, _, hm.add hone hmem, rfl⟩⟩
  · rintro ρ u' ⟨hu', ms, s2, s6, hm, rfl⟩
    rw [rgD_len] at hu'
    have e30 : (30 : Int) = ((30 : Nat) : Int) := rfl
    simp only [wSeq, wFor, wiR1, wC]
    refine ⟨30, rfl, by unfold big62; omega, ?_⟩
    rw [e30]
    have u1000 : u' ≤ u + 1000 := by omega
    refine wLoop_inv _ (fun i ρ u2 => u2 = u' ∧ ∃ ms s2 s6 s7 s8, Mvs n ms ∧ (∀ a b f g, a < i → b < i → ms[a]? = some f → ms[b]? = some g → comp f g ∈ ms) ∧ ρ = [some (.d mD), some (.own (ms.map rowD)), s2, some (.d (.int word)), some (.d (.int n)), none, s6, s7, s8, none, none, none]) ?_ ?_ _ _ ⟨rfl, _, _, _, _, _, hm, by omega, rfl⟩
    · rintro i x ρ u2 F' hx ⟨rfl, m0, s2, s6, s7, s8, hm, hcl, rfl⟩ n1' n2' n3' n4' n5'
      obtain ⟨hi, rfl⟩ := rg_get hx
      refine ⟨_, rfl, ?_⟩
      simp [cutD_all, -wComp, -fIn, -wLoop]
      by_cases hlt : i < m0.length
      case neg => exact .inl ⟨by omega, n1' _ _ ⟨rfl, m0, _, _, _, _, hm, fun a b f g ha hb h1 h2 => hcl a b f g (by have := (List.getElem?_eq_some_iff.mp h1).1; omega) (by have := (List.getElem?_eq_some_iff.mp h2).1; omega) h1 h2, rfl⟩⟩
      refine .inr ⟨hlt, ?_⟩
      obtain ⟨f, hf⟩ : ∃ f, m0[i]? = some f := ⟨_, List.getElem?_eq_getElem hlt⟩
      have hfm := hm.mv f (List.mem_of_getElem? hf)
      refine wLoop_inv _ (fun j ρ u3 => u3 = u2 ∧ ∃ ms s7 s8, Mvs n ms ∧ (∀ (a : Nat) (g : List Nat), m0[a]? = some g → ms[a]? = some g) ∧ (∀ b g, b < j → m0[b]? = some g → comp f g ∈ ms ∧ comp g f ∈ ms) ∧ ρ = [some (.d mD), some (.own (ms.map rowD)), some (.d (.int i)), some (.d (.int word)), some (.d (.int n)), none, s6, s7, s8, none, none, none]) ?_ ?_ _ _ ⟨rfl, _, _, _, hm, fun _ _ h => h, by omega, rfl⟩
      · rintro j x ρ u3 F2 hx ⟨rfl, ms, s7, s8, hm2, pre, hdo, rfl⟩ m1 m2 m3 m4 m5
        rw [List.getElem?_map] at hx
        obtain ⟨g, hg, rfl⟩ := Option.map_eq_some_iff.mp hx
        have hgm := hm.mv g (List.mem_of_getElem? hg)
        refine ⟨_, rfl, ?_⟩
        have hfi := pre i f hf
        simp [fIx_rows hfi, seqD_row, -fIx, -wComp, -fIn, -wLoop, -seqD]
        have c1 := comp_mv hfm hgm
        have c2 := comp_mv hgm hfm
        have l1 := hm2.le n3
        have hm3 := addM_mv hm2 c1
        have l2 := hm3.le n3
        refine ⟨by have := hfm.1; omega, ?_⟩
        refine wComp_comp hfm hgm (fun e he => ⟨_, rfl, fun u R r => by simp [-fIx]; exact r⟩) ?_
        refine ⟨by have := hgm.1; omega, ?_⟩
        refine wComp_comp hgm hfm (fun e he => ⟨_, rfl, fun u R r => by simp [fIx_rows hfi, -fIx]; exact r⟩) ?_
        show wLoop (bName 8) _ F2 [rowD (comp f g), rowD (comp g f)] _ _
        refine ⟨_, rfl, step_add (by omega) ⟨_, rfl, step_add (by omega) (m1 _ _ ⟨rfl, _, _, _, addM_mv hm3 c2, fun a g ha => addM_pre (addM_pre (pre a g ha)), fun b g' hb hg' => ?_, rfl⟩)⟩⟩
        by_cases e : b = j
        · subst e
          rw [hg] at hg'
          cases hg'
          exact ⟨addM_in addM_mem, addM_mem⟩
        · obtain ⟨q1, q2⟩ := hdo b g' (by omega) hg'
          exact ⟨addM_in (addM_in q1), addM_in (addM_in q2)⟩
      · rintro ρ u3 ⟨rfl, ms, s7, s8, hm2, pre, hdo, rfl⟩
        refine n1' _ _ ⟨rfl, ms, _, _, _, _, hm2, fun a b f1 g1 ha hb h1 h2 => ?_, rfl⟩
        rw [List.length_map] at hdo
        have back : ∀ a g, a ≤ i → ms[a]? = some g → m0[a]? = some g := fun a g ha h => by
          have : m0[a]? = some m0[a] := List.getElem?_eq_getElem (by omega)
          rw [this, ← h, pre a _ this]
        have h1' := back a f1 (by omega) h1
        have h2' := back b g1 (by omega) h2
        by_cases ea : a = i
        · subst ea
          rw [hf] at h1'
          cases h1'
          exact (hdo b g1 (List.getElem?_eq_some_iff.mp h2').1 h2').1
        · by_cases eb : b = i
          · subst eb
            rw [hf] at h2'
            cases h2'
            exact (hdo a f1 (List.getElem?_eq_some_iff.mp h1').1 h1').2
          · obtain ⟨c, hc⟩ := List.getElem?_of_mem (hcl a b f1 g1 (by omega) (by omega) h1' h2')
            exact List.mem_of_getElem? (pre c _ hc)
    · rintro ρ u2 ⟨rfl, ms, s2, s6, s7, s8, hm, hcl, rfl⟩
      rw [rgD_len] at hcl
      have h27 := hm.le n3
      have cl : ∀ f ∈ ms, ∀ g ∈ ms, comp f g ∈ ms := fun f hf g hg => by
        obtain ⟨a, ha⟩ := List.getElem?_of_mem hf
        obtain ⟨b, hb⟩ := List.getElem?_of_mem hg
        exact hcl a b f g (by have := (List.getElem?_eq_some_iff.mp ha).1; omega) (by have := (List.getElem?_eq_some_iff.mp hb).1; omega) ha hb
      have fin := q (tabMv ms) u2 (tabMv_good hm n3 cl) (by omega)
      simp [-wComp, -fIn, -wLoop]
      refine ⟨by omega, ?_⟩
      have hfin : Qd (.tuple ([] ++ ms.map fun f => rowD (ms.map fun g => idx ms (comp f g)))) u2 := by
        simpa [tabD, tabMv, List.map_map, Function.comp_def] using fin
      refine wComp_mapT rowD (fun f => rowD (ms.map fun g => idx ms (comp f g))) ms [] u2 (fun f hf => ⟨_, rfl, fun u3 R rr => ?_⟩) hfin
      simp [-wComp, -fIn, -wLoop]
      refine ⟨by omega, ?_⟩
      refine wComp_mapT rowD (fun g => .int (idx ms (comp f g) : Nat)) ms [] u3 (fun g hg => ⟨_, rfl, fun u4 R2 rr2 => ?_⟩) ?_
      · simp [seqD_row, -wComp, -fIn, -wLoop, -seqD]
        refine ⟨by have := (hm.mv f hf).1; omega, ?_⟩
        refine wComp_comp (hm.mv f hf) (hm.mv g hg) (fun e he => ⟨_, rfl, fun u5 R3 r3 => by simp [-fIx]; exact r3⟩) ?_
        have hc := cl f hf g hg
        refine ⟨_, idx ms (comp f g), rowD (comp f g), rfl, (Sh.lst (n := 62) (fun d hd => by obtain ⟨x, _, rfl⟩ := List.mem_map.mp hd; exact sh_row x)).mono (by omega) |>.shaped, ((sh_row (comp f g)).mono (by omega)).shaped, by rw [List.getElem?_map, idx_get hc]; rfl, (eqv_nb _ _ (sh_row _).1 (sh_row _).1).mpr rfl, fun m z hml hz => ?_, rr2⟩
        rw [List.getElem?_map] at hz
        obtain ⟨y, hy, rfl⟩ := Option.map_eq_some_iff.mp hz
        rw [← Bool.not_eq_true]
        intro he
        have e1 := rowD_inj ((eqv_nb _ _ (sh_row _).1 (sh_row _).1).mp he)
        rw [e1] at hy
        have := idx_of hm.nd hy
        omega
      · simpa [rowD, List.map_map, Function.comp_def] using rr
end K10

set_option Elab.async false
set_option linter.all false
set_option maxRecDepth 100000
set_option maxHeartbeats 4000000
namespace K10
open PySem PySem.Spec PyProof.Rows L2 DW
section
variable {X : Cx} {W : XK}
theorem psTry0 {body : List Stmt} {h0 : ExceptHandler} {hs : List ExceptHandler} {pos : Pos} {w : WS} (hb : PSs X.nox body (tSx X.K W w)) : PS X (.Try body (h0 :: hs) [] [] pos) (tSx X.K W w) := ps_try_thru0 hb
theorem pssNever {sts : List Stmt} : PSs X sts (tSx X.K W fun _ _ _ => False) := ⟨fun _ _ _ _ _ _ ⟨_, _, _, _, _, _, _, z, _⟩ => z.elim⟩
end
section
variable {P : Program} {w : World} {K : PySem.W.Frag} {mg : Str → Option Value} {base : Heap}
theorem fnD2 {x qual : Str} {st : Stmt} {f : Addr} {fd : FuncData} {Ns ps : List Str} {k : Nat} {W : WF} {wb wb2 : WS} (F : Fun K x qual st f fd) (S : FnScope Ns ps (defScope st))
    (h1 : ∀ (cdv : Value) (A : Around) (outer : List Env) (s : Shared) (H : Hp) (E : XK), Room k (A.deeper (envOfC qual (defScope st) s.heap.objs.size f cdv)) → PSs (cxOf CX0 P w K mg base Ns qual (defScope st) f cdv A outer s H E).nox (defBody st) (tSt K wb))
    (h2 : ∀ (cdv : Value) (A : Around) (outer : List Env) (s : Shared) (H : Hp) (E : XK), Room k (A.deeper (envOfC qual (defScope st) s.heap.objs.size f cdv)) → PSs (cxOf CX0 P w K mg base Ns qual (defScope st) f cdv A outer s H E).nox (defBody st) (tSt K wb2))
    (h : ∀ u ds Qd, W u ds Qd → ds.length = ps.length ∧ (wb { nx := fun _ u' => Qd .none u', rt := Qd } (startR Ns ds) u ∨ wb2 { nx := fun _ u' => Qd .none u', rt := Qd } (startR Ns ds) u)) : FnOk P w K mg base CX0 (k + 1) f fd ps (spD K W) := by
  refine F.ok S (fun vs H Q E hs => ?_) (fun cdv A outer s H vs Q E hr hs => ?_)
  · obtain ⟨N, ds, u, Qd, hN, m, hd, hw, k⟩ := hs
    rw [hd.length]
    exact (h u ds Qd hw).1
  · obtain ⟨N, ds, u, Qd, hN, m, hd, hw, k⟩ := hs
    rcases (h u ds Qd hw).2 with hw | hw
    · refine ⟨_, h1 cdv A outer s H E hr, N, N, H, startR Ns ds, u, _, start_rel hN m hd, hw, fun A' σ' H' ρ' u' g R' q => ?_, fun v H' d u' s m hd q => k v H' d u' s m hd q, fun _ _ _ _ _ _ _ q => q, fun _ _ _ _ _ _ _ q => q, fun _ _ _ _ _ q => q⟩
      exact k .non H' .none u' R'.step (R'.minv.less fun a _ h => R'.sub a h) .non q
    · refine ⟨_, h2 cdv A outer s H E hr, N, N, H, startR Ns ds, u, _, start_rel hN m hd, hw, fun A' σ' H' ρ' u' g R' q => ?_, fun v H' d u' s m hd q => k v H' d u' s m hd q, fun _ _ _ _ _ _ _ q => q, fun _ _ _ _ _ _ _ q => q, fun _ _ _ _ _ q => q⟩
      exact k .non H' .none u' R'.step (R'.minv.less fun a _ h => R'.sub a h) .non q
/-- what the classes of the errors say -/
structure HTxt {K : PySem.W.Frag} {mg : Str → Option Value} (T : Txt K mg) : Prop where
  ec : ExcC K T.a_NotLoops
  em : PySem.W.exmOne K (.ref T.a_NotLoops) (.ref T.a_NotLoops) = some true
  k1 : PySem.W.kitOne K (.ref T.a_NotLoops) (.ref T.a_NotOrder) = some false
  k2 : PySem.W.kitOne K (.ref T.a_NotLoops) (.ref T.a_TooMany) = some false
  k3 : PySem.W.kitOne K (.ref T.a_NotLoops) (.ref T.a_WorldError) = some true
abbrev NH : List Str := ["value", "told", "error", "odd", "e"]
theorem sc_heard : FnScope NH ["value"] (defScope s__law_heard) := ⟨rfl, rfl, rfl, by decide +kernel, rfl, by decide +kernel, by decide +kernel⟩
def w_h0 : WA := waCons (wfD (wLst waNil)) (waCons (wC .none) waNil)
def w_heard1 (c : Value) : WS := wSeq (wPar 1 2 w_h0) (wSeq (wSetD 1 (wfD (wLst (waCons (wFnX (W_loop_world c) (waCons (wVarD 0) waNil)) waNil)))) (wSeq (wIfS (wTst (wIsN false (wVar 2))) (wRet (wVar 1)) wNil) (fun _ _ _ => False)))
theorem der_heard1 (T : Txt K mg) (G_loop_world : FnOk P w K mg base (L2.CX P w) 4 T.f_loop_world T.fd_loop_world ["rows"] (spX K (W_loop_world T.c_NotLoops))) : ∀ (cdv : Value) (A : Around) (outer : List Env) (s : Shared) (H : Hp) (E : XK), Room 4 (A.deeper (envOfC "_law_heard" (defScope s__law_heard) s.heap.objs.size T.f__law_heard cdv)) → PSs (cxOf CX0 P w K mg base NH "_law_heard" (defScope s__law_heard) T.f__law_heard cdv A outer s H E).nox (defBody s__law_heard) (tSt K (w_heard1 T.c_NotLoops)) :=
  fun cdv A outer s H E hr => (pssCons (psPar (ps_par (i := 1) (j := 2) rfl sc_heard.nd rfl rfl (by decide) rfl rfl (paC (pf (pLstF paN)) (paC (pcN pe_non) paN)) (by rfl)))
    (pssCons (psTry0 (pssOne (psSetD (ps_set (i := 1) sc_heard.nd rfl (by first | exact Or.inl rfl | exact Or.inr rfl) (pf (pLstF (paC (pFnX G_loop_world (hr.mono (by decide)) (by rfl) T.g_loop_world T.F_loop_world.kp T.b_loop_world (paC (pnD (pv 0)) paN)) paN)))))))
    (pssCons (psIf (ptIsN (pnB (pv 2))) (pssOne (psRet (pnB (pv 1)))) pssNil) pssNever)))
def w_heardR (a : Addr) : WS := wSeq (wIfS (wTst (wIsN false (wVar 2))) (wRet (wVar 1)) wNil) (wSeq (wSetD 3 (wOr (wIsK 2 a false) (wIsK 2 a false))) (wRet (wIf (wtAnd (wTst (wIsK 2 a true)) (wtNot (wTst (wVarD 3)))) (wC (.str "loops")) (wC (.str "odd")))))
def w_heard2 (c : Value) : WS := wSeq (wPar 1 2 w_h0) (wTryErr c 4 (W_loop_world c) (waCons (wVarD 0) waNil) (wSetD 2 (wVarD 4)) w_heardR)
theorem der_heard2 (T : Txt K mg) (hT : HTxt T) (G_loop_world : FnOk P w K mg base (L2.CX P w) 4 T.f_loop_world T.fd_loop_world ["rows"] (spX K (W_loop_world T.c_NotLoops))) : ∀ (cdv : Value) (A : Around) (outer : List Env) (s : Shared) (H : Hp) (E : XK), Room 4 (A.deeper (envOfC "_law_heard" (defScope s__law_heard) s.heap.objs.size T.f__law_heard cdv)) → PSs (cxOf CX0 P w K mg base NH "_law_heard" (defScope s__law_heard) T.f__law_heard cdv A outer s H E).nox (defBody s__law_heard) (tSt K (w_heard2 T.c_NotLoops)) :=
  fun cdv A outer s H E hr => (pssCons (psPar (ps_par (i := 1) (j := 2) rfl sc_heard.nd rfl rfl (by decide) rfl rfl (paC (pf (pLstF paN)) (paC (pcN pe_non) paN)) (by rfl)))
    (pssTryErr (t := 1) (i := 4) (n := "e") rfl rfl sc_heard.nd rfl rfl ⟨by rfl, by decide, .inl T.xg_NotLoops⟩ hT.em G_loop_world (hr.mono (by decide)) (fun _ _ => by rfl) T.g_loop_world T.F_loop_world.kp T.b_loop_world
      (fun _ _ _ _ h => ps_set (i := 1) sc_heard.nd rfl (by first | exact Or.inl rfl | exact Or.inr rfl) h) (fun _ _ => paC (pnD (pv 0)) paN) rfl rfl (by decide) rfl
      (fun a pn => pssOne (psSetD (ps_set (i := 2) sc_heard.nd rfl (by first | exact Or.inl rfl | exact Or.inr rfl) (pnD (pv 4)))))
      (fun a oe pn hz hf => pssCons (psIf (ptIsN (pnB (pv 2))) (pssOne (psRet (pnB (pv 1)))) pssNil)
        (pssCons (psSetD (ps_set (i := 3) sc_heard.nd rfl (by first | exact Or.inl rfl | exact Or.inr rfl) (pOr (pIsK hT.ec hz hf hT.k1 (by rfl) T.m_isinstance boot_isinstance (pv 2) (by rfl) T.xg_NotOrder) (pOne (pIsK hT.ec hz hf hT.k2 (by rfl) T.m_isinstance boot_isinstance (pv 2) (by rfl) T.xg_TooMany)))))
        (pssOne (psRet (pb (pIf (PW.pt (ptAnd (ptV (pIsK hT.ec hz hf hT.k3 (by rfl) T.m_isinstance boot_isinstance (pv 2) (by rfl) T.xg_WorldError)) (ptAnd1 (ptNot (ptV (pnD (pv 3))))))) (pcS pe_str) (pcS pe_str)))))))))
end
end K10

set_option Elab.async false
set_option linter.all false
set_option maxRecDepth 100000
set_option maxHeartbeats 4000000
namespace K10
open PySem PySem.Spec PyProof.Rows L2 DW
theorem ob_heard (c : Value) : ∀ u ds Qd, W__law_heard u ds Qd → ds.length = 1 ∧ (w_heard1 c { nx := fun _ u' => Qd .none u', rt := Qd } (startR NH ds) u ∨ w_heard2 c { nx := fun _ u' => Qd .none u', rt := Qd } (startR NH ds) u) := by
  rintro u ds Qd ⟨v, rfl, hp, h⟩
  refine ⟨rfl, ?_⟩
  rcases h with ⟨T, rfl, hT, q⟩ | ⟨hn, q⟩
  · refine .inl ?_
    simp only [w_heard1, w_h0, startR]
    simp
    refine ⟨_, _, ⟨rfl, rfl⟩, ?_⟩
    exact ⟨tabD T, rfl, hp, .inl ⟨T, rfl, hT, rfl, q⟩⟩
  · refine .inr ?_
    simp only [w_heard2, w_h0, startR]
    simp
    refine ⟨v, rfl, hp, .inr ⟨hn, rfl, fun a => ?_⟩⟩
    simp [w_heardR, eD]
    exact q
theorem x_of {u : Nat} {xs : List D} {Q : D → Nat → Prop} : W__law_of u [mD, .list xs] Q = (0 < xs.length ∧ xs.length < 100000 ∧ (u : Int) < 1000000000 ∧ ∀ x ∈ xs, Q x (u + 1)) :=
  propext ⟨fun ⟨xs, e, h⟩ => by cases e; exact h, fun h => ⟨xs, rfl, h⟩⟩
theorem plainTab_of {xs : List D} (hl : xs.length < 100000) (h : ∀ x ∈ xs, plainRow x) : plainTab (.tuple xs) := ⟨rfl, fun ys e => by cases e; exact ⟨hl, h⟩⟩
theorem plainRow_of {xs : List D} (hl : xs.length < 100000) (h : ∀ x ∈ xs, plainD x = true) : plainRow (.tuple xs) := ⟨rfl, fun ys e => by cases e; exact ⟨hl, h⟩⟩
theorem plainRow_sc {v : D} (h : plainD v = true) (n : ∀ xs, v ≠ .tuple xs) : plainRow v := ⟨h, fun xs e => absurd e (n xs)⟩
theorem plainTab_sc {v : D} (h : plainD v = true) (n : ∀ xs, v ≠ .tuple xs) : plainTab v := ⟨h, fun xs e => absurd e (n xs)⟩
theorem plain_ints {r : List Nat} : ∀ x ∈ r.map (fun e => (.int (e : Nat) : D)), plainD x = true := fun x h => by
  obtain ⟨e, _, rfl⟩ := List.mem_map.mp h
  rfl
theorem wCompF_map {b : WB} {we : WA} {ρ : Rho} {Q : List (List D) → Nat → Prop} {α : Type} (enc : α → D) (f : α → List D) : ∀ (xs : List α) (acc : List (List D)) (u : Nat),
    (∀ x ∈ xs, ∃ ρ', b (enc x) ρ = some ρ' ∧ ∀ u (R : List D → Nat → Prop), R (f x) u → we ρ' u R) → Q (acc ++ xs.map f) u → wCompF b we ρ (xs.map enc) acc u Q
  | [], acc, u, _, q => by simpa using q
  | x :: xs, acc, u, h, q => by
    obtain ⟨ρ', e, he⟩ := h x List.mem_cons_self
    exact ⟨ρ', e, he u _ (wCompF_map enc f xs _ u (fun y hy => h y (List.mem_cons_of_mem _ hy)) (by simpa using q))⟩
theorem ob_law_bent : ∀ u ds Qd, W__law_bent u ds Qd → ds.length = 2 ∧ w__law_bent { nx := fun _ u' => Qd .none u', rt := Qd } (startR ["m", "table", "rows_so", "word", "k", "a", "b", "row"] ds) u := by
  rintro u ds Qd ⟨T, rfl, hT, hu, q⟩
  refine ⟨rfl, ?_⟩
  simp only [w__law_bent, startR]
  have h1 := hT.1.1
  have h40 := hT.1.2.1
  have rl : ∀ r ∈ T, r.length = T.length := fun r hr => (hT.1.2.2 r hr).1
  simp only [wSeq, wUnp, wTup, wPar, waCons, waNil, wFn, wVarD, wC, wCall]
  refine ⟨_, rfl, ?_⟩
  rw [x_draw]
  refine ⟨by decide, by decide, by omega, fun word w0 w8 => ⟨_, rfl, ?_⟩⟩
  show fLen [tabD T] _
  rw [fLen_tab]
  refine ⟨_, _, rfl, ?_⟩
  refine ⟨_, rfl, _, rfl, ?_⟩
  rw [x_draw]
  refine ⟨by omega, by omega, by omega, fun ra a0 a1 => ⟨_, rfl, _, rfl, ?_⟩⟩
  rw [x_draw]
  refine ⟨by omega, by omega, by omega, fun rb b0 b1 => ⟨_, _, rfl, ?_⟩⟩
  obtain ⟨a, rfl⟩ := Int.eq_ofNat_of_zero_le a0
  obtain ⟨b, rfl⟩ := Int.eq_ofNat_of_zero_le b0
  have ha : a < T.length := by omega
  have hb : b < T.length := by omega
  simp only [wNest, wLcF, wi1, wVarD]
  refine ⟨by simp, _, rfl, ?_⟩
  rw [seqD_tab]
  refine ⟨by rw [List.length_map]; omega, ?_⟩
  refine wCompF_map rowD (fun r => r.map fun e => .int (e : Nat)) T [] _ (fun r hr => ⟨_, rfl, fun u R rr => ?_⟩) ?_
  · refine ⟨_, rfl, ?_⟩
    show fLstOf [rowD r] _
    exact rr
  rw [List.nil_append]
  generalize hxss : T.map (fun r => r.map fun e => (.int (e : Nat) : D)) = xss
  have hrow : ∀ r ∈ xss, r.length = T.length ∧ ∀ x ∈ r, plainD x = true := fun r hr => by
    rw [← hxss] at hr
    obtain ⟨y, hy, rfl⟩ := List.mem_map.mp hr
    exact ⟨by rw [List.length_map]; exact rl y hy, plain_ints⟩
  have hxl : xss.length = T.length := by rw [← hxss, List.length_map]
  simp only [wTst, w2, wVar, wC, SV.val]
  refine ⟨_, rfl, ?_⟩
  have bentT : ∀ (yss : List (List D)) (u' : Nat), yss.length ≤ 100 → (∀ ys ∈ yss, ys.length ≤ 100 ∧ ∀ y ∈ ys, plainD y = true) → u' ≤ u + 1000 → Qd (.tuple (yss.map .tuple)) u' := fun yss u' hl hy hu' => q _ _ (plainTab_of (by rw [List.length_map]; omega) fun x hx => by
    obtain ⟨ys, hys, rfl⟩ := List.mem_map.mp hx
    exact plainRow_of (by have := (hy ys hys).1; omega) (hy ys hys).2) hu'
  by_cases c3 : word < 3
  · have fin : ∀ (d : D) (w : Nat), plainD d = true → w ≤ u + 1000 → ∃ a3 : Nat, (a : Int) = a3 ∧ ∃ x : Nat, (b : Int) = x ∧ ∃ x1, xss[a3]? = some x1 ∧ x < x1.length ∧ seqD (.list ((xss.map .list).set a3 (.list (x1.set x d)))) fun ds => ds.length < 100000 ∧
        wComp (bName 7) wTy (wCall fTupOf (waCons (wVar 7) waNil)) [some (.d mD), some (.d (tabD T)), some (.d (.list ((xss.map .list).set a3 (.list (x1.set x d))))), some (.d (.int word)), some (.d (.int T.length)), some (.d (.int a)), some (.d (.int b)), none] ds [] w fun ds u' => Qd (.tuple ds) u' := fun d w hd hw => by
      have hax : a < xss.length := by omega
      obtain ⟨r1, r2⟩ := hrow xss[a] (List.getElem_mem hax)
      refine ⟨a, rfl, b, rfl, xss[a], List.getElem?_eq_getElem hax, by omega, ?_⟩
      have e : (xss.map PyData.list).set a (.list (xss[a].set b d)) = (xss.set a (xss[a].set b d)).map .list := by rw [List.map_set]
      rw [e]
      refine ⟨by rw [List.length_map, List.length_set]; omega, ?_⟩
      refine wComp_mapT PyData.list PyData.tuple _ [] w (fun ys hys => ⟨_, rfl, fun u R r => by simpa using r⟩) ?_
      rw [List.nil_append]
      refine bentT _ _ (by rw [List.length_set]; omega) (fun ys hys => ?_) hw
      rcases List.mem_or_eq_of_mem_set hys with h | h
      · have := hrow ys h
        exact ⟨by omega, this.2⟩
      · rw [h]
        refine ⟨by rw [List.length_set]; omega, fun y hy => ?_⟩
        rcases List.mem_or_eq_of_mem_set hy with h | h
        · exact r2 y h
        · rw [h]; exact hd
    simp [x_of, x_draw, c3, -wComp, -fIx, -seqD, -fLen, -wLoop]
    refine ⟨by omega, by omega, by omega, fun r r0 r1 => ⟨by simp [CPow], by omega, ?_⟩⟩
    and_intros <;> exact fin _ _ rfl (by omega)
  by_cases c4 : word = 3
  · subst c4
    simp [x_of, x_draw, fEq_int, fLen_tab, -fEq, -wComp, -fIx, -seqD, -fLen, -wLoop]
    obtain ⟨y1, e1, l1, i1⟩ := cutD_map rowD T none (some (a : Int))
    obtain ⟨y2, e2, l2, i2⟩ := cutD_map rowD T (some ((a : Int) + 1)) none
    show (DW.cutD (T.map rowD) none (some (a : Int))).length + (DW.cutD (T.map rowD) (some ((a : Int) + 1)) none).length ≤ 100000 ∧ Qd (.tuple (DW.cutD (T.map rowD) none (some (a : Int)) ++ DW.cutD (T.map rowD) (some ((a : Int) + 1)) none)) (u + 1 + 1 + 1)
    rw [e1, e2]
    refine ⟨by rw [List.length_map, List.length_map]; omega, ?_⟩
    have := bentT ((y1 ++ y2).map fun r => r.map fun e => .int (e : Nat)) (u + 1 + 1 + 1) (by rw [List.length_map, List.length_append]; omega) (fun ys hys => by
      obtain ⟨r, hr, rfl⟩ := List.mem_map.mp hys
      have hrT : r ∈ T := (List.mem_append.mp hr).elim (i1 r) (i2 r)
      exact ⟨by rw [List.length_map, rl r hrT]; omega, plain_ints⟩) (by omega)
    have e3 : rowD = fun x : List Nat => (PyData.tuple (List.map (fun e => (PyData.int (e : Nat) : D)) x) : D) := rfl
    rw [e3]
    simpa [List.map_map, Function.comp_def] using this
  by_cases c5 : word = 4
  · subst c5
    simp [x_of, x_draw, fEq_int, fLen_tab, -fEq, -wComp, -fIx, -seqD, -fLen, -wLoop]
    obtain ⟨y1, e1, l1, i1⟩ := cutD_map PyData.list xss none (some (-1))
    rw [e1]
    refine ⟨by rw [List.length_map]; omega, ?_⟩
    refine wComp_mapT PyData.list PyData.tuple _ [] _ (fun ys hys => ⟨_, rfl, fun u R r => by simpa using r⟩) ?_
    obtain ⟨ini, l, el⟩ : ∃ ini l, xss = ini ++ [l] := ⟨xss.dropLast, xss.getLast (by intro e; rw [e] at hxl; simp at hxl; omega), (List.dropLast_concat_getLast _).symm⟩
    have hl := hrow l (by rw [el]; simp)
    refine ⟨.list l, ?_, ?_⟩
    · rw [el, List.map_append]
      exact atI_last _ _
    · show ([] ++ y1.map PyData.tuple).length ≤ 99999 ∧ Qd (.tuple (([] ++ y1.map PyData.tuple) ++ [.list l])) _
      rw [List.nil_append]
      refine ⟨by rw [List.length_map]; omega, q _ _ (plainTab_of (by rw [List.length_append, List.length_map]; simp; omega) fun x hx => ?_) (by omega)⟩
      rcases List.mem_append.mp hx with h | h
      · obtain ⟨ys, hys, rfl⟩ := List.mem_map.mp h
        have := hrow ys (i1 ys hys)
        exact plainRow_of (by omega) this.2
      · have : x = .list l := by simpa using h
        rw [this]
        exact plainRow_sc rfl (by simp)
  by_cases c6 : word = 5
  · subst c6
    simp [x_of, x_draw, fEq_int, fLen_tab, seqD_tab, -fEq, -wComp, -fIx, -seqD, -fLen, -wLoop]
    refine ⟨by omega, ?_⟩
    refine wComp_mapT rowD (fun r => .tuple (r.map (fun e => (.int (e : Nat) : D)) ++ [.int 0])) T [] _ (fun r hr => ⟨_, rfl, fun u R rr => ?_⟩) ?_
    · have := rl r hr
      simp [rowD]
      exact ⟨by omega, rr⟩
    · rw [List.nil_append]
      have := bentT (T.map fun r => r.map (fun e => (.int (e : Nat) : D)) ++ [.int 0]) (u + 1 + 1 + 1) (by rw [List.length_map]; omega) (fun ys hys => by
        obtain ⟨r, hr, rfl⟩ := List.mem_map.mp hys
        have := rl r hr
        refine ⟨by simp; omega, fun y hy => ?_⟩
        rcases List.mem_append.mp hy with h | h
        · exact plain_ints y h
        · have : y = .int 0 := by simpa using h
          rw [this]; rfl) (by omega)
      simpa [List.map_map, Function.comp_def] using this
  simp [x_of, x_draw, c3, c4, c5, c6, fEq_int, fLen_tab, -fEq, -wComp, -fIx, -seqD, -fLen, -wLoop]
  show (u : Int) + 1 + 1 + 1 < 1000000000 ∧ _
  have w1 : u + 1 + 1 + 1 + 1 ≤ u + 1000 := by omega
  have sc : ∀ v : D, plainD v = true → (∀ xs, v ≠ .tuple xs) → Qd v (u + 1 + 1 + 1 + 1) := fun v h n => q v _ (plainTab_sc h n) w1
  have tp : ∀ xs : List D, xs.length ≤ 2 → (∀ x ∈ xs, plainRow x) → Qd (.tuple xs) (u + 1 + 1 + 1 + 1) := fun xs h n => q _ _ (plainTab_of (by omega) n) w1
  refine ⟨by omega, sc _ rfl (by simp), tp _ (by simp) (by simp), sc _ rfl (by simp), sc _ rfl (by simp), sc _ rfl (by simp), sc _ rfl (by simp), sc _ rfl (by simp), sc _ rfl (by simp), tp _ (by simp) ?_, tp _ (by simp) ?_, tp _ (by simp) ?_, tp _ (by simp) ?_, tp _ (by simp) ?_⟩
  · intro x hx
    have : x = .tuple [] := by simpa using hx
    rw [this]; exact plainRow_of (by simp) (by simp)
  · intro x hx
    have : x = .tuple [.bool true] := by simpa using hx
    rw [this]; exact plainRow_of (by simp) (by simp)
  · intro x hx
    have : x = .tuple [.str "0"] := by simpa using hx
    rw [this]; exact plainRow_of (by simp) (by simp)
  · intro x hx
    have : x = .tuple [.int 0, .int 1] ∨ x = .tuple [.int 1] := by simpa using hx
    rcases this with h | h <;> rw [h] <;> exact plainRow_of (by simp) (by simp)
  · intro x hx
    have : x = .int 0 := by simpa using hx
    rw [this]; exact plainRow_sc rfl (by simp)
end K10

set_option Elab.async false
set_option linter.all false
set_option maxRecDepth 100000
set_option maxHeartbeats 4000000
namespace K10
open PySem PySem.Spec PyProof.Rows L2 DW
/-! what may be told as a text -/
structure RO (n w : Nat) (d : D) : Prop where
  a : d.canLay0 = true
  b : d.depth ≤ n
  c : d.weight ≤ w
  e : d.intsShort 13 = true
  f : d.showable = true
theorem RO.mono {n n' w w' : Nat} {d : D} (h : RO n w d) (h1 : n ≤ n') (h2 : w ≤ w') : RO n' w' d := ⟨h.a, Nat.le_trans h.b h1, Nat.le_trans h.c h2, h.e, h.f⟩
theorem RO.ok {d : D} (h : RO 64 1048576 d) : reprOk d = true := by
  unfold reprOk PyData.layable0
  rw [h.a, h.e, h.f, decide_eq_true h.b, decide_eq_true (show d.weight ≤ 2 ^ 20 from h.c)]
  rfl
theorem ro_all {n w : Nat} : ∀ {xs : List D}, (∀ x ∈ xs, RO n w x) → PyData.canLayAll0 xs = true ∧ PyData.depthAll xs ≤ n ∧ PyData.weightAll xs ≤ xs.length * (w + 1) ∧ PyData.intsShortAll 13 xs = true ∧ PyData.showableAll xs = true
  | [], _ => by simp [PyData.canLayAll0, PyData.depthAll, PyData.weightAll, PyData.intsShortAll, PyData.showableAll]
  | x :: xs, h => by
    obtain ⟨a, b, c, e, f⟩ := h x List.mem_cons_self
    obtain ⟨a2, b2, c2, e2, f2⟩ := ro_all (xs := xs) fun y hy => h y (List.mem_cons_of_mem _ hy)
    refine ⟨by simp [PyData.canLayAll0, a, a2], by simp [PyData.depthAll]; omega, ?_, by simp [PyData.intsShortAll, e, e2], by simp [PyData.showableAll, f, f2]⟩
    simp only [PyData.weightAll, List.length_cons, Nat.succ_mul]
    omega
theorem RO.tup {n w : Nat} {xs : List D} (h : ∀ x ∈ xs, RO n w x) : RO (n + 1) (xs.length * (w + 1)) (.tuple xs) := by
  obtain ⟨a, b, c, e, f⟩ := ro_all h
  exact ⟨by simpa [PyData.canLay0] using a, by simp [PyData.depth]; exact b, by simpa [PyData.weight] using c, by simpa [PyData.intsShort] using e, by simpa [PyData.showable] using f⟩
theorem RO.lst {n w : Nat} {xs : List D} (h : ∀ x ∈ xs, RO n w x) : RO (n + 1) (xs.length * (w + 1)) (.list xs) := by
  obtain ⟨a, b, c, e, f⟩ := ro_all h
  exact ⟨by simpa [PyData.canLay0] using a, by simp [PyData.depth]; exact b, by simpa [PyData.weight] using c, by simpa [PyData.intsShort] using e, by simpa [PyData.showable] using f⟩
theorem ro_small : ∀ e : Nat, e < 48 → (PyData.int (e : Nat)).weight ≤ 10 ∧ (PyData.int (e : Nat)).intsShort 13 = true ∧ (PyData.int (e : Nat)).showable = true := by decide +kernel
theorem RO.num {e : Nat} (h : e < 48) : RO 0 10 (.int (e : Nat)) := ⟨rfl, Nat.le_refl 0, (ro_small e h).1, (ro_small e h).2.1, (ro_small e h).2.2⟩
theorem ro_row {T : List (List Nat)} (hT : IsTab T) {r : List Nat} (hr : r ∈ T) : RO 1 440 (rowD r) := by
  have h40 := hT.2.1
  obtain ⟨h1, h2⟩ := hT.2.2 r hr
  refine (RO.tup (n := 0) (w := 10) fun x hx => ?_).mono (Nat.le_refl _) (by rw [List.length_map, h1]; omega)
  obtain ⟨e, he, rfl⟩ := List.mem_map.mp hx
  exact RO.num (by have := h2 e he; omega)
theorem ro_tab {T : List (List Nat)} (hT : IsTab T) : RO 2 17640 (tabD T) := by
  have h40 := hT.2.1
  refine (RO.tup (n := 1) (w := 440) fun x hx => ?_).mono (Nat.le_refl _) (by rw [List.length_map]; omega)
  obtain ⟨r, hr, rfl⟩ := List.mem_map.mp hx
  exact ro_row hT hr
theorem ro_world {T : List (List Nat)} (hT : IsTab T) : RO 3 60000 (worldD T) := by
  have h40 := hT.2.1
  have hz : RO 1 22 (.tuple [.int 0, .int 0]) := by
    refine (RO.tup (n := 0) (w := 10) fun x hx => ?_).mono (Nat.le_refl _) (by simp)
    have : x = .int 0 := by simpa using hx
    rw [this]; exact RO.num (e := 0) (by omega)
  have he : RO 2 920 (endsD T.length) := by
    refine (RO.tup (n := 1) (w := 22) fun x hx => ?_).mono (Nat.le_refl _) (by rw [List.length_replicate]; omega)
    rw [(List.mem_replicate.mp hx).2]; exact hz
  refine (RO.tup (n := 2) (w := 17640) fun x hx => ?_).mono (Nat.le_refl _) (by simp)
  have : x = .int 1 ∨ x = endsD T.length ∨ x = tabD T := by simpa using hx
  rcases this with rfl | rfl | rfl
  · exact (RO.num (e := 1) (by omega)).mono (by omega) (by omega)
  · exact he.mono (Nat.le_refl _) (by omega)
  · exact ro_tab hT
theorem ro_loops : RO 0 10 (.str "loops") := ⟨by decide +kernel, Nat.le_refl 0, by decide +kernel, rfl, rfl⟩
theorem x_like {u : Nat} {a b : D} {Q : D → Nat → Prop} : W__law_like u [a, b] Q = (reprOk a = true ∧ reprOk b = true ∧ Q (.bool (decide (a.shown = b.shown))) u) :=
  propext ⟨fun ⟨a, b, e, h⟩ => by cases e; exact h, fun h => ⟨a, b, rfl, h⟩⟩
theorem like_same {u : Nat} {a b : D} {Q : D → Nat → Prop} (e : a = b) (h : RO 64 1048576 a) (q : Q (.bool true) u) : W__law_like u [a, b] Q := by
  subst e
  rw [x_like]
  exact ⟨h.ok, h.ok, by simpa using q⟩
theorem plain_tab {T : List (List Nat)} (hl : T.length < 100) (h : ∀ r ∈ T, r.length < 100) : plainTab (tabD T) := plainTab_of (by rw [List.length_map]; omega) fun x hx => by
  obtain ⟨r, hr, rfl⟩ := List.mem_map.mp hx
  exact plain_row (by have := h r hr; omega)
theorem IsTab.plain {T : List (List Nat)} (hT : IsTab T) : plainTab (tabD T) := plain_tab (by have := hT.2.1; omega) fun r hr => by have := (hT.2.2 r hr).1; have := hT.2.1; omega
theorem g_loop_world {c : Value} {u : Nat} {T : List (List Nat)} {Q : D → Nat → Prop} {E : Value → Nat → Prop} (hT : GT T) (q : Q (worldD T) u) : W_loop_world c u [tabD T] Q E := ⟨_, rfl, hT.1.plain, .inl ⟨T, rfl, hT, q⟩⟩
theorem g_loops {u : Nat} {T : List (List Nat)} {Q : D → Nat → Prop} (hT : IsTab T) (q : Q (worldD T) u) : W__law_loops u [tabD T] Q := ⟨T, rfl, hT, q⟩
theorem g_heard {u : Nat} {T : List (List Nat)} {Q : D → Nat → Prop} (hT : GT T) (q : Q (.list [worldD T]) u) : W__law_heard u [tabD T] Q := ⟨_, rfl, hT.1.plain, .inl ⟨T, rfl, hT, q⟩⟩
theorem fLen_scr {ns : List Int} {Q : D → Prop} (q : Q (.int (ns.length : Nat))) : fLen [sD ns] Q := ⟨ns, rfl, q⟩
theorem ro_one {T : List (List Nat)} (hT : IsTab T) : RO 64 1048576 (.list [worldD T]) := (RO.lst (n := 3) (w := 60000) fun x hx => by
  have : x = worldD T := by simpa using hx
  rw [this]; exact ro_world hT).mono (by omega) (by simp)
theorem ro_two {T : List (List Nat)} (hT : IsTab T) : RO 64 1048576 (.list [worldD T, worldD T]) := (RO.lst (n := 3) (w := 60000) fun x hx => by
  have : x = worldD T := by simpa using hx
  rw [this]; exact ro_world hT).mono (by omega) (by simp)
theorem good_one : GT [[0]] := ⟨⟨by decide, by decide, by simp⟩, by decide⟩
theorem not_more {f : Nat → Nat → Nat} : ¬ ∃ T, tabD (tabOf 41 f) = tabD T ∧ GT T := fun ⟨T, e, h⟩ => by
  have := h.1.2.1
  rw [← tabD_inj e, tabOf_len] at this
  omega
end K10

set_option Elab.async false
set_option linter.all false
set_option maxRecDepth 100000
set_option maxHeartbeats 4000000
namespace K10
open PySem PySem.Spec PyProof.Rows L2 DW
theorem wMax {k : Nat} {ρ : Rho} {u : Nat} {R : D → Nat → Prop} (hk : k ≤ 100) (r : R (tabD (tabOf k fun a b => max a b)) u) {own1 own2 : List Nat} (h8 : own1 = [8]) (h9 : own2 = [9]) (hl : ρ.length = 10) :
    (wCall fTupOf (waCons (wfD (wLc (wiR1 (wC (.int (k : Nat)))) (bName 8) wTy (wCall fTupOf (waCons (wfD (wLc (wiR1 (wC (.int (k : Nat)))) (bName 9) wTy (wCall fMax2 (waCons (wVar 8) (waCons (wVar 9) waNil))) own2)) waNil)) own1)) waNil)) ρ u R := by
  subst h8 h9
  simp [-wComp]
  refine ⟨by unfold big62; omega, by rw [rgD_len]; omega, ?_⟩
  rw [rgD_map]
  refine wComp_mapT (fun i : Nat => (.int (i : Nat) : D)) (fun a => rowD ((List.range k).map fun b => max a b)) (List.range k) [] _ (fun a ha => ⟨_, rfl, fun u R rr => ?_⟩) ?_
  · simp [-wComp]
    refine ⟨by unfold big62; omega, by rw [rgD_len]; omega, ?_⟩
    rw [rgD_map]
    refine wComp_mapT (fun i : Nat => (.int (i : Nat) : D)) (fun b => .int ((max a b : Nat) : Int)) (List.range k) [] _ (fun b hb => ⟨_, rfl, fun u R rr => ?_⟩) ?_
    · have e : (if a < b then (b : Int) else a) = ((max a b : Nat) : Int) := by
        by_cases h : a < b
        · rw [if_pos h]; omega
        · rw [if_neg h]; omega
      have g8 : ((((ρ.set 8 none).set 8 (some (SV.d (.int (a : Nat))))).set 9 none).set 9 (some (SV.d (.int (b : Nat)))))[8]? = some (some (SV.d (.int (a : Nat)))) := by simp [hl]
      have g9 : ((((ρ.set 8 none).set 8 (some (SV.d (.int (a : Nat))))).set 9 none).set 9 (some (SV.d (.int (b : Nat)))))[9]? = some (some (SV.d (.int (b : Nat)))) := by simp [hl]
      simp [hl]
      rw [e]
      exact rr
    · simpa [rowD, List.map_map, Function.comp_def] using rr
  · simpa [tabD, tabOf, List.map_map, Function.comp_def] using r
theorem ob_law (c : Value) : ∀ u ds Qd, W_law u ds Qd → ds.length = 1 ∧ w_law c { nx := fun _ u' => Qd .none u', rt := Qd } (startR ["script", "turn", "forty", "more", "m", "table", "step", "value", "a", "b"] ds) u := by
  rintro u ds Qd ⟨ns, rfl, hns, hu, q⟩
  refine ⟨rfl, ?_⟩
  simp only [w_law, startR]
  rw [wSeq]
  simp only [wFor, wiR1, wCall, waCons, waNil, wC, wVar, SV.val]
  refine ⟨_, rfl, ?_⟩
  refine fLen_scr ?_
  obtain ⟨k, hk, k1, k4⟩ : ∃ k : Nat, (if (if (ns.length : Int) < 4 then (ns.length : Int) else 4) > 1 then (if (ns.length : Int) < 4 then (ns.length : Int) else 4) else 1) = (k : Int) ∧ 1 ≤ k ∧ k ≤ 4 := by
    by_cases h : (ns.length : Int) < 4
    · rw [if_pos h]
      by_cases h2 : (ns.length : Int) > 1
      · rw [if_pos h2]; exact ⟨ns.length, rfl, by omega, by omega⟩
      · rw [if_neg h2]; exact ⟨1, rfl, by omega, by omega⟩
    · rw [if_neg h]
      exact ⟨4, rfl, by omega, by omega⟩
  simp only [fMin2, fMax2]
  refine ⟨_, by rw [hk], by unfold big62; omega, ?_⟩
  refine wLoop_inv _ (fun i ρ u' => u' ≤ u + 6000 * i ∧ ∃ s1 s4 s5 s6 s7, ρ = [some (.d (sD ns)), s1, none, none, s4, s5, s6, s7, none, none] ∧ (0 < i → s4 = some (.d mD))) ?_ ?_ _ _ ⟨by omega, _, _, _, _, _, rfl, by omega⟩
  · rintro i x ρ u' F' hx ⟨hu', s1, s4, s5, s6, s7, rfl, h4⟩ n1 n2 n3 n4 n5
    obtain ⟨hi, rfl⟩ := rg_get hx
    refine ⟨_, rfl, ?_⟩
    simp only [wSeq, wSetD, wFn, waCons, waNil, wVarD]
    refine ⟨_, rfl, _, rfl, ⟨ns, i, rfl, by omega, by omega, hns, ?_⟩⟩
    refine ⟨_, rfl, ⟨rfl, by omega, fun T u2 hT hu2 => ?_⟩⟩
    simp [-wLoop]
    refine g_loop_world hT (g_loop_world hT (g_loops hT.1 ?_))
    refine like_same (by rfl) (ro_two hT.1) ?_
    refine .inr ⟨rfl, ?_⟩
    refine g_loop_world hT ⟨T, rfl, hT, ?_⟩
    refine .inl ⟨rfl, by unfold big62; omega, ?_⟩
    have e4 : (4 : Int) = ((4 : Nat) : Int) := rfl
    rw [e4]
    refine wLoop_inv _ (fun j ρ u3 => u3 ≤ u + 6000 * i + 1000 + 1000 * j ∧ ∃ s6 s7, ρ = [some (.d (sD ns)), some (.d (.int i)), none, none, some (.d mD), some (.d (tabD T)), s6, s7, none, none]) ?_ ?_ _ _ ⟨by omega, _, _, rfl⟩
    · rintro j x ρ u3 F2 hx ⟨hu3, s6, s7, rfl⟩ m1 m2 m3 m4 m5
      obtain ⟨hj, rfl⟩ := rg_get hx
      refine ⟨_, rfl, ?_⟩
      refine ⟨_, rfl, _, rfl, ⟨T, rfl, hT, by omega, fun v u4 hv hu4 => ?_⟩⟩
      have go : F2.nx [some (.d (sD ns)), some (.d (.int i)), none, none, some (.d mD), some (.d (tabD T)), some (.d (.int j)), some (.d v), none, none] u4 := m1 _ _ ⟨by omega, _, _, rfl⟩
      simp [-wLoop]
      by_cases g : ∃ T2, v = tabD T2 ∧ GT T2
      · obtain ⟨T2, rfl, hT2⟩ := g
        refine g_heard hT2 ⟨_, rfl, hv, fun b hb => ?_⟩
        obtain rfl : b = true := hb.2 ⟨T2, rfl, hT2⟩
        simp
        exact g_loops hT2.1 (like_same rfl (ro_one hT2.1) (by simpa using go))
      · refine ⟨_, rfl, hv, .inr ⟨g, ⟨_, rfl, hv, fun b hb => ?_⟩⟩⟩
        obtain rfl : b = false := Bool.eq_false_iff.mpr fun h => g (hb.1 h)
        simp
        exact like_same rfl (ro_loops.mono (by omega) (by omega)) (by simpa using go)
    · rintro ρ u3 ⟨hu3, s6, s7, rfl⟩
      rw [rgD_len] at hu3
      exact n1 _ _ ⟨by omega, _, _, _, _, _, rfl, fun _ => rfl⟩
  · rintro ρ u' ⟨hu', s1, s4, s5, s6, s7, rfl, h4⟩
    rw [rgD_len] at h4 hu'
    obtain rfl := h4 (by omega)
    refine wMax (k := 40) (by decide) ?_ rfl rfl rfl
    refine wMax (k := 41) (by decide) ?_ rfl rfl rfl
    have h40 : GT (tabOf 40 fun a b => max a b) := good_max (by decide) (by decide)
    have p41 : plainTab (tabD (tabOf 41 fun a b => max a b)) := plain_tab (by rw [tabOf_len]; decide) fun r hr => by
      obtain ⟨a, _, rfl⟩ := List.mem_map.mp hr
      simp
    have fin : ∀ u2, wRet (wFn W__law_like (waCons (wfD (wLst (waCons (wFn W__law_heard (waCons (wVarD 3) waNil)) (waCons (wFn W__law_heard (waCons (wTup (waCons (wTup (waCons (wC (.int 0)) waNil)) waNil)) waNil)) waNil)))) (waCons (wfD (wLst (waCons (wC (.str "loops")) (waCons (wfD (wLst (waCons (wTup (waCons (wC (.int 1)) (waCons (wTup (waCons (wTup (waCons (wC (.int 0)) (waCons (wC (.int 0)) waNil))) waNil)) (waCons (wTup (waCons (wTup (waCons (wC (.int 0)) waNil)) waNil)) waNil)))) waNil))) waNil)))) waNil))) { nx := fun x u' => Qd .none u', rt := Qd }
        [some (.d (sD ns)), s1, some (.d (tabD (tabOf 40 fun a b => max a b))), some (.d (tabD (tabOf 41 fun a b => max a b))), some (.d mD), s5, s6, s7, none, none] u2 := fun u2 => by
      simp
      refine ⟨_, rfl, p41, .inr ⟨not_more, ?_⟩⟩
      refine g_heard (T := [[0]]) good_one ?_
      refine like_same rfl ((RO.lst (n := 4) (w := 70000) fun x hx => ?_).mono (by omega) (by simp)) (q _)
      have h : x = .str "loops" ∨ x = .list [worldD [[0]]] := by simpa using hx
      rcases h with rfl | rfl
      · exact ro_loops.mono (by omega) (by omega)
      · exact (RO.lst (n := 3) (w := 60000) fun x hx => by
          have : x = worldD [[0]] := by simpa using hx
          rw [this]; exact ro_world good_one.1).mono (by omega) (by simp)
    simp at fin
    simp [x_draw, fEq_int, -fEq]
    refine ⟨by omega, fun r r0 r6 => ?_⟩
    by_cases h : r = 0
    · refine .inr ⟨h, g_heard h40 (g_loops h40.1 (like_same rfl (ro_one h40.1) (.inr ⟨rfl, fin _⟩)))⟩
    · exact .inl ⟨h, fin _⟩
end K10

set_option Elab.async false
set_option linter.all false
set_option maxRecDepth 100000
set_option maxHeartbeats 4000000
namespace DW
open PySem PySem.Spec PyProof.Rows L2
/-! ### the law's call, for a law that uses repr -/
/-- the script alone, where the top's own text does not know it -/
def soloH (K : PySem.W.Frag) (a : Addr) (o : Obj) (xs : List V) : Hp := fun b => if b = a ∧ K.lookup a = none then some (.frz o (.lst xs)) else none
theorem solo_at {K : PySem.W.Frag} {a b : Addr} {o : Obj} {xs : List V} {z : HO} (h : soloH K a o xs b = some z) : b = a ∧ K.lookup a = none ∧ z = .frz o (.lst xs) := by
  unfold soloH at h
  split at h
  · rename_i q
    exact ⟨q.1, q.2, (Option.some.inj h).symm⟩
  · cases h
section
variable {P : Program} {w : World} {K : PySem.W.Frag} {mg mb : Str → Option Value} {k : Nat} {fa a : Addr} {fd : FuncData} {x : Str} {sp : Sp} {s1 : Shared} {vs : List Value} {ns : List Int}
structure LawAt (K : PySem.W.Frag) (mg mb : Str → Option Value) (a : Addr) (vs : List Value) (ns : List Int) (s1 : Shared) : Prop where
  kin : K.In s1.heap
  gl : s1.heap.Ns mainGlobals mg
  bl : s1.heap.Ns builtinsNs mb
  bb : ∀ x : Str, x ≠ "__name__" → mb x = bootBuiltins x
  nl : s1.heap.NoLimit
  gn : s1.gens = #[]
  at_ : s1.heap.get? a = some { cls := .type "list", data := .seq vs.toArray }
  is_ : IntsAre vs ns
  len : ns.length ≤ sizeLine
abbrev LawAt.H {K : PySem.W.Frag} {mg mb : Str → Option Value} {a : Addr} {vs : List Value} {ns : List Int} {s1 : Shared} (_ : LawAt K mg mb a vs ns s1) : Hp := soloH K a { cls := .type "list", data := .seq vs.toArray } (ns.map V.int)
theorem LawAt.vals (L : LawAt K mg mb a vs ns s1) : Vals (ns.map V.int) vs := vals_ints L.is_
theorem LawAt.sq (L : LawAt K mg mb a vs ns s1) : SqL K L.H a (ns.map V.int) := by
  cases q : K.lookup a with
  | none => exact .inl (.inr ⟨_, by unfold LawAt.H soloH; rw [if_pos ⟨rfl, q⟩]⟩)
  | some o =>
    obtain rfl : o = { cls := .type "list", data := .seq vs.toArray } := Option.some.inj ((L.kin a o q).symm.trans L.at_)
    refine .inr ⟨_, vs.toArray, _, q, rfl, rfl, rfl, ?_, ?_⟩
    · rw [List.size_toArray, L.is_.length]
      exact L.len
    · simpa using L.vals
theorem LawAt.hok (L : LawAt K mg mb a vs ns s1) : HOk P w L.H s1.heap := fun b z h => by
  obtain ⟨rfl, _, rfl⟩ := solo_at h
  exact ⟨L.at_, by rw [List.length_map]; exact L.len, vs, _, L.vals, L.at_⟩
theorem LawAt.low (L : LawAt K mg mb a vs ns s1) {b : Addr} {m : Str → Option Value} (h : s1.heap.Ns b m) : (hidT s1.heap L.H).Ns b m := by
  obtain ⟨o, es, ep, e, d, r⟩ := h
  refine ⟨o, es, ep, hidT_get e ?_, d, r⟩
  cases q : L.H b with
  | none => rfl
  | some z =>
    obtain ⟨rfl, _, _⟩ := solo_at q
    obtain rfl := Option.some.inj (L.at_.symm.trans e)
    cases (show Data.seq vs.toArray _ = Data.dict es ep from d)
theorem LawAt.kb (L : LawAt K mg mb a vs ns s1) : K.In (hidT s1.heap L.H) := fun b o e => by
  refine hidT_get (L.kin b o e) ?_
  cases q : L.H b with
  | none => rfl
  | some z =>
    obtain ⟨rfl, n, _⟩ := solo_at q
    rw [n] at e
    cases e
theorem LawAt.env (L : LawAt K mg mb a vs ns s1) : Env0 P w K mg (hidT s1.heap L.H) callerA [] s1 L.H := by
  obtain ⟨mc, n1, n2⟩ := L.nl
  refine ⟨rfl, ⟨L.kb, L.low L.gl, ⟨mb, L.low L.bl, L.bb⟩, ⟨mc, L.low n1, n2⟩⟩, fun b o e => of_hidT e, Nat.le_of_eq (hidT_size _ _), trivial, ?_, L.hok, .of_eq L.gn⟩
  exact fun b hb => absurd (show b ∈ ([] : List Addr) from hb) (by simp)
theorem LawAt.call (L : LawAt K mg mb a vs ns s1) (hr : Room k callerA) (F : ∀ base : Heap, K.In base → base.Ns mainGlobals mg → FnG P w K mg base k fa fd [x] sp) (hb : ∀ (s : Shared) (u : Value), BindsTo s fd ⟨[u], []⟩ [(x, u)])
    (hsp : ∀ H : Hp, Only H → SqL K H a (ns.map V.int) → sp [.ref a] H (fun v _ => v = .bl true) fun _ _ _ => False) :
    codeAny (model P w) callerA (.call (.ref fa) ⟨[.ref a], []⟩) (fun r s' => r = .ok (.ret (.bool true)) ∧ OldK s1.heap s'.heap ∧ s'.os = s1.os ∧ AllBare s'.gens) s1 := by
  have only : Only L.H := fun b => by
    cases q : L.H b with
    | none => exact .inl rfl
    | some z => exact .inr ⟨_, _, congrArg some (solo_at q).2.2⟩
  have goal := (F _ L.kb (L.low L.gl)).go callerA [] s1 L.H ⟨[.ref a], []⟩ [.ref a] [.ref a] _ _ rfl hr L.env (hb s1 (.ref a)) (.cons rfl .nil) (hsp L.H only L.sq)
  refine codeAny_mono goal fun r s' h => ?_
  match r, h with
  | .error e, h => exact h.elim
  | .ok .next, h => exact False.elim h
  | .ok .brk, h => exact False.elim h
  | .ok .cont, h => exact False.elim h
  | .ok (.ret u), h =>
    obtain ⟨v, H', os, bare, un, hok', r', q⟩ := h
    obtain rfl : v = .bl true := q
    obtain rfl : u = Value.bool true := r'
    refine ⟨rfl, .of_keep fun b o e => ?_, os, bare⟩
    cases q : L.H b with
    | none => exact un.keep b o e q (fun z => absurd (show b ∈ ([] : List Addr) from z) (by simp)) (by simp)
    | some z =>
      obtain ⟨rfl, _, rfl⟩ := solo_at q
      have o1 := (hok' b _ (un.frzs b _ _ q)).1
      rw [← e, L.at_]
      exact o1
end
theorem kit_in {K : PySem.W.Frag} {D C : Addr} {b : Bool} (hi : PySem.W.isClsIn K C = true) (ht : PySem.W.typeIn K (.ref C) = some (.type "type")) (hs : PySem.W.subIn K (.ref D) (.ref C) = some b) (hd : PySem.W.subIn K (.ref D) (.ref D) = some true) : PySem.W.kitOne K (.ref D) (.ref C) = some b := by
  unfold PySem.W.kitOne
  by_cases e : D = C
  · subst e
    rw [hs] at hd
    rw [if_pos (by simp), hd]
  · rw [if_neg (by simpa using e)]
    have hi' : (PySem.W.clsIn K C).isSome = true := hi
    show (if ((PySem.W.clsIn K C).isSome && PySem.W.typeIn K (.ref C) == some (.type "type")) = true then PySem.W.subIn K (.ref D) (.ref C) else none) = some b
    rw [hi', ht]
    exact hs
theorem law_start {K : PySem.W.Frag} {H : Hp} {a : Addr} {ns : List Int} {W : WF} (hl : ns.length ≤ 63) (hO : Only H) (hS : SqL K H a (ns.map V.int)) (hW : ∀ ns : List Int, ns.length ≤ 63 → W 0 [sD ns] (fun d _ => d = .bool true)) : spD K W [.ref a] H (fun v _ => v = .bl true) fun _ _ _ => False := by
  refine ⟨fun _ => False, [sD ns], 0, fun d _ => d = .bool true, fun _ h => h.elim, fun b o e m => ?_, .cons ?_ .nil, hW ns hl, fun v H' d u' _ _ hd e => ?_⟩
  · rcases hO b with z | ⟨ob, xs, z⟩
    · rw [z] at e; cases e
    · rw [z] at e
      cases e
      exact m.elim
  · rcases hS with h | h
    · refine .scr h (fun z => z) ?_
      rcases h with h | ⟨o, h⟩ <;> rw [h] <;> simp
    · exact .scrK (.inr h)
  · subst e
    cases hd
    rfl
theorem walk_G {l : PySem.W.OpenLaw} {n k : Nat} {q : Program} {loose : List Str} {XP : (Str → Option Value) → Heap → Prop} {YP : World → Heap → Prop} {d : DefRec} {K : Params → PySem.W.Frag} {sp : World → Sp} {x : Str}
    (hn : l.most = some n) (hn2 : n ≤ sizeLine) (hdf : d.params.defaults = []) (hr : Room k callerA) (hY : ∀ (w : World) (h : Heap), YP w h → (K w.params).In h)
    (F : ∀ (w : World) (mg : Str → Option Value) (fa : Addr) (h : Heap), (K w.params).In h → h.Ns mainGlobals mg → mg d.name = some (.ref fa) → ∃ fd : FuncData, (∀ (s : Shared) (u : Value), BindsTo s fd ⟨[u], []⟩ [(x, u)]) ∧ ∀ base : Heap, (K w.params).In base → base.Ns mainGlobals mg → FnG l.prog w (K w.params) mg base k fa fd [x] (sp w))
    (hsp : ∀ (w : World) (H : Hp) (a : Addr) (ns : List Int), ns.length ≤ n → Only H → SqL (K w.params) H a (ns.map V.int) → sp w [.ref a] H (fun v _ => v = .bl true) fun _ _ _ => False) :
    PySem.W.WalkO q loose XP YP l.row.toRowW d [] (fun f vs => PySem.call f vs) := by
  refine Att.attach_call hn hdf fun w s0 s1 mg mb fa o pm cd doc a vs ns G Y ho hd hcd hmg hobj hints hlen hg => ?_
  obtain ⟨fd, hb, hF⟩ := F w mg fa _ (hY w _ Y) G.T.g hmg
  have L : LawAt (K w.params) mg mb a vs ns s1 := ⟨hY w _ Y, G.T.g, G.T.b, G.T.builtins, G.T.nolimit, hg, hobj, hints, Nat.le_trans hlen hn2⟩
  exact L.call hr hF hb fun H hO hS => hsp w H a ns hlen hO hS
end DW

set_option Elab.async false
set_option linter.all false
set_option maxRecDepth 100000
set_option maxHeartbeats 4000000
namespace K10
open PySem PySem.Spec PyProof.Rows L2 DW
section
variable {P : Program} {w : World} {K : PySem.W.Frag} {mg : Str → Option Value} {base : Heap}
theorem all_fns (T : Txt K mg) (hT : HTxt T) : FnG P w K mg base 6 T.f_law T.fd_law ["script"] (spD K W_law) := by
  have G_is_number : FnOk P w K mg base CX0 1 T.f_is_number T.fd_is_number ["value", "low", "high"] (spD K W_is_number) := fnD T.F_is_number sc_is_number (der_is_number T ) (ob_is_number)
  have G_is_row : FnOk P w K mg base CX0 1 T.f_is_row T.fd_is_row ["value", "many"] (spD K W_is_row) := fnD T.F_is_row sc_is_row (der_is_row T ) (ob_is_row)
  have G_still_breach : FnOk P w K mg base CX0 1 T.f_still_breach T.fd_still_breach ["world"] (spD K W_still_breach) := fnD T.F_still_breach sc_still_breach (der_still_breach T ) (ob_still)
  have G_does_fit : FnOk P w K mg base CX0 1 T.f_does_fit T.fd_does_fit ["ends", "f", "g", "entry"] (spD K W_does_fit) := fnD T.F_does_fit sc_does_fit (der_does_fit T ) (ob_does_fit)
  have G_unit_breach : FnOk P w K mg base CX0 1 T.f_unit_breach T.fd_unit_breach ["world"] (spD K W_unit_breach) := fnD T.F_unit_breach sc_unit_breach (der_unit_breach T ) (ob_unit)
  have G_is_ordered_at : FnOk P w K mg base CX0 1 T.f_is_ordered_at T.fd_is_ordered_at ["table", "f"] (spD K W_is_ordered_at) := fnD T.F_is_ordered_at sc_is_ordered_at (der_is_ordered_at T ) (ob_is_ordered_at)
  have G_is_loop_at : FnOk P w K mg base CX0 1 T.f_is_loop_at T.fd_is_loop_at ["rows", "a"] (spD K W_is_loop_at) := fnD T.F_is_loop_at sc_is_loop_at (der_is_loop_at T ) (ob_is_loop_at)
  have G__law_begun : FnOk P w K mg base CX0 1 T.f__law_begun T.fd__law_begun ["script", "k"] (spD K W__law_begun) := fnD T.F__law_begun sc__law_begun (der__law_begun T ) (ob_law_begun)
  have G__law_draw : FnOk P w K mg base CX0 1 T.f__law_draw T.fd__law_draw ["m", "bound"] (spD K W__law_draw) := fnD T.F__law_draw sc__law_draw (der__law_draw T ) (ob_law_draw)
  have G__law_like : FnG P w K mg base 1 T.f__law_like T.fd__law_like ["got", "due"] (spD K W__law_like) := fnDG T.F__law_like sc__law_like (der__law_like T ) (ob_law_like)
  have G__law_loops : FnOk P w K mg base CX0 1 T.f__law_loops T.fd__law_loops ["rows_so"] (spD K W__law_loops) := fnD T.F__law_loops sc__law_loops (der__law_loops T ) (ob_law_loops)
  have G__law_good : FnOk P w K mg base CX0 1 T.f__law_good T.fd__law_good ["value"] (spD K W__law_good) := fnD T.F__law_good sc__law_good (der__law_good T ) (ob_law_good)
  have G_is_number_row : FnOk P w K mg base CX0 2 T.f_is_number_row T.fd_is_number_row ["value", "many", "low", "high"] (spD K W_is_number_row) := fnD T.F_is_number_row sc_is_number_row (der_is_number_row T G_is_number G_is_row) (ob_is_number_row)
  have G_fit_breach : FnOk P w K mg base CX0 2 T.f_fit_breach T.fd_fit_breach ["world"] (spD K W_fit_breach) := fnD T.F_fit_breach sc_fit_breach (der_fit_breach T G_does_fit) (ob_fit)
  have G_order_breach : FnOk P w K mg base CX0 2 T.f_order_breach T.fd_order_breach ["world"] (spD K W_order_breach) := fnD T.F_order_breach sc_order_breach (der_order_breach T G_is_ordered_at) (ob_order)
  have G__law_of : FnOk P w K mg base CX0 2 T.f__law_of T.fd__law_of ["m", "some"] (spD K W__law_of) := fnD T.F__law_of sc__law_of (der__law_of T G__law_draw) (ob_law_of)
  have G__law_table : FnOk P w K mg base CX0 2 T.f__law_table T.fd__law_table ["m"] (spD K W__law_table) := fnD T.F__law_table sc__law_table (der__law_table T G__law_draw) (ob_law_table)
  have G_has_form : FnOk P w K mg base CX0 3 T.f_has_form T.fd_has_form ["value"] (spD K W_has_form) := fnD T.F_has_form sc_has_form (der_has_form T G_is_number G_is_number_row G_is_row) (ob_has_form)
  have G_has_loop_form : FnOk P w K mg base CX0 3 T.f_has_loop_form T.fd_has_loop_form ["rows"] (spD K W_has_loop_form) := fnD T.F_has_loop_form sc_has_loop_form (der_has_loop_form T G_is_number_row) (ob_has_loop_form)
  have G__law_bent : FnOk P w K mg base CX0 3 T.f__law_bent T.fd__law_bent ["m", "table"] (spD K W__law_bent) := fnD T.F__law_bent sc__law_bent (der__law_bent T G__law_draw G__law_of) (ob_law_bent)
  have G_world_breach : FnOk P w K mg base CX0 4 T.f_world_breach T.fd_world_breach ["value"] (spD K W_world_breach) := fnD T.F_world_breach sc_world_breach (der_world_breach T G_fit_breach G_has_form G_order_breach G_still_breach G_unit_breach) (ob_world_breach)
  have G_loop_world : FnOk P w K mg base (L2.CX P w) 4 T.f_loop_world T.fd_loop_world ["rows"] (spX K (W_loop_world T.c_NotLoops)) := fnDX T.F_loop_world sc_loop_world (der_loop_world T G_has_loop_form G_is_loop_at) (ob_loop_world T.c_NotLoops)
  have G__law_heard := fnD2 (P := P) (w := w) (base := base) (W := W__law_heard) T.F__law_heard sc_heard (der_heard1 T G_loop_world) (der_heard2 T hT G_loop_world) (ob_heard T.c_NotLoops)
  have G_law : FnG P w K mg base 6 T.f_law T.fd_law ["script"] (spD K W_law) := fnDG T.F_law sc_law (der_law T G__law_begun G__law_bent G__law_draw G__law_good G__law_heard G__law_like G__law_loops G__law_table G_loop_world G_world_breach) (ob_law T.c_NotLoops)
  exact G_law
end
theorem all_mk {l : PySem.W.OpenLaw} {w : World} {K : PySem.W.Frag} {h : Heap} {mg : Str → Option Value} {fa : Addr} (X : K.In h) (G : h.Ns mainGlobals mg) (hfa : mg "law" = some (.ref fa))
    {f0 f1 f2 f3 f4 f5 f6 f7 f8 f9 f10 f11 f12 f13 f14 f15 f16 f17 f18 f19 f20 f21 f22 f23 : Addr} {e0 e1 e2 e3 : Addr} {od0 an0 od1 an1 od2 an2 od3 an3 od4 an4 od5 an5 od6 an6 od7 an7 od8 an8 od9 an9 od10 an10 od11 an11 od12 an12 od13 an13 od14 an14 od15 an15 od16 an16 od17 an17 od18 an18 od19 an19 od20 an20 od21 an21 od22 an22 od23 an23 : Option Addr} {sl0 sl1 sl2 sl3 sl4 sl5 sl6 sl7 sl8 sl9 sl10 sl11 sl12 sl13 sl14 sl15 sl16 sl17 sl18 sl19 sl20 sl21 sl22 sl23 : Array (Option Value)} {oc0 kV0 dc0 pm0 cd0 ct0 oc1 kV1 dc1 pm1 cd1 ct1 oc2 kV2 dc2 pm2 cd2 ct2 oc3 kV3 dc3 pm3 cd3 ct3 oc4 kV4 dc4 pm4 cd4 ct4 oc5 kV5 dc5 pm5 cd5 ct5 oc6 kV6 dc6 pm6 cd6 ct6 oc7 kV7 dc7 pm7 cd7 ct7 oc8 kV8 dc8 pm8 cd8 ct8 oc9 kV9 dc9 pm9 cd9 ct9 oc10 kV10 dc10 pm10 cd10 ct10 oc11 kV11 dc11 pm11 cd11 ct11 oc12 kV12 dc12 pm12 cd12 ct12 oc13 kV13 dc13 pm13 cd13 ct13 oc14 kV14 dc14 pm14 cd14 ct14 oc15 kV15 dc15 pm15 cd15 ct15 oc16 kV16 dc16 pm16 cd16 ct16 oc17 kV17 dc17 pm17 cd17 ct17 oc18 kV18 dc18 pm18 cd18 ct18 oc19 kV19 dc19 pm19 cd19 ct19 oc20 kV20 dc20 pm20 cd20 ct20 oc21 kV21 dc21 pm21 cd21 ct21 oc22 kV22 dc22 pm22 cd22 ct22 oc23 kV23 dc23 pm23 cd23 ct23 : Value} {t0 t1 : Tok} 
    (a0 : PySem.W.nsIn K mainGlobals "is_number" = some (some (.ref f0)))
    (l0 : K.lookup f0 = some ⟨oc0, od0, .func (PySem.W.fnOf "is_number" "is_number" (defArgs s_is_number) (defBody s_is_number) (defScope s_is_number) .none kV0 dc0 pm0 an0 cd0 ct0), sl0⟩)
    (c0 : PySem.W.codeIn K cd0 "is_number" = true)
    (k0 : PySem.W.keepIn K (.ref f0) = true)
    (a1 : PySem.W.nsIn K mainGlobals "is_row" = some (some (.ref f1)))
    (l1 : K.lookup f1 = some ⟨oc1, od1, .func (PySem.W.fnOf "is_row" "is_row" (defArgs s_is_row) (defBody s_is_row) (defScope s_is_row) .none kV1 dc1 pm1 an1 cd1 ct1), sl1⟩)
    (c1 : PySem.W.codeIn K cd1 "is_row" = true)
    (k1 : PySem.W.keepIn K (.ref f1) = true)
    (a2 : PySem.W.nsIn K mainGlobals "is_number_row" = some (some (.ref f2)))
    (l2 : K.lookup f2 = some ⟨oc2, od2, .func (PySem.W.fnOf "is_number_row" "is_number_row" (defArgs s_is_number_row) (defBody s_is_number_row) (defScope s_is_number_row) .none kV2 dc2 pm2 an2 cd2 ct2), sl2⟩)
    (c2 : PySem.W.codeIn K cd2 "is_number_row" = true)
    (k2 : PySem.W.keepIn K (.ref f2) = true)
    (a3 : PySem.W.nsIn K mainGlobals "has_form" = some (some (.ref f3)))
    (l3 : K.lookup f3 = some ⟨oc3, od3, .func (PySem.W.fnOf "has_form" "has_form" (defArgs s_has_form) (defBody s_has_form) (defScope s_has_form) .none kV3 dc3 pm3 an3 cd3 ct3), sl3⟩)
    (c3 : PySem.W.codeIn K cd3 "has_form" = true)
    (k3 : PySem.W.keepIn K (.ref f3) = true)
    (a4 : PySem.W.nsIn K mainGlobals "still_breach" = some (some (.ref f4)))
    (l4 : K.lookup f4 = some ⟨oc4, od4, .func (PySem.W.fnOf "still_breach" "still_breach" (defArgs s_still_breach) (defBody s_still_breach) (defScope s_still_breach) .none kV4 dc4 pm4 an4 cd4 ct4), sl4⟩)
    (c4 : PySem.W.codeIn K cd4 "still_breach" = true)
    (k4 : PySem.W.keepIn K (.ref f4) = true)
    (a5 : PySem.W.nsIn K mainGlobals "does_fit" = some (some (.ref f5)))
    (l5 : K.lookup f5 = some ⟨oc5, od5, .func (PySem.W.fnOf "does_fit" "does_fit" (defArgs s_does_fit) (defBody s_does_fit) (defScope s_does_fit) .none kV5 dc5 pm5 an5 cd5 ct5), sl5⟩)
    (c5 : PySem.W.codeIn K cd5 "does_fit" = true)
    (k5 : PySem.W.keepIn K (.ref f5) = true)
    (a6 : PySem.W.nsIn K mainGlobals "fit_breach" = some (some (.ref f6)))
    (l6 : K.lookup f6 = some ⟨oc6, od6, .func (PySem.W.fnOf "fit_breach" "fit_breach" (defArgs s_fit_breach) (defBody s_fit_breach) (defScope s_fit_breach) .none kV6 dc6 pm6 an6 cd6 ct6), sl6⟩)
    (c6 : PySem.W.codeIn K cd6 "fit_breach" = true)
    (k6 : PySem.W.keepIn K (.ref f6) = true)
    (a7 : PySem.W.nsIn K mainGlobals "unit_breach" = some (some (.ref f7)))
    (l7 : K.lookup f7 = some ⟨oc7, od7, .func (PySem.W.fnOf "unit_breach" "unit_breach" (defArgs s_unit_breach) (defBody s_unit_breach) (defScope s_unit_breach) .none kV7 dc7 pm7 an7 cd7 ct7), sl7⟩)
    (c7 : PySem.W.codeIn K cd7 "unit_breach" = true)
    (k7 : PySem.W.keepIn K (.ref f7) = true)
    (a8 : PySem.W.nsIn K mainGlobals "is_ordered_at" = some (some (.ref f8)))
    (l8 : K.lookup f8 = some ⟨oc8, od8, .func (PySem.W.fnOf "is_ordered_at" "is_ordered_at" (defArgs s_is_ordered_at) (defBody s_is_ordered_at) (defScope s_is_ordered_at) .none kV8 dc8 pm8 an8 cd8 ct8), sl8⟩)
    (c8 : PySem.W.codeIn K cd8 "is_ordered_at" = true)
    (k8 : PySem.W.keepIn K (.ref f8) = true)
    (a9 : PySem.W.nsIn K mainGlobals "order_breach" = some (some (.ref f9)))
    (l9 : K.lookup f9 = some ⟨oc9, od9, .func (PySem.W.fnOf "order_breach" "order_breach" (defArgs s_order_breach) (defBody s_order_breach) (defScope s_order_breach) .none kV9 dc9 pm9 an9 cd9 ct9), sl9⟩)
    (c9 : PySem.W.codeIn K cd9 "order_breach" = true)
    (k9 : PySem.W.keepIn K (.ref f9) = true)
    (a10 : PySem.W.nsIn K mainGlobals "world_breach" = some (some (.ref f10)))
    (l10 : K.lookup f10 = some ⟨oc10, od10, .func (PySem.W.fnOf "world_breach" "world_breach" (defArgs s_world_breach) (defBody s_world_breach) (defScope s_world_breach) .none kV10 dc10 pm10 an10 cd10 ct10), sl10⟩)
    (c10 : PySem.W.codeIn K cd10 "world_breach" = true)
    (k10 : PySem.W.keepIn K (.ref f10) = true)
    (a11 : PySem.W.nsIn K mainGlobals "has_loop_form" = some (some (.ref f11)))
    (l11 : K.lookup f11 = some ⟨oc11, od11, .func (PySem.W.fnOf "has_loop_form" "has_loop_form" (defArgs s_has_loop_form) (defBody s_has_loop_form) (defScope s_has_loop_form) .none kV11 dc11 pm11 an11 cd11 ct11), sl11⟩)
    (c11 : PySem.W.codeIn K cd11 "has_loop_form" = true)
    (k11 : PySem.W.keepIn K (.ref f11) = true)
    (a12 : PySem.W.nsIn K mainGlobals "is_loop_at" = some (some (.ref f12)))
    (l12 : K.lookup f12 = some ⟨oc12, od12, .func (PySem.W.fnOf "is_loop_at" "is_loop_at" (defArgs s_is_loop_at) (defBody s_is_loop_at) (defScope s_is_loop_at) .none kV12 dc12 pm12 an12 cd12 ct12), sl12⟩)
    (c12 : PySem.W.codeIn K cd12 "is_loop_at" = true)
    (k12 : PySem.W.keepIn K (.ref f12) = true)
    (a13 : PySem.W.nsIn K mainGlobals "loop_world" = some (some (.ref f13)))
    (l13 : K.lookup f13 = some ⟨oc13, od13, .func (PySem.W.fnOf "loop_world" "loop_world" (defArgs s_loop_world) (defBody s_loop_world) (defScope s_loop_world) .none kV13 dc13 pm13 an13 cd13 ct13), sl13⟩)
    (c13 : PySem.W.codeIn K cd13 "loop_world" = true)
    (k13 : PySem.W.keepIn K (.ref f13) = true)
    (a14 : PySem.W.nsIn K mainGlobals "_law_begun" = some (some (.ref f14)))
    (l14 : K.lookup f14 = some ⟨oc14, od14, .func (PySem.W.fnOf "_law_begun" "_law_begun" (defArgs s__law_begun) (defBody s__law_begun) (defScope s__law_begun) .none kV14 dc14 pm14 an14 cd14 ct14), sl14⟩)
    (c14 : PySem.W.codeIn K cd14 "_law_begun" = true)
    (k14 : PySem.W.keepIn K (.ref f14) = true)
    (a15 : PySem.W.nsIn K mainGlobals "_law_draw" = some (some (.ref f15)))
    (l15 : K.lookup f15 = some ⟨oc15, od15, .func (PySem.W.fnOf "_law_draw" "_law_draw" (defArgs s__law_draw) (defBody s__law_draw) (defScope s__law_draw) .none kV15 dc15 pm15 an15 cd15 ct15), sl15⟩)
    (c15 : PySem.W.codeIn K cd15 "_law_draw" = true)
    (k15 : PySem.W.keepIn K (.ref f15) = true)
    (a16 : PySem.W.nsIn K mainGlobals "_law_of" = some (some (.ref f16)))
    (l16 : K.lookup f16 = some ⟨oc16, od16, .func (PySem.W.fnOf "_law_of" "_law_of" (defArgs s__law_of) (defBody s__law_of) (defScope s__law_of) .none kV16 dc16 pm16 an16 cd16 ct16), sl16⟩)
    (c16 : PySem.W.codeIn K cd16 "_law_of" = true)
    (k16 : PySem.W.keepIn K (.ref f16) = true)
    (a17 : PySem.W.nsIn K mainGlobals "_law_like" = some (some (.ref f17)))
    (l17 : K.lookup f17 = some ⟨oc17, od17, .func (PySem.W.fnOf "_law_like" "_law_like" (defArgs s__law_like) (defBody s__law_like) (defScope s__law_like) .none kV17 dc17 pm17 an17 cd17 ct17), sl17⟩)
    (c17 : PySem.W.codeIn K cd17 "_law_like" = true)
    (k17 : PySem.W.keepIn K (.ref f17) = true)
    (a18 : PySem.W.nsIn K mainGlobals "_law_loops" = some (some (.ref f18)))
    (l18 : K.lookup f18 = some ⟨oc18, od18, .func (PySem.W.fnOf "_law_loops" "_law_loops" (defArgs s__law_loops) (defBody s__law_loops) (defScope s__law_loops) .none kV18 dc18 pm18 an18 cd18 ct18), sl18⟩)
    (c18 : PySem.W.codeIn K cd18 "_law_loops" = true)
    (k18 : PySem.W.keepIn K (.ref f18) = true)
    (a19 : PySem.W.nsIn K mainGlobals "_law_good" = some (some (.ref f19)))
    (l19 : K.lookup f19 = some ⟨oc19, od19, .func (PySem.W.fnOf "_law_good" "_law_good" (defArgs s__law_good) (defBody s__law_good) (defScope s__law_good) .none kV19 dc19 pm19 an19 cd19 ct19), sl19⟩)
    (c19 : PySem.W.codeIn K cd19 "_law_good" = true)
    (k19 : PySem.W.keepIn K (.ref f19) = true)
    (a20 : PySem.W.nsIn K mainGlobals "_law_table" = some (some (.ref f20)))
    (l20 : K.lookup f20 = some ⟨oc20, od20, .func (PySem.W.fnOf "_law_table" "_law_table" (defArgs s__law_table) (defBody s__law_table) (defScope s__law_table) .none kV20 dc20 pm20 an20 cd20 ct20), sl20⟩)
    (c20 : PySem.W.codeIn K cd20 "_law_table" = true)
    (k20 : PySem.W.keepIn K (.ref f20) = true)
    (a21 : PySem.W.nsIn K mainGlobals "_law_bent" = some (some (.ref f21)))
    (l21 : K.lookup f21 = some ⟨oc21, od21, .func (PySem.W.fnOf "_law_bent" "_law_bent" (defArgs s__law_bent) (defBody s__law_bent) (defScope s__law_bent) .none kV21 dc21 pm21 an21 cd21 ct21), sl21⟩)
    (c21 : PySem.W.codeIn K cd21 "_law_bent" = true)
    (k21 : PySem.W.keepIn K (.ref f21) = true)
    (a22 : PySem.W.nsIn K mainGlobals "_law_heard" = some (some (.ref f22)))
    (l22 : K.lookup f22 = some ⟨oc22, od22, .func (PySem.W.fnOf "_law_heard" "_law_heard" (defArgs s__law_heard) (defBody s__law_heard) (defScope s__law_heard) .none kV22 dc22 pm22 an22 cd22 ct22), sl22⟩)
    (c22 : PySem.W.codeIn K cd22 "_law_heard" = true)
    (k22 : PySem.W.keepIn K (.ref f22) = true)
    (a23 : PySem.W.nsIn K mainGlobals "law" = some (some (.ref f23)))
    (l23 : K.lookup f23 = some ⟨oc23, od23, .func (PySem.W.fnOf "law" "law" (defArgs s_law) (defBody s_law) (defScope s_law) .none kV23 dc23 pm23 an23 cd23 ct23), sl23⟩)
    (c23 : PySem.W.codeIn K cd23 "law" = true)
    (k23 : PySem.W.keepIn K (.ref f23) = true)
    (v0 : PySem.W.nsIn K mainGlobals "MOST_THINGS" = some (some (.int 8 t0)))
    (v1 : PySem.W.nsIn K mainGlobals "MOST_ARROWS" = some (some (.int 40 t1)))
    (ea0 : PySem.W.nsIn K mainGlobals "WorldError" = some (some (.ref e0)))
    (ek0 : PySem.W.keepIn K (.ref e0) = true)
    (ea1 : PySem.W.nsIn K mainGlobals "TooMany" = some (some (.ref e1)))
    (ek1 : PySem.W.keepIn K (.ref e1) = true)
    (ea2 : PySem.W.nsIn K mainGlobals "NotOrder" = some (some (.ref e2)))
    (ek2 : PySem.W.keepIn K (.ref e2) = true)
    (ea3 : PySem.W.nsIn K mainGlobals "NotLoops" = some (some (.ref e3)))
    (ek3 : PySem.W.keepIn K (.ref e3) = true)
    (eq3 : PySem.W.excIn K e3 [.type "ValueError", .type "Exception", .type "BaseException", .type "object"] "ValueError.__new__" = true)
    (es3 : PySem.W.subIn K (.ref e3) (.type "BaseException") = some true)
    (et3 : PySem.W.typeIn K (.ref e3) = some (.type "type"))
    (x0 : PySem.W.findIn K (.ref e3) "__getattribute__" = some (some (.builtin "BaseException.__getattribute__")))
    (x1 : PySem.W.findIn K (.ref e3) "__getattr__" = some none)
    (x2 : PySem.W.hasDictIn K e3 = true)
    (x3 : PySem.W.findIn K (.ref e3) "__class__" = some (some (.builtin "object.__class__")))
    (x4 : PySem.W.specialIn K (.builtin "object.__class__") "__get__" = some (some (.builtin "getset_descriptor.__get__")))
    (x5 : PySem.W.takesIn K (.builtin "object.__class__") = some true)
    (x6 : PySem.W.mroIn K e3 (.type "object") = some true)
    (x7 : PySem.W.isClsIn K e2 = true)
    (x8 : PySem.W.isClsIn K e1 = true)
    (x9 : PySem.W.isClsIn K e0 = true)
    (x10 : PySem.W.typeIn K (.ref e2) = some (.type "type"))
    (x11 : PySem.W.typeIn K (.ref e1) = some (.type "type"))
    (x12 : PySem.W.typeIn K (.ref e0) = some (.type "type"))
    (x13 : PySem.W.subIn K (.ref e3) (.ref e2) = some false)
    (x14 : PySem.W.subIn K (.ref e3) (.ref e1) = some false)
    (x15 : PySem.W.subIn K (.ref e3) (.ref e0) = some true)
    (x16 : PySem.W.subIn K (.ref e3) (.ref e3) = some true)
    (z_len : PySem.W.nsIn K mainGlobals "len" = some none)
    (z_type : PySem.W.nsIn K mainGlobals "type" = some none)
    (z_int : PySem.W.nsIn K mainGlobals "int" = some none)
    (z_tuple : PySem.W.nsIn K mainGlobals "tuple" = some none)
    (z_list : PySem.W.nsIn K mainGlobals "list" = some none)
    (z_range : PySem.W.nsIn K mainGlobals "range" = some none)
    (z_enumerate : PySem.W.nsIn K mainGlobals "enumerate" = some none)
    (z_max : PySem.W.nsIn K mainGlobals "max" = some none)
    (z_min : PySem.W.nsIn K mainGlobals "min" = some none)
    (z_all : PySem.W.nsIn K mainGlobals "all" = some none)
    (z_any : PySem.W.nsIn K mainGlobals "any" = some none)
    (z_repr : PySem.W.nsIn K mainGlobals "repr" = some none)
    (z_isinstance : PySem.W.nsIn K mainGlobals "isinstance" = some none)
    (z_bool : PySem.W.nsIn K mainGlobals "bool" = some none)
    (z_str : PySem.W.nsIn K mainGlobals "str" = some none) :
    ∃ fd : FuncData, (∀ (s : Shared) (v : Value), BindsTo s fd ⟨[v], []⟩ [("script", v)]) ∧ ∀ base : Heap, K.In base → base.Ns mainGlobals mg → FnG l.prog w K mg base 6 fa fd ["script"] (spD K W_law) := by
  have e := hfa.symm.trans (PySem.W.mg_of X G a23)
  cases e
  have F0 := fun_mk (st := s_is_number) l0 c0 k0
  have b0 := F0.binds (ps := ["value", "low", "high"]) fun _ _ _ _ _ _ us hl => match us, hl with | [_, _, _], _ => rfl
  have F1 := fun_mk (st := s_is_row) l1 c1 k1
  have b1 := F1.binds (ps := ["value", "many"]) fun _ _ _ _ _ _ us hl => match us, hl with | [_, _], _ => rfl
  have F2 := fun_mk (st := s_is_number_row) l2 c2 k2
  have b2 := F2.binds (ps := ["value", "many", "low", "high"]) fun _ _ _ _ _ _ us hl => match us, hl with | [_, _, _, _], _ => rfl
  have F3 := fun_mk (st := s_has_form) l3 c3 k3
  have b3 := F3.binds (ps := ["value"]) fun _ _ _ _ _ _ us hl => match us, hl with | [_], _ => rfl
  have F4 := fun_mk (st := s_still_breach) l4 c4 k4
  have b4 := F4.binds (ps := ["world"]) fun _ _ _ _ _ _ us hl => match us, hl with | [_], _ => rfl
  have F5 := fun_mk (st := s_does_fit) l5 c5 k5
  have b5 := F5.binds (ps := ["ends", "f", "g", "entry"]) fun _ _ _ _ _ _ us hl => match us, hl with | [_, _, _, _], _ => rfl
  have F6 := fun_mk (st := s_fit_breach) l6 c6 k6
  have b6 := F6.binds (ps := ["world"]) fun _ _ _ _ _ _ us hl => match us, hl with | [_], _ => rfl
  have F7 := fun_mk (st := s_unit_breach) l7 c7 k7
  have b7 := F7.binds (ps := ["world"]) fun _ _ _ _ _ _ us hl => match us, hl with | [_], _ => rfl
  have F8 := fun_mk (st := s_is_ordered_at) l8 c8 k8
  have b8 := F8.binds (ps := ["table", "f"]) fun _ _ _ _ _ _ us hl => match us, hl with | [_, _], _ => rfl
  have F9 := fun_mk (st := s_order_breach) l9 c9 k9
  have b9 := F9.binds (ps := ["world"]) fun _ _ _ _ _ _ us hl => match us, hl with | [_], _ => rfl
  have F10 := fun_mk (st := s_world_breach) l10 c10 k10
  have b10 := F10.binds (ps := ["value"]) fun _ _ _ _ _ _ us hl => match us, hl with | [_], _ => rfl
  have F11 := fun_mk (st := s_has_loop_form) l11 c11 k11
  have b11 := F11.binds (ps := ["rows"]) fun _ _ _ _ _ _ us hl => match us, hl with | [_], _ => rfl
  have F12 := fun_mk (st := s_is_loop_at) l12 c12 k12
  have b12 := F12.binds (ps := ["rows", "a"]) fun _ _ _ _ _ _ us hl => match us, hl with | [_, _], _ => rfl
  have F13 := fun_mk (st := s_loop_world) l13 c13 k13
  have b13 := F13.binds (ps := ["rows"]) fun _ _ _ _ _ _ us hl => match us, hl with | [_], _ => rfl
  have F14 := fun_mk (st := s__law_begun) l14 c14 k14
  have b14 := F14.binds (ps := ["script", "k"]) fun _ _ _ _ _ _ us hl => match us, hl with | [_, _], _ => rfl
  have F15 := fun_mk (st := s__law_draw) l15 c15 k15
  have b15 := F15.binds (ps := ["m", "bound"]) fun _ _ _ _ _ _ us hl => match us, hl with | [_, _], _ => rfl
  have F16 := fun_mk (st := s__law_of) l16 c16 k16
  have b16 := F16.binds (ps := ["m", "some"]) fun _ _ _ _ _ _ us hl => match us, hl with | [_, _], _ => rfl
  have F17 := fun_mk (st := s__law_like) l17 c17 k17
  have b17 := F17.binds (ps := ["got", "due"]) fun _ _ _ _ _ _ us hl => match us, hl with | [_, _], _ => rfl
  have F18 := fun_mk (st := s__law_loops) l18 c18 k18
  have b18 := F18.binds (ps := ["rows_so"]) fun _ _ _ _ _ _ us hl => match us, hl with | [_], _ => rfl
  have F19 := fun_mk (st := s__law_good) l19 c19 k19
  have b19 := F19.binds (ps := ["value"]) fun _ _ _ _ _ _ us hl => match us, hl with | [_], _ => rfl
  have F20 := fun_mk (st := s__law_table) l20 c20 k20
  have b20 := F20.binds (ps := ["m"]) fun _ _ _ _ _ _ us hl => match us, hl with | [_], _ => rfl
  have F21 := fun_mk (st := s__law_bent) l21 c21 k21
  have b21 := F21.binds (ps := ["m", "table"]) fun _ _ _ _ _ _ us hl => match us, hl with | [_, _], _ => rfl
  have F22 := fun_mk (st := s__law_heard) l22 c22 k22
  have b22 := F22.binds (ps := ["value"]) fun _ _ _ _ _ _ us hl => match us, hl with | [_], _ => rfl
  have F23 := fun_mk (st := s_law) l23 c23 k23
  have b23 := F23.binds (ps := ["script"]) fun _ _ _ _ _ _ us hl => match us, hl with | [_], _ => rfl
  let T : Txt K mg := {
    f_is_number := f0, fd_is_number := _, F_is_number := F0, g_is_number := PySem.W.mg_of X G a0, b_is_number := b0,
    f_is_row := f1, fd_is_row := _, F_is_row := F1, g_is_row := PySem.W.mg_of X G a1, b_is_row := b1,
    f_is_number_row := f2, fd_is_number_row := _, F_is_number_row := F2, g_is_number_row := PySem.W.mg_of X G a2, b_is_number_row := b2,
    f_has_form := f3, fd_has_form := _, F_has_form := F3, g_has_form := PySem.W.mg_of X G a3, b_has_form := b3,
    f_still_breach := f4, fd_still_breach := _, F_still_breach := F4, g_still_breach := PySem.W.mg_of X G a4, b_still_breach := b4,
    f_does_fit := f5, fd_does_fit := _, F_does_fit := F5, g_does_fit := PySem.W.mg_of X G a5, b_does_fit := b5,
    f_fit_breach := f6, fd_fit_breach := _, F_fit_breach := F6, g_fit_breach := PySem.W.mg_of X G a6, b_fit_breach := b6,
    f_unit_breach := f7, fd_unit_breach := _, F_unit_breach := F7, g_unit_breach := PySem.W.mg_of X G a7, b_unit_breach := b7,
    f_is_ordered_at := f8, fd_is_ordered_at := _, F_is_ordered_at := F8, g_is_ordered_at := PySem.W.mg_of X G a8, b_is_ordered_at := b8,
    f_order_breach := f9, fd_order_breach := _, F_order_breach := F9, g_order_breach := PySem.W.mg_of X G a9, b_order_breach := b9,
    f_world_breach := f10, fd_world_breach := _, F_world_breach := F10, g_world_breach := PySem.W.mg_of X G a10, b_world_breach := b10,
    f_has_loop_form := f11, fd_has_loop_form := _, F_has_loop_form := F11, g_has_loop_form := PySem.W.mg_of X G a11, b_has_loop_form := b11,
    f_is_loop_at := f12, fd_is_loop_at := _, F_is_loop_at := F12, g_is_loop_at := PySem.W.mg_of X G a12, b_is_loop_at := b12,
    f_loop_world := f13, fd_loop_world := _, F_loop_world := F13, g_loop_world := PySem.W.mg_of X G a13, b_loop_world := b13,
    f__law_begun := f14, fd__law_begun := _, F__law_begun := F14, g__law_begun := PySem.W.mg_of X G a14, b__law_begun := b14,
    f__law_draw := f15, fd__law_draw := _, F__law_draw := F15, g__law_draw := PySem.W.mg_of X G a15, b__law_draw := b15,
    f__law_of := f16, fd__law_of := _, F__law_of := F16, g__law_of := PySem.W.mg_of X G a16, b__law_of := b16,
    f__law_like := f17, fd__law_like := _, F__law_like := F17, g__law_like := PySem.W.mg_of X G a17, b__law_like := b17,
    f__law_loops := f18, fd__law_loops := _, F__law_loops := F18, g__law_loops := PySem.W.mg_of X G a18, b__law_loops := b18,
    f__law_good := f19, fd__law_good := _, F__law_good := F19, g__law_good := PySem.W.mg_of X G a19, b__law_good := b19,
    f__law_table := f20, fd__law_table := _, F__law_table := F20, g__law_table := PySem.W.mg_of X G a20, b__law_table := b20,
    f__law_bent := f21, fd__law_bent := _, F__law_bent := F21, g__law_bent := PySem.W.mg_of X G a21, b__law_bent := b21,
    f__law_heard := f22, fd__law_heard := _, F__law_heard := F22, g__law_heard := PySem.W.mg_of X G a22, b__law_heard := b22,
    f_law := fa, fd_law := _, F_law := F23, g_law := PySem.W.mg_of X G a23, b_law := b23,
    t_MOST_THINGS := t0, c_MOST_THINGS := PySem.W.mg_of X G v0,
    t_MOST_ARROWS := t1, c_MOST_ARROWS := PySem.W.mg_of X G v1,
    n_loop_world := nbinds_of F13 fun _ _ _ _ _ _ us hl => match us, hl with | [_], _ => rfl,
    a_WorldError := e0, xg_WorldError := PySem.W.mg_of X G ea0, xk_WorldError := ek0,
    a_TooMany := e1, xg_TooMany := PySem.W.mg_of X G ea1, xk_TooMany := ek1,
    a_NotOrder := e2, xg_NotOrder := PySem.W.mg_of X G ea2, xk_NotOrder := ek2,
    a_NotLoops := e3, xg_NotLoops := PySem.W.mg_of X G ea3, xk_NotLoops := ek3,
    xq_NotLoops := eq3, xs_NotLoops := es3, xt_NotLoops := et3,
    m_len := PySem.W.mg_none_of X G z_len,
    m_type := PySem.W.mg_none_of X G z_type,
    m_int := PySem.W.mg_none_of X G z_int,
    m_tuple := PySem.W.mg_none_of X G z_tuple,
    m_list := PySem.W.mg_none_of X G z_list,
    m_range := PySem.W.mg_none_of X G z_range,
    m_enumerate := PySem.W.mg_none_of X G z_enumerate,
    m_max := PySem.W.mg_none_of X G z_max,
    m_min := PySem.W.mg_none_of X G z_min,
    m_all := PySem.W.mg_none_of X G z_all,
    m_any := PySem.W.mg_none_of X G z_any,
    m_repr := PySem.W.mg_none_of X G z_repr,
    m_isinstance := PySem.W.mg_none_of X G z_isinstance,
    m_bool := PySem.W.mg_none_of X G z_bool,
    m_str := PySem.W.mg_none_of X G z_str }
  have hT : HTxt T := ⟨⟨x0, x1, es3, x2, x3, x4, x5, x6⟩, PySem.W.exm_ref es3 x2 et3 x16, DW.kit_in x7 x10 x13 x16, DW.kit_in x8 x11 x14 x16, DW.kit_in x9 x12 x15 x16⟩
  exact ⟨_, fun s v => .of_eq rfl, fun base _ _ => all_fns T hT⟩
end K10
open PySem PySem.W PyProof.Rows
set_option maxHeartbeats 0 in
theorem PySem.Challenge.cw_arrowworlds_k10_whole_worlds_of_one_thin_holds : PySem.Challenge.rw_arrowworlds_k10_whole_worlds_of_one_thin.Holds := by
  w_on; o_law; k_head; (case hw => w_witness2)
  k_fill
  refine DW.walk_G (l := PySem.Challenge.rw_arrowworlds_k10_whole_worlds_of_one_thin) (n := 63) (k := 6) (x := "script") (sp := fun w => DW.spD _ K10.W_law) rfl (by decide) rfl ⟨rfl, by decide, by decide⟩ (fun w h Y => PySem.W.kIn_of Y) ?F (fun _ H a ns hl hO hS => DW.law_start hl hO hS fun ns h => ⟨ns, rfl, h, by decide, fun _ => rfl⟩)
  case F =>
    intro w mg fa h KX G hmg
    refine' K10.all_mk KX G hmg ?a0 ?l0 ?c0 ?k0 ?a1 ?l1 ?c1 ?k1 ?a2 ?l2 ?c2 ?k2 ?a3 ?l3 ?c3 ?k3 ?a4 ?l4 ?c4 ?k4 ?a5 ?l5 ?c5 ?k5 ?a6 ?l6 ?c6 ?k6 ?a7 ?l7 ?c7 ?k7 ?a8 ?l8 ?c8 ?k8 ?a9 ?l9 ?c9 ?k9 ?a10 ?l10 ?c10 ?k10 ?a11 ?l11 ?c11 ?k11 ?a12 ?l12 ?c12 ?k12 ?a13 ?l13 ?c13 ?k13 ?a14 ?l14 ?c14 ?k14 ?a15 ?l15 ?c15 ?k15 ?a16 ?l16 ?c16 ?k16 ?a17 ?l17 ?c17 ?k17 ?a18 ?l18 ?c18 ?k18 ?a19 ?l19 ?c19 ?k19 ?a20 ?l20 ?c20 ?k20 ?a21 ?l21 ?c21 ?k21 ?a22 ?l22 ?c22 ?k22 ?a23 ?l23 ?c23 ?k23 ?v0 ?v1 ?ea0 ?ek0 ?ea1 ?ek1 ?ea2 ?ek2 ?ea3 ?ek3 ?eq3 ?es3 ?et3 ?x0 ?x1 ?x2 ?x3 ?x4 ?x5 ?x6 ?x7 ?x8 ?x9 ?x10 ?x11 ?x12 ?x13 ?x14 ?x15 ?x16 ?z_len ?z_type ?z_int ?z_tuple ?z_list ?z_range ?z_enumerate ?z_max ?z_min ?z_all ?z_any ?z_repr ?z_isinstance ?z_bool ?z_str
    (case a0 => k_is); (case l0 => k_is); (case c0 => k_is); (case k0 => k_is); (case a1 => k_is); (case l1 => k_is); (case c1 => k_is); (case k1 => k_is)
    (case a2 => k_is); (case l2 => k_is); (case c2 => k_is); (case k2 => k_is); (case a3 => k_is); (case l3 => k_is); (case c3 => k_is); (case k3 => k_is)
    (case a4 => k_is); (case l4 => k_is); (case c4 => k_is); (case k4 => k_is); (case a5 => k_is); (case l5 => k_is); (case c5 => k_is); (case k5 => k_is)
    (case a6 => k_is); (case l6 => k_is); (case c6 => k_is); (case k6 => k_is); (case a7 => k_is); (case l7 => k_is); (case c7 => k_is); (case k7 => k_is)
    (case a8 => k_is); (case l8 => k_is); (case c8 => k_is); (case k8 => k_is); (case a9 => k_is); (case l9 => k_is); (case c9 => k_is); (case k9 => k_is)
    (case a10 => k_is); (case l10 => k_is); (case c10 => k_is); (case k10 => k_is); (case a11 => k_is); (case l11 => k_is); (case c11 => k_is); (case k11 => k_is)
    (case a12 => k_is); (case l12 => k_is); (case c12 => k_is); (case k12 => k_is); (case a13 => k_is); (case l13 => k_is); (case c13 => k_is); (case k13 => k_is)
    (case a14 => k_is); (case l14 => k_is); (case c14 => k_is); (case k14 => k_is); (case a15 => k_is); (case l15 => k_is); (case c15 => k_is); (case k15 => k_is)
    (case a16 => k_is); (case l16 => k_is); (case c16 => k_is); (case k16 => k_is); (case a17 => k_is); (case l17 => k_is); (case c17 => k_is); (case k17 => k_is)
    (case a18 => k_is); (case l18 => k_is); (case c18 => k_is); (case k18 => k_is); (case a19 => k_is); (case l19 => k_is); (case c19 => k_is); (case k19 => k_is)
    (case a20 => k_is); (case l20 => k_is); (case c20 => k_is); (case k20 => k_is); (case a21 => k_is); (case l21 => k_is); (case c21 => k_is); (case k21 => k_is)
    (case a22 => k_is); (case l22 => k_is); (case c22 => k_is); (case k22 => k_is); (case a23 => k_is); (case l23 => k_is); (case c23 => k_is); (case k23 => k_is)
    (case v0 => k_is); (case v1 => k_is); (case ea0 => k_is); (case ek0 => k_is); (case ea1 => k_is); (case ek1 => k_is); (case ea2 => k_is); (case ek2 => k_is)
    (case ea3 => k_is); (case ek3 => k_is); (case eq3 => k_exc); (case es3 => k_is); (case et3 => k_is); (case x0 => k_is); (case x1 => k_is); (case x2 => k_is)
    (case x3 => k_is); (case x4 => k_is); (case x5 => k_is); (case x6 => k_is); (case x7 => k_is); (case x8 => k_is); (case x9 => k_is); (case x10 => k_is)
    (case x11 => k_is); (case x12 => k_is); (case x13 => k_is); (case x14 => k_is); (case x15 => k_is); (case x16 => first | rfl | k_is); (case z_len => k_is); (case z_type => k_is)
    (case z_int => k_is); (case z_tuple => k_is); (case z_list => k_is); (case z_range => k_is); (case z_enumerate => k_is); (case z_max => k_is); (case z_min => k_is); (case z_all => k_is)
    (case z_any => k_is); (case z_repr => k_is); (case z_isinstance => k_is); (case z_bool => k_is); (case z_str => k_is)
