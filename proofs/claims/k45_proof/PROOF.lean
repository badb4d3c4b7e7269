import PyProof.Rows.All
import Wide.All
import OpenK.AllK
import Wide.FinOn
import HandS.Base
import HandS.Call
import HandS.List
import HandS.Comp
import HandS.Iter
import HandS.Exc
import HandS.ExcOwn
import HandS.TryOnly
import HandS.Ends
import HandS.Words
import HandS.WordsList
import HandS.WordsExc
import HandS.IsInst
import HandS.Wide
import HandS.SortInts
import HandS.SortRule
import HandS.Property
import HandS.OwnEq
import HandS.Dict
import HandS.Flow
import HandS.Deep
import HandS.Style
import HandS.More
import HandS.Text
import KE.GoesEnumKw
import HandS.Zip
import HandS.Walk
import HandS.New0
import KE.DataMinMax
import HandS.Conv
import HandS.ExcValue
import HandS.ExcIs
import PySem.Challenge.RW_bothcome_k45_too_small_trees
set_option Elab.async false
set_option linter.all false
set_option maxRecDepth 100000
/-! a functional reading of programs: values, a store of objects by number, and what ties them to the abstract heap -/
namespace Dn
open PySem PySem.Spec PyProof.Rows L2

/-- a value: numbers, texts, tuples by value; a list that nobody changes (the script) by value; lists and instances by their number in the store -/
inductive D where
  | non | bl (b : Bool) | int (i : Int) | str (x : Str) | tup (ds : List D) | fz (ds : List D) | ref (n : Nat)
/-- an object: a list, an instance, a dict with keys ints and texts, a dict with tuples of them as keys -/
inductive Ob where
  | lst (xs : List D) | ins (c : Str) (fs : List (Str × D)) | dk (kvs : List (Key × D)) | dt (kvs : List (List Key × D)) | ex (c : Str)
abbrev Sto := List Ob

/-- the written part, the classes' addresses by name -/
structure Pm where
  K : PySem.W.Frag
  cA : Str → Addr

/-- a list that stands still -/
def SqF (K : PySem.W.Frag) (H : Hp) (a : Addr) (xs : List V) : Prop := (∃ o, H a = some (.frz o (.lst xs))) ∨
    ∃ (o : Obj) (its : Array Value) (n : Nat), K.lookup a = some o ∧ o.cls = .type "list" ∧ o.dict = none ∧ o.data = .seq its n ∧ its.size ≤ sizeLine ∧ Vals xs its.toList
theorem SqF.sq {K : PySem.W.Frag} {H : Hp} {a : Addr} {xs : List V} (h : SqF K H a xs) : SqL K H a xs := h.elim (fun h => .inl (.inr h)) .inr

mutual
inductive DR (K : PySem.W.Frag) (H : Hp) (N : Nat) (loc : Nat → Addr) : D → V → Prop
  | non : DR K H N loc .non .non
  | bl (b : Bool) : DR K H N loc (.bl b) (.bl b)
  | int (i : Int) : DR K H N loc (.int i) (.int i)
  | str (x : Str) : DR K H N loc (.str x) (.str x)
  | tup {p : Addr} {ds : List D} {vs : List V} : SqT K H p vs → DRs K H N loc ds vs → DR K H N loc (.tup ds) (.ref p)
  | fz {p : Addr} {ds : List D} {vs : List V} : SqF K H p vs → DRs K H N loc ds vs → DR K H N loc (.fz ds) (.ref p)
  | ref {n : Nat} : n < N → DR K H N loc (.ref n) (.ref (loc n))
inductive DRs (K : PySem.W.Frag) (H : Hp) (N : Nat) (loc : Nat → Addr) : List D → List V → Prop
  | nil : DRs K H N loc [] []
  | cons {d : D} {v : V} {ds : List D} {vs : List V} : DR K H N loc d v → DRs K H N loc ds vs → DRs K H N loc (d :: ds) (v :: vs)
end

/-- how the heap and the places go on: N objects before, N' now -/
structure Grow (N : Nat) (loc : Nat → Addr) (H : Hp) (N' : Nat) (loc' : Nat → Addr) (H' : Hp) : Prop where
  gle : N ≤ N'
  gloc : ∀ n, n < N → loc' n = loc n
  gfresh : ∀ n, N ≤ n → n < N' → H (loc' n) = none
  gframe : ∀ p o, (∀ n, n < N → loc n ≠ p) → H p = some o → H' p = some o
  gtup : ∀ p xs, H p = some (.tup xs) → H' p = some (.tup xs)
  gfrz : ∀ p o u, H p = some (.frz o u) → H' p = some (.frz o u)
  gdom : ∀ p o, H p = some o → ∃ o', H' p = some o'

section
variable {K : PySem.W.Frag} {N N1 N2 : Nat} {loc loc1 loc2 : Nat → Addr} {H H1 H2 : Hp}
theorem Grow.refl (N : Nat) (loc : Nat → Addr) (H : Hp) : Grow N loc H N loc H :=
  ⟨Nat.le_refl _, fun _ _ => rfl, fun n h1 h2 => absurd h2 (by omega), fun _ _ _ h => h, fun _ _ h => h, fun _ _ _ h => h, fun _ o h => ⟨o, h⟩⟩
theorem Grow.trans (a : Grow N loc H N1 loc1 H1) (b : Grow N1 loc1 H1 N2 loc2 H2) : Grow N loc H N2 loc2 H2 where
  gle := Nat.le_trans a.gle b.gle
  gloc := fun n h => (b.gloc n (Nat.lt_of_lt_of_le h a.gle)).trans (a.gloc n h)
  gfresh := fun n h1 h2 => by
    by_cases hn : n < N1
    · rw [b.gloc n hn]; exact a.gfresh n h1 hn
    · have e := b.gfresh n (by omega) h2
      cases q : H (loc2 n) with
      | none => rfl
      | some o =>
        obtain ⟨o', e'⟩ := a.gdom _ _ q
        rw [e] at e'; cases e'
  gframe := fun p o hp h => b.gframe p o (fun n hn => by
    by_cases hn' : n < N
    · rw [a.gloc n hn']; exact hp n hn'
    · intro z
      have e := a.gfresh n (by omega) hn
      rw [z, h] at e; cases e) (a.gframe p o hp h)
  gtup := fun p xs h => b.gtup p xs (a.gtup p xs h)
  gfrz := fun p o u h => b.gfrz p o u (a.gfrz p o u h)
  gdom := fun p o h => by
    obtain ⟨o', e⟩ := a.gdom p o h
    exact b.gdom p o' e
theorem sqT_grow {p : Addr} {vs : List V} (g : Grow N loc H N1 loc1 H1) (h : SqT K H p vs) : SqT K H1 p vs := by
  rcases h with (h | ⟨o, h⟩) | h
  · exact .inl (.inl (g.gtup _ _ h))
  · exact .inl (.inr ⟨o, g.gfrz _ _ _ h⟩)
  · exact .inr h
theorem sqF_grow {p : Addr} {vs : List V} (g : Grow N loc H N1 loc1 H1) (h : SqF K H p vs) : SqF K H1 p vs := by
  rcases h with ⟨o, h⟩ | h
  · exact .inl ⟨o, g.gfrz _ _ _ h⟩
  · exact .inr h
/-- what values lean on -/
structure Low (N : Nat) (loc : Nat → Addr) (H : Hp) (N' : Nat) (loc' : Nat → Addr) (H' : Hp) : Prop where
  gle : N ≤ N'
  gloc : ∀ n, n < N → loc' n = loc n
  gtup : ∀ p xs, H p = some (.tup xs) → H' p = some (.tup xs)
  gfrz : ∀ p o u, H p = some (.frz o u) → H' p = some (.frz o u)
theorem Grow.low (g : Grow N loc H N1 loc1 H1) : Low N loc H N1 loc1 H1 := ⟨g.gle, g.gloc, g.gtup, g.gfrz⟩
theorem sqT_low {p : Addr} {vs : List V} (g : Low N loc H N1 loc1 H1) (h : SqT K H p vs) : SqT K H1 p vs := by
  rcases h with (h | ⟨o, h⟩) | h
  · exact .inl (.inl (g.gtup _ _ h))
  · exact .inl (.inr ⟨o, g.gfrz _ _ _ h⟩)
  · exact .inr h
theorem sqF_low {p : Addr} {vs : List V} (g : Low N loc H N1 loc1 H1) (h : SqF K H p vs) : SqF K H1 p vs := by
  rcases h with ⟨o, h⟩ | h
  · exact .inl ⟨o, g.gfrz _ _ _ h⟩
  · exact .inr h
mutual
theorem DR.low (g : Low N loc H N1 loc1 H1) : ∀ {d : D} {v : V}, DR K H N loc d v → DR K H1 N1 loc1 d v
  | _, _, .non => .non
  | _, _, .bl b => .bl b
  | _, _, .int i => .int i
  | _, _, .str x => .str x
  | _, _, .tup h hs => .tup (sqT_low g h) (DRs.low g hs)
  | _, _, .fz h hs => .fz (sqF_low g h) (DRs.low g hs)
  | _, _, @DR.ref _ _ _ _ n h => by
    rw [← g.gloc n h]
    exact .ref (Nat.lt_of_lt_of_le h g.gle)
theorem DRs.low (g : Low N loc H N1 loc1 H1) : ∀ {d : List D} {v : List V}, DRs K H N loc d v → DRs K H1 N1 loc1 d v
  | _, _, .nil => .nil
  | _, _, .cons h hs => .cons (DR.low g h) (DRs.low g hs)
end
theorem DR.grow (g : Grow N loc H N1 loc1 H1) {d : D} {v : V} (h : DR K H N loc d v) : DR K H1 N1 loc1 d v := h.low g.low
theorem DRs.grow (g : Grow N loc H N1 loc1 H1) {d : List D} {v : List V} (h : DRs K H N loc d v) : DRs K H1 N1 loc1 d v := h.low g.low
theorem DRs.length : ∀ {ds : List D} {vs : List V}, DRs K H N loc ds vs → ds.length = vs.length
  | _, _, .nil => rfl
  | _, _, .cons _ hs => by simp [DRs.length hs]
theorem DRs.get : ∀ {ds : List D} {vs : List V} {i : Nat} {d : D}, DRs K H N loc ds vs → ds[i]? = some d → ∃ v, vs[i]? = some v ∧ DR K H N loc d v
  | _, _, 0, _, .cons h _, e => by simp at e; subst e; exact ⟨_, rfl, h⟩
  | _, _, i + 1, _, .cons _ hs, e => by simpa using DRs.get (i := i) hs (by simpa using e)
theorem DRs.getV : ∀ {ds : List D} {vs : List V} {i : Nat} {v : V}, DRs K H N loc ds vs → vs[i]? = some v → ∃ d, ds[i]? = some d ∧ DR K H N loc d v
  | _, _, 0, _, .cons h _, e => by simp at e; subst e; exact ⟨_, rfl, h⟩
  | _, _, i + 1, _, .cons _ hs, e => by simpa using DRs.getV (i := i) hs (by simpa using e)
theorem DRs.append : ∀ {ds es : List D} {vs ws : List V}, DRs K H N loc ds vs → DRs K H N loc es ws → DRs K H N loc (ds ++ es) (vs ++ ws)
  | _, _, _, _, .nil, q => q
  | _, _, _, _, .cons h hs, q => .cons h (DRs.append hs q)
theorem DRs.set {d : D} {v : V} (r : DR K H N loc d v) : ∀ {ds : List D} {vs : List V} (i : Nat), DRs K H N loc ds vs → DRs K H N loc (ds.set i d) (vs.set i v)
  | _, _, _, .nil => .nil
  | _, _, 0, .cons _ hs => .cons r hs
  | _, _, i + 1, .cons h hs => .cons h (DRs.set r i hs)
theorem DRs.take : ∀ {ds : List D} {vs : List V} (i : Nat), DRs K H N loc ds vs → DRs K H N loc (ds.take i) (vs.take i)
  | _, _, 0, _ => .nil
  | _, _, i + 1, .nil => .nil
  | _, _, i + 1, .cons h hs => .cons h (DRs.take i hs)
theorem DRs.drop : ∀ {ds : List D} {vs : List V} (i : Nat), DRs K H N loc ds vs → DRs K H N loc (ds.drop i) (vs.drop i)
  | _, _, 0, h => h
  | _, _, i + 1, .nil => .nil
  | _, _, i + 1, .cons _ hs => DRs.drop i hs
theorem DRs.reverse : ∀ {ds : List D} {vs : List V}, DRs K H N loc ds vs → DRs K H N loc ds.reverse vs.reverse
  | _, _, .nil => .nil
  | _, _, .cons h hs => by
    rw [List.reverse_cons, List.reverse_cons]
    exact DRs.append (DRs.reverse hs) (.cons h .nil)
theorem DRs.eraseIdx : ∀ {ds : List D} {vs : List V} (i : Nat), DRs K H N loc ds vs → DRs K H N loc (ds.eraseIdx i) (vs.eraseIdx i)
  | _, _, _, .nil => .nil
  | _, _, 0, .cons _ hs => hs
  | _, _, i + 1, .cons h hs => .cons h (DRs.eraseIdx i hs)
theorem DRs.ints {ns : List Int} : DRs K H N loc (ns.map D.int) (ns.map V.int) := by
  induction ns with
  | nil => exact .nil
  | cons a r ih => exact .cons (.int a) ih
end

/-- the fields, in order -/
inductive FRs {κ : Type} (K : PySem.W.Frag) (H : Hp) (N : Nat) (loc : Nat → Addr) : List (κ × D) → List (κ × V) → Prop
  | nil : FRs K H N loc [] []
  | cons {f : κ} {d : D} {v : V} {fs : List (κ × D)} {gs : List (κ × V)} : DR K H N loc d v → FRs K H N loc fs gs → FRs K H N loc ((f, d) :: fs) ((f, v) :: gs)

/-- an exception of the class C at a, kept as a value -/
def ExI (C a : Addr) : HO := .ext fun h => ∃ (oe : Obj) (vs : Array Value), h.get? a = some oe ∧ Zc (.ref C) none oe ∧ oe.data = .fields vs
theorem ExI.nt {C a : Addr} : (∀ xs, ExI C a ≠ .tup xs) ∧ (∀ o w, ExI C a ≠ .frz o w) ∧ ∀ x, ExI C a ≠ .own x := ⟨(fun _ z => by unfold ExI at z; cases z), (fun _ _ z => by unfold ExI at z; cases z), (fun _ z => by unfold ExI at z; cases z)⟩

def OR (P : Pm) (H : Hp) (N : Nat) (loc : Nat → Addr) (a : Addr) : Ob → Prop
  | .lst xs => ∃ vs, H a = some (.lst vs) ∧ DRs P.K H N loc xs vs
  | .ins c fs => ∃ dx gs, H a = some (.ins (P.cA c) dx gs) ∧ FRs P.K H N loc fs gs
  | .dk kvs => ∃ gs, H a = some (.dK gs) ∧ FRs P.K H N loc kvs gs
  | .dt kvs => ∃ gs, H a = some (.dT gs) ∧ FRs P.K H N loc kvs gs
  | .ex c => H a = some (ExI (P.cA c) a)

structure Rel (P : Pm) (loc : Nat → Addr) (st : Sto) (H : Hp) : Prop where
  ob : ∀ n o, st[n]? = some o → OR P H st.length loc (loc n) o
  inj : ∀ n m, n < st.length → m < st.length → loc n = loc m → n = m

section
variable {P : Pm} {N N1 : Nat} {loc loc1 : Nat → Addr} {H H1 : Hp} {st : Sto} {a p q : Addr} {o : Ob}
theorem FRs.grow {κ : Type} (g : Grow N loc H N1 loc1 H1) {K : PySem.W.Frag} : ∀ {fs : List (κ × D)} {gs : List (κ × V)}, FRs K H N loc fs gs → FRs K H1 N1 loc1 fs gs
  | _, _, .nil => .nil
  | _, _, .cons h hs => .cons (h.grow g) (FRs.grow g hs)
theorem FRs.low {κ : Type} (g : Low N loc H N1 loc1 H1) {K : PySem.W.Frag} : ∀ {fs : List (κ × D)} {gs : List (κ × V)}, FRs K H N loc fs gs → FRs K H1 N1 loc1 fs gs
  | _, _, .nil => .nil
  | _, _, .cons h hs => .cons (h.low g) (FRs.low g hs)
theorem FRs.look {K : PySem.W.Frag} : ∀ {fs : List (Str × D)} {gs : List (Str × V)} {f : Str} {d : D}, FRs K H N loc fs gs → fs.lookup f = some d → ∃ v, gs.lookup f = some v ∧ DR K H N loc d v
  | _, _, f, d, .cons (f := g) (fs := fs) (gs := gs) h hs, e => by
    rw [List.lookup_cons] at e ⊢
    by_cases hf : (f == g) = true
    · rw [hf] at e ⊢
      cases e
      exact ⟨_, rfl, h⟩
    · have hf' : (f == g) = false := by simpa using hf
      rw [hf'] at e ⊢
      exact FRs.look hs e
theorem FRs.lookN {K : PySem.W.Frag} : ∀ {fs : List (Str × D)} {gs : List (Str × V)} {f : Str}, FRs K H N loc fs gs → fs.lookup f = none → gs.lookup f = none
  | _, _, f, .nil, e => rfl
  | _, _, f, .cons (f := g) (fs := fs) (gs := gs) h hs, e => by
    rw [List.lookup_cons] at e ⊢
    by_cases hf : (f == g) = true
    · rw [hf] at e; cases e
    · have hf' : (f == g) = false := by simpa using hf
      rw [hf'] at e ⊢
      exact FRs.lookN hs e
theorem FRs.length {κ : Type} {K : PySem.W.Frag} : ∀ {fs : List (κ × D)} {gs : List (κ × V)}, FRs K H N loc fs gs → fs.length = gs.length
  | _, _, .nil => rfl
  | _, _, .cons _ hs => by simp [FRs.length hs]
/-- a field stored, as putF does -/
def putD (f : Str) (y : D) : List (Str × D) → List (Str × D)
  | [] => [(f, y)]
  | (g, v) :: r => if g = f then (g, y) :: r else (g, v) :: putD f y r
theorem FRs.put {K : PySem.W.Frag} {f : Str} {d : D} {v : V} (r : DR K H N loc d v) : ∀ {fs : List (Str × D)} {gs : List (Str × V)}, FRs K H N loc fs gs → FRs K H N loc (putD f d fs) (putF f v gs) := by
  intro fs gs h
  induction h with
  | nil => exact .cons r .nil
  | @cons g d' v' fs gs h hs ih =>
    by_cases hf : g = f
    · simp only [putD, putF, if_pos hf]
      exact .cons r hs
    · simp only [putD, putF, if_neg hf]
      exact .cons h ih
theorem OR.there (h : OR P H N loc a o) : ∃ u, H a = some u ∧ (∀ xs, u ≠ .tup xs) ∧ (∀ ob w, u ≠ .frz ob w) ∧ ∀ x, u ≠ .own x := by
  cases o with
  | lst xs =>
    obtain ⟨vs, q, _⟩ := h
    exact ⟨_, q, (fun _ z => nomatch z), (fun _ _ z => nomatch z), (fun _ z => nomatch z)⟩
  | ins c fs =>
    obtain ⟨dx, gs, q, _⟩ := h
    exact ⟨_, q, (fun _ z => nomatch z), (fun _ _ z => nomatch z), (fun _ z => nomatch z)⟩
  | dk fs =>
    obtain ⟨gs, q, _⟩ := h
    exact ⟨_, q, (fun _ z => nomatch z), (fun _ _ z => nomatch z), (fun _ z => nomatch z)⟩
  | dt fs =>
    obtain ⟨gs, q, _⟩ := h
    exact ⟨_, q, (fun _ z => nomatch z), (fun _ _ z => nomatch z), (fun _ z => nomatch z)⟩
  | ex c => exact ⟨_, h, ExI.nt.1, ExI.nt.2.1, ExI.nt.2.2⟩
theorem Rel.there (R : Rel P loc st H) {n : Nat} (hn : n < st.length) : ∃ u, H (loc n) = some u ∧ (∀ xs, u ≠ .tup xs) ∧ (∀ ob w, u ≠ .frz ob w) ∧ ∀ x, u ≠ .own x :=
  (R.ob n _ (List.getElem?_eq_getElem hn)).there
theorem OR.keepL (k : ∀ u, H a = some u → H1 a = some u) (g : Low N loc H N1 loc1 H1) (h : OR P H N loc a o) : OR P H1 N1 loc1 a o := by
  cases o with
  | lst xs =>
    obtain ⟨vs, e, r⟩ := h
    exact ⟨vs, k _ e, r.low g⟩
  | ins c fs =>
    obtain ⟨dx, gs, e, r⟩ := h
    exact ⟨dx, gs, k _ e, FRs.low g r⟩
  | dk fs =>
    obtain ⟨gs, e, r⟩ := h
    exact ⟨gs, k _ e, FRs.low g r⟩
  | dt fs =>
    obtain ⟨gs, e, r⟩ := h
    exact ⟨gs, k _ e, FRs.low g r⟩
  | ex c => exact k _ h
theorem OR.keep (k : ∀ u, H a = some u → H1 a = some u) (g : Grow N loc H N1 loc1 H1) (h : OR P H N loc a o) : OR P H1 N1 loc1 a o := h.keepL k g.low
/-- a list that stands apart is written -/
theorem Low.off {u w : HO} (e : H p = some u) (h1 : ∀ xs, u ≠ .tup xs) (h2 : ∀ o v, u ≠ .frz o v) (N : Nat) (loc : Nat → Addr) : Low N loc H N loc (upd H p w) := by
  refine ⟨Nat.le_refl _, fun _ _ => rfl, fun b xs e' => ?_, fun b o v e' => ?_⟩
  · rw [upd_ne]
    · exact e'
    · rintro rfl
      rw [e] at e'; cases e'
      exact h1 _ rfl
  · rw [upd_ne]
    · exact e'
    · rintro rfl
      rw [e] at e'; cases e'
      exact h2 _ _ rfl
theorem Rel.off {u w : HO} (R : Rel P loc st H) (e : H p = some u) (h1 : ∀ xs, u ≠ .tup xs) (h2 : ∀ o v, u ≠ .frz o v) (hp : ∀ n, n < st.length → loc n ≠ p) : Rel P loc st (upd H p w) :=
  ⟨fun n o q => (R.ob n o q).keepL (fun v z => by rw [upd_ne (hp n (List.getElem?_eq_some_iff.mp q).1)]; exact z) (Low.off e h1 h2 _ _), R.inj⟩
theorem Grow.off {w : HO} (g : Grow N loc H N1 loc1 H1) (e : H p = none) : Grow N loc H N1 loc1 (upd H1 p w) where
  gle := g.gle
  gloc := g.gloc
  gfresh := g.gfresh
  gframe := fun b o hb q => by rw [upd_ne (ne_of_none q e)]; exact g.gframe b o hb q
  gtup := fun b o q => by rw [upd_ne (ne_of_none q e)]; exact g.gtup b o q
  gfrz := fun b o v q => by rw [upd_ne (ne_of_none q e)]; exact g.gfrz b o v q
  gdom := fun b o q => by rw [upd_ne (ne_of_none q e)]; exact g.gdom b o q
/-- a new thing that is not of the store -/
theorem Grow.new {u : HO} (h : H p = none) (N : Nat) (loc : Nat → Addr) : Grow N loc H N loc (upd H p u) where
  gle := Nat.le_refl _
  gloc := fun _ _ => rfl
  gfresh := fun n h1 h2 => absurd h2 (by omega)
  gframe := fun b o _ e => by rw [upd_ne (ne_of_none e h)]; exact e
  gtup := fun b o e => by rw [upd_ne (ne_of_none e h)]; exact e
  gfrz := fun b o w e => by rw [upd_ne (ne_of_none e h)]; exact e
  gdom := fun b o e => ⟨o, by rw [upd_ne (ne_of_none e h)]; exact e⟩
theorem Rel.same (R : Rel P loc st H) (g : Grow st.length loc H st.length loc H1) (k : ∀ n, n < st.length → ∀ u, H (loc n) = some u → H1 (loc n) = some u) : Rel P loc st H1 :=
  ⟨fun n o e => (R.ob n o e).keep (k n (List.getElem?_eq_some_iff.mp e).1) g, R.inj⟩
theorem Rel.new (R : Rel P loc st H) {u : HO} (h : H p = none) : Rel P loc st (upd H p u) :=
  R.same (Grow.new h _ _) fun n _ u e => by rw [upd_ne (ne_of_none e h)]; exact e
/-- the places with a new one -/
def put (loc : Nat → Addr) (N : Nat) (p : Addr) : Nat → Addr := fun n => if n = N then p else loc n
theorem put_same : put loc N p N = p := if_pos rfl
theorem put_lt {n : Nat} (h : n < N) : put loc N p n = loc n := if_neg (by omega)
theorem Grow.lay {u : HO} (h : H p = none) (N : Nat) (loc : Nat → Addr) : Grow N loc H (N + 1) (put loc N p) (upd H p u) where
  gle := Nat.le_succ _
  gloc := fun n hn => put_lt hn
  gfresh := fun n h1 h2 => by
    have e : n = N := by omega
    subst e
    rw [put_same]; exact h
  gframe := fun b o _ e => by rw [upd_ne (ne_of_none e h)]; exact e
  gtup := fun b o e => by rw [upd_ne (ne_of_none e h)]; exact e
  gfrz := fun b o w e => by rw [upd_ne (ne_of_none e h)]; exact e
  gdom := fun b o e => ⟨o, by rw [upd_ne (ne_of_none e h)]; exact e⟩
theorem Grow.adopt (g : Grow N loc H N1 loc1 H1) (h : H p = none) : Grow N loc H (N1 + 1) (put loc1 N1 p) H1 where
  gle := Nat.le_succ_of_le g.gle
  gloc := fun n hn => by rw [put_lt (Nat.lt_of_lt_of_le hn g.gle)]; exact g.gloc n hn
  gfresh := fun n h1 h2 => by
    by_cases hn : n < N1
    · rw [put_lt hn]; exact g.gfresh n h1 hn
    · have e : n = N1 := by omega
      subst e
      rw [put_same]; exact h
  gframe := g.gframe
  gtup := g.gtup
  gfrz := g.gfrz
  gdom := g.gdom
theorem Low.adopt : Low N loc H (N + 1) (put loc N p) H := ⟨Nat.le_succ _, fun n hn => put_lt hn, fun _ _ h => h, fun _ _ _ h => h⟩
/-- a thing of the heap that stands apart from the store becomes an object of it (a comprehension's list) -/
theorem Rel.adopt (R : Rel P loc st H) (hp : ∀ n, n < st.length → loc n ≠ p) (h : OR P H (st.length + 1) (put loc st.length p) p o) : Rel P (put loc st.length p) (st ++ [o]) H := by
  have g : Grow st.length loc H st.length loc H := Grow.refl _ _ _
  have gg : ∀ {d : D} {v : V}, DR P.K H st.length loc d v → DR P.K H (st.length + 1) (put loc st.length p) d v := fun {d v} r => by
    have : Grow st.length loc H (st.length + 1) (put loc st.length p) H ∨ True := .inr trivial
    exact (DR.rec (motive_1 := fun d v _ => DR P.K H (st.length + 1) (put loc st.length p) d v) (motive_2 := fun d v _ => DRs P.K H (st.length + 1) (put loc st.length p) d v)
      .non (fun b => .bl b) (fun i => .int i) (fun x => .str x) (fun h _ r => .tup h r) (fun h _ r => .fz h r)
      (fun {n} hn => by rw [← put_lt (N := st.length) (p := p) (loc := loc) hn]; exact .ref (Nat.lt_succ_of_lt hn)) .nil (fun _ _ a b => .cons a b) r)
  have gs : ∀ {d : List D} {v : List V}, DRs P.K H st.length loc d v → DRs P.K H (st.length + 1) (put loc st.length p) d v := fun {d v} r => by
    induction d generalizing v with
    | nil => cases r; exact .nil
    | cons a d ih => cases r with | cons h hs => exact .cons (gg h) (ih hs)
  have gf : ∀ {κ : Type} {d : List (κ × D)} {v : List (κ × V)}, FRs P.K H st.length loc d v → FRs P.K H (st.length + 1) (put loc st.length p) d v := fun {κ d v} r => by
    induction r with
    | nil => exact .nil
    | cons h hs ih => exact .cons (gg h) ih
  refine ⟨fun n u e => ?_, fun n m hn hm z => ?_⟩
  · rw [List.length_append]
    by_cases hn : n < st.length
    · rw [List.getElem?_append_left hn] at e
      rw [put_lt hn]
      have q := R.ob n u e
      cases u with
      | lst xs =>
        obtain ⟨vs, e, r⟩ := q
        exact ⟨vs, e, gs r⟩
      | ins c fs =>
        obtain ⟨dx, fv, e, r⟩ := q
        exact ⟨dx, fv, e, gf r⟩
      | dk fs =>
        obtain ⟨fv, e, r⟩ := q
        exact ⟨fv, e, gf r⟩
      | dt fs =>
        obtain ⟨fv, e, r⟩ := q
        exact ⟨fv, e, gf r⟩
      | ex c => exact q
    · have hn' : n = st.length := by
        have := (List.getElem?_eq_some_iff.mp e).1
        rw [List.length_append] at this
        simp at this
        omega
      subst hn'
      rw [List.getElem?_append_right (Nat.le_refl _)] at e
      simp at e
      subst e
      rw [put_same]
      exact h
  · rw [List.length_append] at hn hm
    simp at hn hm
    by_cases h1 : n < st.length
    · by_cases h2 : m < st.length
      · rw [put_lt h1, put_lt h2] at z
        exact R.inj n m h1 h2 z
      · have e : m = st.length := by omega
        subst e
        rw [put_lt h1, put_same] at z
        exact absurd z (hp n h1)
    · have e : n = st.length := by omega
      subst e
      by_cases h2 : m < st.length
      · rw [put_lt h2, put_same] at z
        exact absurd z.symm (hp m h2)
      · omega
theorem Rel.ne_new (R : Rel P loc st H) (h : H p = none) : ∀ n, n < st.length → loc n ≠ p := fun n hn z => by
  obtain ⟨u, e, _⟩ := R.there hn
  rw [z, h] at e; cases e
/-- a new list -/
theorem Rel.lay (R : Rel P loc st H) (h : H p = none) {xs : List D} {vs : List V} (r : DRs P.K H st.length loc xs vs) : Rel P (put loc st.length p) (st ++ [.lst xs]) (upd H p (.lst vs)) := by
  refine (R.new h).adopt (R.ne_new h) ⟨vs, upd_same, ?_⟩
  exact r.grow (Grow.lay h _ _)
/-- the list at n is written -/
theorem Grow.write (R : Rel P loc st H) {n : Nat} {u : HO} (hn : n < st.length) : Grow st.length loc H st.length loc (upd H (loc n) u) := by
  obtain ⟨w, e, h1, h2, _⟩ := R.there hn
  refine ⟨Nat.le_refl _, fun _ _ => rfl, fun n h1 h2 => absurd h2 (by omega), fun b o hb e => ?_, fun b o e' => ?_, fun b o v e' => ?_, fun b o e' => ?_⟩
  · rw [upd_ne (Ne.symm (hb n hn))]; exact e
  · rw [upd_ne]
    · exact e'
    · rintro rfl
      rw [e] at e'; cases e'
      exact h1 _ rfl
  · rw [upd_ne]
    · exact e'
    · rintro rfl
      rw [e] at e'; cases e'
      exact h2 _ _ rfl
  · by_cases hb : b = loc n
    · subst hb
      exact ⟨u, upd_same⟩
    · exact ⟨o, by rw [upd_ne hb]; exact e'⟩
theorem Rel.writeO (R : Rel P loc st H) {n : Nat} {u : HO} {ob : Ob} (hn : n < st.length) (r : OR P (upd H (loc n) u) st.length loc (loc n) ob) : Rel P loc (st.set n ob) (upd H (loc n) u) := by
  have g := Grow.write (u := u) R hn
  refine ⟨fun m o e => ?_, fun m k => by rw [List.length_set]; exact R.inj m k⟩
  rw [List.length_set]
  by_cases hm : n = m
  · subst hm
    rw [List.getElem?_set_self hn] at e
    cases e
    exact r
  · rw [List.getElem?_set_ne hm] at e
    have hm' : m < st.length := (List.getElem?_eq_some_iff.mp e).1
    refine (R.ob m o e).keep (fun w q => ?_) g
    rw [upd_ne fun z => hm (R.inj m n hm' hn z).symm]
    exact q
theorem Rel.write (R : Rel P loc st H) {n : Nat} {xs : List D} {vs : List V} (hn : n < st.length) (r : DRs P.K H st.length loc xs vs) : Rel P loc (st.set n (.lst xs)) (upd H (loc n) (.lst vs)) :=
  R.writeO hn ⟨vs, upd_same, r.grow (Grow.write R hn)⟩
end
end Dn
set_option maxRecDepth 100000
namespace Dn
open PySem PySem.Spec PyProof.Rows L2

/-! ### the results of a piece of a program, and the judgements -/
inductive Res (α : Type) where
  | ok (a : α) (s : Sto) | exc (c : Str) (s : Sto) | bad
def Res.bind {α β : Type} : Res α → (α → Sto → Res β) → Res β
  | .ok a s, f => f a s
  | .exc c s, _ => .exc c s
  | .bad, _ => .bad
abbrev En := List (Option D)
abbrev ME := En → Sto → Res D
abbrev MA := En → Sto → Res (List D)
abbrev MT := En → Sto → Res Bool
inductive SR where
  | nx (e : En) (s : Sto) | ret (d : D) (s : Sto) | brk (e : En) (s : Sto) | cnt (e : En) (s : Sto) | exc (c : Str) (e : En) (s : Sto) | bad
abbrev MS := En → Sto → SR
abbrev MG := D → En → Sto → SR

structure ER (K : PySem.W.Frag) (H : Hp) (N : Nat) (loc : Nat → Addr) (env : En) (σ : L2.St) : Prop where
  len : env.length = σ.length
  at_ : ∀ (i : Nat) (d : D), env[i]? = some (some d) → ∃ v : V, σ[i]? = some (some v) ∧ DR K H N loc d v
theorem ER.grow {K : PySem.W.Frag} {H H1 : Hp} {N N1 : Nat} {loc loc1 : Nat → Addr} {env : En} {σ : L2.St} (g : Grow N loc H N1 loc1 H1) (e : ER K H N loc env σ) : ER K H1 N1 loc1 env σ :=
  ⟨e.len, fun i d h => let ⟨v, a, b⟩ := e.at_ i d h; ⟨v, a, b.grow g⟩⟩
theorem ER.low {K : PySem.W.Frag} {H H1 : Hp} {N N1 : Nat} {loc loc1 : Nat → Addr} {env : En} {σ : L2.St} (g : Low N loc H N1 loc1 H1) (e : ER K H N loc env σ) : ER K H1 N1 loc1 env σ :=
  ⟨e.len, fun i d h => let ⟨v, a, b⟩ := e.at_ i d h; ⟨v, a, b.low g⟩⟩
theorem ER.set {K : PySem.W.Frag} {H : Hp} {N : Nat} {loc : Nat → Addr} {env : En} {σ : L2.St} {d : D} {v : V} (i : Nat) (e : ER K H N loc env σ) (r : DR K H N loc d v) : ER K H N loc (env.set i (some d)) (σ.set i (some v)) := by
  refine ⟨by rw [List.length_set, List.length_set, e.len], fun j x h => ?_⟩
  by_cases hj : i = j
  · subst hj
    by_cases hi : i < env.length
    · rw [List.getElem?_set_self hi] at h
      cases h
      exact ⟨v, List.getElem?_set_self (e.len ▸ hi), r⟩
    · rw [List.getElem?_eq_none (by rw [List.length_set]; omega)] at h
      cases h
  · rw [List.getElem?_set_ne hj] at h ⊢
    exact e.at_ j x h

abbrev RA (α β : Type) := Hp → Nat → (Nat → Addr) → α → β → Prop
def rD (P : Pm) : RA D V := fun H N loc d v => DR P.K H N loc d v
def rDs (P : Pm) : RA (List D) (List V) := fun H N loc d v => DRs P.K H N loc d v
def rB : RA Bool Bool := fun _ _ _ a b => a = b
def rO : RA (Option Int) (Option Int) := fun _ _ _ a b => a = b

def Post {α β : Type} (P : Pm) (R : RA α β) (N : Nat) (loc : Nat → Addr) (H : Hp) (Q : β → Hp → Prop) (X : Str → Hp → Prop) : Res α → Prop
  | .ok a s => ∀ loc' H' v, Grow N loc H s.length loc' H' → Rel P loc' s H' → R H' s.length loc' a v → Q v H'
  | .exc c s => ∀ loc' H', Grow N loc H s.length loc' H' → Rel P loc' s H' → X c H'
  | .bad => False
section
variable {P : Pm} {α β γ δ : Type} {R : RA α β} {R' : RA γ δ} {N N1 : Nat} {loc loc1 : Nat → Addr} {H H1 : Hp} {Q : β → Hp → Prop} {Q' : δ → Hp → Prop} {X : Str → Hp → Prop}
theorem Post.shift {r : Res α} (g : Grow N loc H N1 loc1 H1) (h : Post P R N loc H Q X r) : Post P R N1 loc1 H1 Q X r := by
  cases r with
  | ok a s => exact fun loc' H' v g' R v' => h loc' H' v (g.trans g') R v'
  | exc c s => exact fun loc' H' g' R => h loc' H' (g.trans g') R
  | bad => exact h
theorem post_bind {m : Res α} {f : α → Sto → Res γ} (h : Post P R' N loc H Q' X (m.bind f))
    (k : ∀ a s loc1 H1 v, Grow N loc H s.length loc1 H1 → Rel P loc1 s H1 → R H1 s.length loc1 a v → Post P R' s.length loc1 H1 Q' X (f a s) → Q v H1) : Post P R N loc H Q X m := by
  cases m with
  | ok a s => exact fun loc' H' v g R' v' => k a s loc' H' v g R' v' (Post.shift (r := f a s) g h)
  | exc c s => exact h
  | bad => exact h
end

structure SndE (P : Pm) (W : WX) (te : TE) (m : ME) : Prop where
  run : ∀ σ H env st loc Q, ER P.K H st.length loc env σ → Rel P loc st H → Post P (rD P) st.length loc H Q (fun c H' => W (.ref (P.cA c)) none σ H') (m env st) → te σ H Q
structure SndT (P : Pm) (W : WX) (te : TT) (m : MT) : Prop where
  run : ∀ σ H env st loc Q, ER P.K H st.length loc env σ → Rel P loc st H → Post P rB st.length loc H Q (fun c H' => W (.ref (P.cA c)) none σ H') (m env st) → te σ H Q
structure SndA (P : Pm) (W : WX) (te : TA) (m : MA) : Prop where
  run : ∀ σ H env st loc Q, ER P.K H st.length loc env σ → Rel P loc st H → Post P (rDs P) st.length loc H Q (fun c H' => W (.ref (P.cA c)) none σ H') (m env st) → te σ H Q

def PostS (P : Pm) (N : Nat) (loc : Nat → Addr) (H : Hp) (D : Ends) (X : Str → L2.St → Hp → Prop) : SR → Prop
  | .nx e s => ∀ loc' H' σ', Grow N loc H s.length loc' H' → Rel P loc' s H' → ER P.K H' s.length loc' e σ' → D.nx σ' H'
  | .ret d s => ∀ loc' H' v, Grow N loc H s.length loc' H' → Rel P loc' s H' → DR P.K H' s.length loc' d v → D.rt v H'
  | .brk e s => ∀ loc' H' σ', Grow N loc H s.length loc' H' → Rel P loc' s H' → ER P.K H' s.length loc' e σ' → D.bk σ' H'
  | .cnt e s => ∀ loc' H' σ', Grow N loc H s.length loc' H' → Rel P loc' s H' → ER P.K H' s.length loc' e σ' → D.ct σ' H'
  | .exc c e s => ∀ loc' H' σ', Grow N loc H s.length loc' H' → Rel P loc' s H' → ER P.K H' s.length loc' e σ' → X c σ' H'
  | .bad => False
theorem PostS.shift {P : Pm} {N N1 : Nat} {loc loc1 : Nat → Addr} {H H1 : Hp} {D : Ends} {X : Str → L2.St → Hp → Prop} {r : SR} (g : Grow N loc H N1 loc1 H1) (h : PostS P N loc H D X r) : PostS P N1 loc1 H1 D X r := by
  cases r with
  | nx e s => exact fun loc' H' v g' R v' => h loc' H' v (g.trans g') R v'
  | ret e s => exact fun loc' H' v g' R v' => h loc' H' v (g.trans g') R v'
  | brk e s => exact fun loc' H' v g' R v' => h loc' H' v (g.trans g') R v'
  | cnt e s => exact fun loc' H' v g' R v' => h loc' H' v (g.trans g') R v'
  | exc c e s => exact fun loc' H' v g' R v' => h loc' H' v (g.trans g') R v'
  | bad => exact h
abbrev wS (P : Pm) (W : WX) : Str → L2.St → Hp → Prop := fun c σ' H' => W (.ref (P.cA c)) none σ' H'
structure SndS (P : Pm) (W : WX) (ts : TS) (m : MS) : Prop where
  run : ∀ D σ H env st loc, ER P.K H st.length loc env σ → Rel P loc st H → PostS P st.length loc H D (wS P W) (m env st) → ts D σ H
structure SndG (P : Pm) (W : WX) (tg : TG) (m : MG) : Prop where
  run : ∀ v d σ H env st loc Q, DR P.K H st.length loc d v → ER P.K H st.length loc env σ → Rel P loc st H → PostS P st.length loc H ⟨Q, fun _ _ => False, fun _ _ => False, fun _ _ => False⟩ (fun _ _ _ => False) (m d env st) → tg v σ H Q
structure SndGs (P : Pm) (W : WX) (tg : TGs) (m : List D → En → Sto → SR) : Prop where
  run : ∀ v d σ H env st loc Q, DRs P.K H st.length loc d v → ER P.K H st.length loc env σ → Rel P loc st H → PostS P st.length loc H ⟨Q, fun _ _ => False, fun _ _ => False, fun _ _ => False⟩ (fun _ _ _ => False) (m d env st) → tg v σ H Q

/-! ### what a loop walks: the items, and the list that must stay as it was -/
def rdL (s : Sto) (n : Nat) : Option (List D) := match s[n]? with
  | some (.lst xs) => some xs
  | _ => none
abbrev Chk := List (Nat × List D)
def Stays (c : Chk) (s : Sto) : Prop := ∀ p ∈ c, rdL s p.1 = some p.2
def ItR (P : Pm) (J : It) (xs : List D) (c : Chk) (N : Nat) (loc : Nat → Addr) (H : Hp) : Prop :=
  ∀ st loc1 H1, Low N loc H st.length loc1 H1 → Rel P loc1 st H1 → Stays c st →
    (∀ i, i < xs.length → J.go i H1 ∧ ∀ x H2, J.yld i H1 x H2 → Grow st.length loc1 H1 st.length loc1 H2 ∧ Rel P loc1 st H2 ∧ ∃ d, xs[i]? = some d ∧ DR P.K H2 st.length loc1 d x) ∧ J.stop xs.length H1
abbrev MI := En → Sto → Res (List D × Chk)
def PostI (P : Pm) (N : Nat) (loc : Nat → Addr) (H : Hp) (R : It → Hp → Prop) (X : Str → Hp → Prop) : Res (List D × Chk) → Prop
  | .ok (xs, c) s => ∀ loc' H', Grow N loc H s.length loc' H' → Rel P loc' s H' → ∀ J, ItR P J xs c s.length loc' H' → R J H'
  | .exc c s => ∀ loc' H', Grow N loc H s.length loc' H' → Rel P loc' s H' → X c H'
  | .bad => False
structure SndI (P : Pm) (W : WX) (wi : TI) (m : MI) : Prop where
  run : ∀ σ H env st loc R, ER P.K H st.length loc env σ → Rel P loc st H → PostI P st.length loc H R (fun c H' => W (.ref (P.cA c)) none σ H') (m env st) → wi σ H R

/-! ### the judgements over the text -/
structure DE (X : Cx) (cA : Str → Addr) (W : WX) (e : Expr) (m : ME) : Prop where
  ex : ∃ te, PE X e te ∧ SndE ⟨X.K, cA⟩ W te m
structure DT (X : Cx) (cA : Str → Addr) (W : WX) (e : Expr) (m : MT) : Prop where
  ex : ∃ te, PT X e te ∧ SndT ⟨X.K, cA⟩ W te m
structure DA (X : Cx) (cA : Str → Addr) (W : WX) (e : List Expr) (m : MA) : Prop where
  ex : ∃ te, PA X e te ∧ SndA ⟨X.K, cA⟩ W te m
structure DS (X : Cx) (cA : Str → Addr) (W : WX) (e : Stmt) (m : MS) : Prop where
  ex : ∃ te, PS X e te ∧ SndS ⟨X.K, cA⟩ W te m
structure DSs (X : Cx) (cA : Str → Addr) (W : WX) (e : List Stmt) (m : MS) : Prop where
  ex : ∃ te, PSs X e te ∧ SndS ⟨X.K, cA⟩ W te m
structure DG (X : Cx) (cA : Str → Addr) (W : WX) (e : Expr) (m : MG) : Prop where
  ex : ∃ te, PG X e te ∧ SndG ⟨X.K, cA⟩ W te m
structure DGs (X : Cx) (cA : Str → Addr) (W : WX) (e : List Expr) (m : List D → En → Sto → SR) : Prop where
  ex : ∃ te, PGs X e te ∧ SndGs ⟨X.K, cA⟩ W te m
structure DI (X : Cx) (cA : Str → Addr) (W : WX) (tg e : Expr) (m : MI) : Prop where
  ex : ∃ te, PI X tg e te ∧ SndI ⟨X.K, cA⟩ W te m

/-! ### names, constants -/
section
variable {X : Cx} {cA : Str → Addr} {W : WX} {a b c e : Expr} {es : List Expr} {pos pos' : Pos}
def mC (d : D) : ME := fun _ s => .ok d s
def mVar (i : Nat) : ME := fun e s => match e[i]? with
  | some (some d) => .ok d s
  | _ => .bad
theorem snd_c {P : Pm} {d : D} {v : V} (h : ∀ H N loc, DR P.K H N loc d v) : SndE P W (tC v) (mC d) :=
  ⟨fun σ H env st loc Q er R h' => h' loc H v (Grow.refl _ _ _) R (h _ _ _)⟩
theorem de_int {i j pos} : DE X cA W (.Constant (.int i) j pos) (mC (.int i)) := ⟨_, pe_int, snd_c fun _ _ _ => .int i⟩
theorem de_bl {i j pos} : DE X cA W (.Constant (.bool i) j pos) (mC (.bl i)) := ⟨_, pe_bl, snd_c fun _ _ _ => .bl i⟩
theorem de_non {j pos} : DE X cA W (.Constant .none j pos) (mC .non) := ⟨_, pe_non, snd_c fun _ _ _ => .non⟩
theorem de_str {i j pos} : DE X cA W (.Constant (.str i) j pos) (mC (.str i)) := ⟨_, pe_str, snd_c fun _ _ _ => .str i⟩
theorem de_var (i : Nat) {x : Str} {pos : Pos} (hN : X.N[i]? = some x := by rfl) (hv : Vis X.env.scope x := by first | exact Or.inl rfl | exact Or.inr (Or.inl rfl) | exact Or.inr (Or.inr rfl)) (hd : (x == ("__debug__" : Str)) = false := by decide)
    (hcd : (x == ("__classdict__" : Str)) = false := by decide) : DE X cA W (.Name x pos) (mVar i) := by
  refine ⟨_, pe_var hN hv hd hcd, ⟨fun σ H env st loc Q er R h => ?_⟩⟩
  unfold mVar at h
  split at h
  · rename_i d hd
    obtain ⟨v, e, r⟩ := er.at_ i d hd
    exact ⟨v, e, h loc H v (Grow.refl _ _ _) R r⟩
  · exact h.elim

/-! ### operators -/
abbrev F2 := D → D → Sto → Option (D × Sto)
abbrev FL := List D → Sto → Option (D × Sto)
def up {α : Type} : Option (α × Sto) → Res α
  | some (a, s) => .ok a s
  | none => .bad
structure Snd2 (P : Pm) (r : R2) (f : F2) : Prop where
  run : ∀ H st loc x y vx vy d st' Q, Rel P loc st H → DR P.K H st.length loc x vx → DR P.K H st.length loc y vy → f x y st = some (d, st') →
    (∀ loc' H' v, Grow st.length loc H st'.length loc' H' → Rel P loc' st' H' → DR P.K H' st'.length loc' d v → Q v H') → r vx vy H Q
structure SndL (P : Pm) (r : List V → Hp → VK → Prop) (f : FL) : Prop where
  run : ∀ H st loc xs vs d st' Q, Rel P loc st H → DRs P.K H st.length loc xs vs → f xs st = some (d, st') →
    (∀ loc' H' v, Grow st.length loc H st'.length loc' H' → Rel P loc' st' H' → DR P.K H' st'.length loc' d v → Q v H') → r vs H Q
def mOp (f : F2) (a b : ME) : ME := fun e s => (a e s).bind fun x s1 => (b e s1).bind fun y s2 => up (f x y s2)
theorem snd_op {P : Pm} {r : R2} {f : F2} {ta tb : TE} {ma mb : ME} (hf : Snd2 P r f) (ha : SndE P W ta ma) (hb : SndE P W tb mb) : SndE P W (tOp r ta tb) (mOp f ma mb) := by
  refine ⟨fun σ H env st loc Q er R h => ?_⟩
  refine ha.run σ H env st loc _ er R (post_bind h fun x s1 loc1 H1 v g1 R1 d1 h1 => ?_)
  refine hb.run σ H1 env s1 loc1 _ (er.grow g1) R1 (post_bind h1 fun y s2 loc2 H2 u g2 R2 d2 h2 => ?_)
  cases q : f x y s2 with
  | none => rw [q] at h2; exact h2.elim
  | some p =>
    obtain ⟨d, s3⟩ := p
    rw [q] at h2
    exact hf.run H2 s2 loc2 x y v u d s3 Q R2 (DR.grow g2 d1) d2 q h2
theorem de_op {op : Operator} {r : R2} {f : F2} {ma mb : ME} (ho : OpR X (binaryOp op) r) (hf : Snd2 ⟨X.K, cA⟩ r f) (ha : DE X cA W a ma) (hb : DE X cA W b mb) : DE X cA W (.BinOp a op b pos) (mOp f ma mb) := by
  obtain ⟨ta, h1, s1⟩ := ha
  obtain ⟨tb, h2, s2⟩ := hb
  exact ⟨_, pe_op ho h1 h2, snd_op hf s1 s2⟩
theorem de_cmp {op : CmpOp} {r : R2} {f : F2} {ma mb : ME} (ho : OpR X (compareOp op) r) (hf : Snd2 ⟨X.K, cA⟩ r f) (ha : DE X cA W a ma) (hb : DE X cA W b mb) (hm : behindInMarks op b = false) : DE X cA W (.Compare a [op] [b] pos) (mOp f ma mb) := by
  obtain ⟨ta, h1, s1⟩ := ha
  obtain ⟨tb, h2, s2⟩ := hb
  exact ⟨_, pe_cmpR ho h1 h2 hm, snd_op hf s1 s2⟩
/-- a value that must be a bool -/
def asB : Res D → Res Bool
  | .ok (.bl b) s => .ok b s
  | .exc c s => .exc c s
  | _ => .bad
def mB (m : ME) : MT := fun e s => asB (m e s)
theorem snd_b {P : Pm} {te : TE} {m : ME} (h : SndE P W te m) : SndT P W (tTest te) (mB m) := by
  refine ⟨fun σ H env st loc Q er R h' => ?_⟩
  refine h.run σ H env st loc _ er R ?_
  unfold mB at h'
  cases q : m env st with
  | ok d s =>
    rw [q] at h'
    cases d with
    | bl b =>
      intro loc' H' v g R' r
      cases r
      exact ⟨b, rfl, h' loc' H' b g R' rfl⟩
    | _ => exact h'.elim
  | exc c s => rw [q] at h'; exact h'
  | bad => rw [q] at h'; exact h'
theorem dt_cmp {op : CmpOp} {r : R2} {f : F2} {ma mb : ME} (ho : OpR X (compareOp op) r) (hf : Snd2 ⟨X.K, cA⟩ r f) (ha : DE X cA W a ma) (hb : DE X cA W b mb) (hm : behindInMarks op b = false) : DT X cA W (.Compare a [op] [b] pos) (mB (mOp f ma mb)) := by
  obtain ⟨ta, h1, s1⟩ := ha
  obtain ⟨tb, h2, s2⟩ := hb
  exact ⟨_, pt_cmpR ho h1 h2 hm, snd_b (snd_op hf s1 s2)⟩
/-- a value as a test -/
theorem dt_val {m : ME} (h : DE X cA W e m) (he : ∀ whole, isTrue e X.env whole = (do let v ← whole; standAt e.pos; holding [v] (truthy v)) := by intro _; rfl) : DT X cA W e (mB m) := by
  obtain ⟨te, h1, s1⟩ := h
  exact ⟨_, pt_val h1 he, ⟨fun σ H env st loc Q er R h' => (snd_b s1).run σ H env st loc Q er R h'⟩⟩

/-! ### and, or, not -/
def mAnd (a b : MT) : MT := fun e s => (a e s).bind fun c s1 => if c = true then b e s1 else .ok false s1
def mOr (a b : MT) : MT := fun e s => (a e s).bind fun c s1 => if c = true then .ok true s1 else b e s1
def mNot (a : MT) : MT := fun e s => (a e s).bind fun c s1 => .ok (!c) s1
structure DW (X : Cx) (cA : Str → Addr) (W : WX) (e : Expr) (m : MT) : Prop where
  ex : ∃ te, PW X e te ∧ SndT ⟨X.K, cA⟩ W te m
variable {ma mb : MT} {rest : List Expr}
theorem DW.dt (h : DW X cA W e ma) : DT X cA W e ma := let ⟨t, h1, s1⟩ := h; ⟨t, h1.pt, s1⟩
theorem dw_and1 (ha : DT X cA W a ma) : DW X cA W (.BoolOp .And [a] pos) ma := let ⟨t, h1, s1⟩ := ha; ⟨t, pw_and1 h1, s1⟩
theorem dw_or1 (ha : DT X cA W a ma) : DW X cA W (.BoolOp .Or [a] pos) ma := let ⟨t, h1, s1⟩ := ha; ⟨t, pw_or1 h1, s1⟩
theorem dw_and (ha : DT X cA W a ma) (hb : DW X cA W (.BoolOp .And (b :: rest) pos) mb) : DW X cA W (.BoolOp .And (a :: b :: rest) pos) (mAnd ma mb) := by
  obtain ⟨ta, h1, s1⟩ := ha
  obtain ⟨tb, h2, s2⟩ := hb
  refine ⟨_, pw_and h1 h2, ⟨fun σ H env st loc Q er R h => ?_⟩⟩
  refine s1.run σ H env st loc _ er R (post_bind h fun x s1' loc1 H1 v g1 R1 d1 h1' => ?_)
  cases d1
  show if x = true then tb σ H1 Q else Q false H1
  by_cases hx : x = true
  · rw [if_pos hx] at h1' ⊢
    exact s2.run σ H1 env s1' loc1 Q (er.grow g1) R1 h1'
  · rw [if_neg hx] at h1' ⊢
    exact h1' loc1 H1 false (Grow.refl _ _ _) R1 rfl
theorem dw_or (ha : DT X cA W a ma) (hb : DW X cA W (.BoolOp .Or (b :: rest) pos) mb) : DW X cA W (.BoolOp .Or (a :: b :: rest) pos) (mOr ma mb) := by
  obtain ⟨ta, h1, s1⟩ := ha
  obtain ⟨tb, h2, s2⟩ := hb
  refine ⟨_, pw_or h1 h2, ⟨fun σ H env st loc Q er R h => ?_⟩⟩
  refine s1.run σ H env st loc _ er R (post_bind h fun x s1' loc1 H1 v g1 R1 d1 h1' => ?_)
  cases d1
  show if x = true then Q true H1 else tb σ H1 Q
  by_cases hx : x = true
  · rw [if_pos hx] at h1' ⊢
    exact h1' loc1 H1 true (Grow.refl _ _ _) R1 rfl
  · rw [if_neg hx] at h1' ⊢
    exact s2.run σ H1 env s1' loc1 Q (er.grow g1) R1 h1'
theorem dt_not (ha : DT X cA W a ma) : DT X cA W (.UnaryOp .Not a pos) (mNot ma) := by
  obtain ⟨ta, h1, s1⟩ := ha
  refine ⟨_, pt_not h1, ⟨fun σ H env st loc Q er R h => ?_⟩⟩
  refine s1.run σ H env st loc _ er R (post_bind h fun x s1' loc1 H1 v g1 R1 d1 h1' => ?_)
  cases d1
  exact h1' loc1 H1 _ (Grow.refl _ _ _) R1 rfl
/-- as values (bools) -/
def mVal (m : MT) : ME := fun e s => (m e s).bind fun c s1 => .ok (.bl c) s1
def mAndV (a b : ME) : ME := fun e s => (asB (a e s)).bind fun c s1 => if c = true then b e s1 else .ok (.bl false) s1
def mOrV (a b : ME) : ME := fun e s => (asB (a e s)).bind fun c s1 => if c = true then .ok (.bl true) s1 else b e s1
def mNotV (a : ME) : ME := fun e s => (asB (a e s)).bind fun c s1 => .ok (.bl (!c)) s1
variable {ua ub : ME}
theorem snd_asB {P : Pm} {R' : RA γ δ} {te : TE} {m : ME} {σ : L2.St} {H : Hp} {env : En} {st : Sto} {loc : Nat → Addr} {X' : Str → Hp → Prop} {Q : VK} {f : Bool → Sto → Res γ} {Q' : δ → Hp → Prop} (h : Post P R' st.length loc H Q' X' ((asB (m env st)).bind f))
    (k : ∀ b s loc1 H1, Grow st.length loc H s.length loc1 H1 → Rel P loc1 s H1 → Post P R' s.length loc1 H1 Q' X' (f b s) → Q (.bl b) H1) : Post P (rD P) st.length loc H Q X' (m env st) := by
  cases q : m env st with
  | ok d s =>
    rw [q] at h
    cases d with
    | bl b =>
      intro loc' H' v g R' r
      cases r
      exact k b s loc' H' g R' (Post.shift (r := f b s) g h)
    | _ => exact h.elim
  | exc c s => rw [q] at h; exact h
  | bad => rw [q] at h; exact h
theorem de_one {op} (h : DE X cA W a ua) : DE X cA W (.BoolOp op [a] pos) ua := let ⟨t, h1, s1⟩ := h; ⟨t, pe_one h1, s1⟩
theorem de_and (ha : DE X cA W a ua) (hb : DE X cA W (.BoolOp .And (b :: rest) pos) ub) : DE X cA W (.BoolOp .And (a :: b :: rest) pos) (mAndV ua ub) := by
  obtain ⟨ta, h1, s1⟩ := ha
  obtain ⟨tb, h2, s2⟩ := hb
  refine ⟨_, pe_and h1 h2, ⟨fun σ H env st loc Q er R h => ?_⟩⟩
  refine s1.run σ H env st loc _ er R (snd_asB (te := ta) (σ := σ) h fun x s1' loc1 H1 g1 R1 h1' => ⟨x, rfl, ?_⟩)
  by_cases hx : x = true
  · rw [if_pos hx] at h1' ⊢
    exact s2.run σ H1 env s1' loc1 Q (er.grow g1) R1 h1'
  · rw [if_neg hx] at h1' ⊢
    exact h1' loc1 H1 _ (Grow.refl _ _ _) R1 (.bl false)
theorem de_or (ha : DE X cA W a ua) (hb : DE X cA W (.BoolOp .Or (b :: rest) pos) ub) : DE X cA W (.BoolOp .Or (a :: b :: rest) pos) (mOrV ua ub) := by
  obtain ⟨ta, h1, s1⟩ := ha
  obtain ⟨tb, h2, s2⟩ := hb
  refine ⟨_, pe_or h1 h2, ⟨fun σ H env st loc Q er R h => ?_⟩⟩
  refine s1.run σ H env st loc _ er R (snd_asB (te := ta) (σ := σ) h fun x s1' loc1 H1 g1 R1 h1' => ⟨x, rfl, ?_⟩)
  by_cases hx : x = true
  · rw [if_pos hx] at h1' ⊢
    exact h1' loc1 H1 _ (Grow.refl _ _ _) R1 (.bl true)
  · rw [if_neg hx] at h1' ⊢
    exact s2.run σ H1 env s1' loc1 Q (er.grow g1) R1 h1'
theorem de_not (ha : DE X cA W a ua) : DE X cA W (.UnaryOp .Not a pos) (mNotV ua) := by
  obtain ⟨ta, h1, s1⟩ := ha
  refine ⟨_, pe_not h1, ⟨fun σ H env st loc Q er R h => ?_⟩⟩
  refine s1.run σ H env st loc _ er R (snd_asB (te := ta) (σ := σ) h fun x s1' loc1 H1 g1 R1 h1' => ⟨x, rfl, ?_⟩)
  exact h1' loc1 H1 _ (Grow.refl _ _ _) R1 (.bl _)
def mIf (t : MT) (a b : ME) : ME := fun e s => (t e s).bind fun c s1 => if c = true then a e s1 else b e s1
theorem de_if {mt : MT} (hc : DT X cA W c mt) (ha : DE X cA W a ua) (hb : DE X cA W b ub) : DE X cA W (.IfExp c a b pos) (mIf mt ua ub) := by
  obtain ⟨tc, h0, s0⟩ := hc
  obtain ⟨ta, h1, s1⟩ := ha
  obtain ⟨tb, h2, s2⟩ := hb
  refine ⟨_, pe_ifExp h0 h1 h2, ⟨fun σ H env st loc Q er R h => ?_⟩⟩
  refine s0.run σ H env st loc _ er R (post_bind h fun x s1' loc1 H1 v g1 R1 d1 h1' => ?_)
  cases d1
  show if x = true then ta σ H1 Q else tb σ H1 Q
  by_cases hx : x = true
  · rw [if_pos hx] at h1' ⊢
    exact s1.run σ H1 env s1' loc1 Q (er.grow g1) R1 h1'
  · rw [if_neg hx] at h1' ⊢
    exact s2.run σ H1 env s1' loc1 Q (er.grow g1) R1 h1'
/-- one op, one place -/
abbrev F1 := D → Sto → Option (D × Sto)
structure Snd1 (P : Pm) (r : V → Hp → VK → Prop) (f : F1) : Prop where
  run : ∀ H st loc x vx d st' Q, Rel P loc st H → DR P.K H st.length loc x vx → f x st = some (d, st') →
    (∀ loc' H' v, Grow st.length loc H st'.length loc' H' → Rel P loc' st' H' → DR P.K H' st'.length loc' d v → Q v H') → r vx H Q
def mUn (f : F1) (a : ME) : ME := fun e s => (a e s).bind fun x s1 => up (f x s1)
theorem de_un {op : UnaryOp} {r : V → Hp → VK → Prop} {f : F1} (ho : UnR X (unaryOp op) r) (hf : Snd1 ⟨X.K, cA⟩ r f) (ha : DE X cA W a ua) : DE X cA W (.UnaryOp op a pos) (mUn f ua) := by
  obtain ⟨ta, h1, s1⟩ := ha
  refine ⟨_, pe_un ho h1, ⟨fun σ H env st loc Q er R h => ?_⟩⟩
  refine s1.run σ H env st loc _ er R (post_bind h fun x s1 loc1 H1 v g1 R1 d1 h1 => ?_)
  cases q : f x s1 with
  | none => rw [q] at h1; exact h1.elim
  | some p =>
    obtain ⟨d, s3⟩ := p
    rw [q] at h1
    exact hf.run H1 s1 loc1 x v d s3 Q R1 d1 q h1

/-! ### argument lists, displays -/
def mNil : MA := fun _ s => .ok [] s
def mCons (a : ME) (r : MA) : MA := fun e s => (a e s).bind fun x s1 => (r e s1).bind fun xs s2 => .ok (x :: xs) s2
theorem da_nil : DA X cA W [] mNil := ⟨_, pa_nil, ⟨fun σ H env st loc Q er R h => h loc H [] (Grow.refl _ _ _) R .nil⟩⟩
theorem da_cons {mr : MA} (ha : DE X cA W e ua) (hr : DA X cA W es mr) (hs : starEach (e :: es) X.env = (false, eval e X.env) :: starEach es X.env := by rfl) : DA X cA W (e :: es) (mCons ua mr) := by
  obtain ⟨ta, h1, s1⟩ := ha
  obtain ⟨tb, h2, s2⟩ := hr
  refine ⟨_, pa_cons h1 h2 hs, ⟨fun σ H env st loc Q er R h => ?_⟩⟩
  refine s1.run σ H env st loc _ er R (post_bind h fun x s1 loc1 H1 v g1 R1 d1 h1 => ?_)
  refine s2.run σ H1 env s1 loc1 _ (er.grow g1) R1 (post_bind h1 fun xs s2 loc2 H2 vs g2 R2 d2 h2 => ?_)
  exact h2 loc2 H2 _ (Grow.refl _ _ _) R2 (.cons (DR.grow g2 d1) d2)
def mTup (a : MA) : ME := fun e s => (a e s).bind fun xs s1 => if xs.length ≤ 100000 then .ok (.tup xs) s1 else .bad
def mLst (a : MA) : ME := fun e s => (a e s).bind fun xs s1 => if xs.length ≤ 100000 then .ok (.ref s1.length) (s1 ++ [.lst xs]) else .bad
theorem sz_of {n : Nat} (h : n ≤ 100000) : n ≤ sizeLine := Nat.le_trans h (by decide)
theorem de_tup {x1} {m : MA} (h : DA X cA W es m) : DE X cA W (.Tuple es x1 pos) (mTup m) := by
  obtain ⟨t, h1, s1⟩ := h
  refine ⟨_, pe_tup h1, ⟨fun σ H env st loc Q er R h => ?_⟩⟩
  refine s1.run σ H env st loc _ er R (post_bind h fun x s1 loc1 H1 v g1 R1 d1 h1 => ?_)
  have d1' : DRs X.K H1 s1.length loc1 x v := d1
  by_cases hx : x.length ≤ 100000
  · rw [if_pos hx] at h1
    refine ⟨by rw [← d1'.length]; exact sz_of hx, fun p hp => ?_⟩
    exact h1 loc1 _ _ (Grow.new hp _ _) (R1.new hp) (.tup (SqT.of upd_same) (d1'.grow (Grow.new hp _ _)))
  · rw [if_neg hx] at h1
    exact h1.elim
theorem de_lst {m : MA} (h : DA X cA W es m) : DE X cA W (.List es pos) (mLst m) := by
  obtain ⟨t, h1, s1⟩ := h
  refine ⟨_, pe_lst h1, ⟨fun σ H env st loc Q er R h => ?_⟩⟩
  refine s1.run σ H env st loc _ er R (post_bind h fun x s1 loc1 H1 v g1 R1 d1 h1 => ?_)
  have d1' : DRs X.K H1 s1.length loc1 x v := d1
  by_cases hx : x.length ≤ 100000
  · rw [if_pos hx] at h1
    refine ⟨by rw [← d1'.length]; exact sz_of hx, fun p hp => ?_⟩
    refine h1 (put loc1 s1.length p) _ _ (by rw [List.length_append]; exact Grow.lay hp _ _) (R1.lay hp d1') ?_
    have e : (V.ref p) = .ref (put loc1 s1.length p s1.length) := by rw [put_same]
    rw [e]
    exact .ref (by rw [List.length_append]; simp)
  · rw [if_neg hx] at h1
    exact h1.elim
end
end Dn
set_option maxRecDepth 100000
namespace Dn
open PySem PySem.Spec PyProof.Rows L2

/-! ### statements -/
def bindS {α : Type} (r : Res α) (e : En) (f : α → Sto → SR) : SR := match r with
  | .ok a s => f a s
  | .exc c s => .exc c e s
  | .bad => .bad
def seqS (r : SR) (f : En → Sto → SR) : SR := match r with
  | .nx e s => f e s
  | .ret d s => .ret d s
  | .brk e s => .brk e s
  | .cnt e s => .cnt e s
  | .exc c e s => .exc c e s
  | .bad => .bad
section
variable {P : Pm} {α β : Type} {R : RA α β} {N N1 : Nat} {loc loc1 : Nat → Addr} {H H1 : Hp} {D : Ends} {X : Str → L2.St → Hp → Prop} {env : En} {σ : L2.St}
theorem posts_bind {m : Res α} {f : α → Sto → SR} {Q : β → Hp → Prop} (er : ER P.K H N loc env σ) (h : PostS P N loc H D X (bindS m env f))
    (k : ∀ a s loc1 H1 v, Grow N loc H s.length loc1 H1 → Rel P loc1 s H1 → R H1 s.length loc1 a v → PostS P s.length loc1 H1 D X (f a s) → Q v H1) : Post P R N loc H Q (fun c H' => X c σ H') m := by
  cases m with
  | ok a s => exact fun loc' H' v g R' v' => k a s loc' H' v g R' v' (PostS.shift (r := f a s) g h)
  | exc c s => exact fun loc' H' g R' => h loc' H' σ g R' (er.grow g)
  | bad => exact h
theorem posts_seq {r : SR} {f : En → Sto → SR} {nx : L2.St → Hp → Prop} (h : PostS P N loc H D X (seqS r f))
    (k : ∀ e s loc1 H1 σ1, Grow N loc H s.length loc1 H1 → Rel P loc1 s H1 → ER P.K H1 s.length loc1 e σ1 → PostS P s.length loc1 H1 D X (f e s) → nx σ1 H1) : PostS P N loc H { D with nx := nx } X r := by
  cases r with
  | nx e s => exact fun loc' H' v g R' v' => k e s loc' H' v g R' v' (PostS.shift (r := f e s) g h)
  | ret d s => exact h
  | brk e s => exact h
  | cnt e s => exact h
  | exc c e s => exact h
  | bad => exact h
/-- a target's end -/
theorem posts_g {r : SR} {f : En → Sto → SR} {Q : L2.St → Hp → Prop} (h : PostS P N loc H D X (match r with | .nx e s => f e s | _ => .bad))
    (k : ∀ e s loc1 H1 σ1, Grow N loc H s.length loc1 H1 → Rel P loc1 s H1 → ER P.K H1 s.length loc1 e σ1 → PostS P s.length loc1 H1 D X (f e s) → Q σ1 H1) : PostS P N loc H ⟨Q, fun _ _ => False, fun _ _ => False, fun _ _ => False⟩ (fun _ _ _ => False) r := by
  cases r with
  | nx e s => exact fun loc' H' v g R' v' => k e s loc' H' v g R' v' (PostS.shift (r := f e s) g h)
  | ret d s => exact h.elim
  | brk e s => exact h.elim
  | cnt e s => exact h.elim
  | exc c e s => exact h.elim
  | bad => exact h.elim
end
def mNext : MS := fun e s => .nx e s
def mSeq (a b : MS) : MS := fun e s => seqS (a e s) b
def mAsg (m : ME) (g : MG) : MS := fun e s => bindS (m e s) e fun d s1 => match g d e s1 with
  | .nx e1 s2 => .nx e1 s2
  | _ => .bad
def mSet (i : Nat) (m : ME) : MS := fun e s => bindS (m e s) e fun d s1 => .nx (e.set i (some d)) s1
def mDrop (m : ME) : MS := fun e s => bindS (m e s) e fun _ s1 => .nx e s1
def mRet (m : ME) : MS := fun e s => bindS (m e s) e fun d s1 => .ret d s1
def mRetN : MS := fun _ s => .ret .non s
def mBrk : MS := fun e s => .brk e s
def mCnt : MS := fun e s => .cnt e s
def mIfS (t : MT) (a b : MS) : MS := fun e s => bindS (t e s) e fun c s1 => if c = true then a e s1 else b e s1
def mPar (i j : Nat) (a b : ME) : MS := fun e s => bindS (a e s) e fun x s1 => bindS (b e s1) e fun y s2 => .nx ((e.set i (some x)).set j (some y)) s2
section
variable {X : Cx} {cA : Str → Addr} {W : WX} {e a b c : Expr} {st : Stmt} {rest sts : List Stmt} {m ma mb : ME} {t : MT} {u v : MS} {pos pos' : Pos}
theorem dss_nil : DSs X cA W [] mNext := ⟨_, pss_nil, ⟨fun D σ H env s loc er R h => h loc H σ (Grow.refl _ _ _) R er⟩⟩
theorem dss_cons (h1 : DS X cA W st u) (h2 : DSs X cA W rest v) : DSs X cA W (st :: rest) (mSeq u v) := by
  obtain ⟨t1, p1, s1⟩ := h1
  obtain ⟨t2, p2, s2⟩ := h2
  refine ⟨_, pss_cons p1 p2, ⟨fun D σ H env s loc er R h => ?_⟩⟩
  refine s1.run { D with nx := t2 D } σ H env s loc er R (posts_seq h fun e s' loc1 H1 σ1 g R1 er1 h1 => ?_)
  exact s2.run D σ1 H1 e s' loc1 er1 R1 h1
theorem dss_one (h1 : DS X cA W st u) : DSs X cA W [st] u := let ⟨t1, p1, s1⟩ := h1; ⟨_, pss_one p1, s1⟩
theorem ds_pass : DS X cA W (.Pass pos) mNext := ⟨_, ps_pass, ⟨fun D σ H env s loc er R h => h loc H σ (Grow.refl _ _ _) R er⟩⟩
theorem ds_break : DS X cA W (.Break pos) mBrk := ⟨_, ps_break, ⟨fun D σ H env s loc er R h => h loc H σ (Grow.refl _ _ _) R er⟩⟩
theorem ds_continue : DS X cA W (.Continue pos) mCnt := ⟨_, ps_continue, ⟨fun D σ H env s loc er R h => h loc H σ (Grow.refl _ _ _) R er⟩⟩
theorem ds_doc {x j pos pos'} : DS X cA W (.Expr (.Constant (.str x) j pos) pos') mNext := ⟨_, ps_doc, ⟨fun D σ H env s loc er R h => h loc H σ (Grow.refl _ _ _) R er⟩⟩
theorem ds_expr (he : DE X cA W e m) (hs : swapsWith e none pos.line X.env = pure false := by rfl) : DS X cA W (.Expr e pos) (mDrop m) := by
  obtain ⟨te, h1, s1⟩ := he
  refine ⟨_, ps_expr h1 hs, ⟨fun D σ H env s loc er R h => ?_⟩⟩
  exact s1.run σ H env s loc _ er R (posts_bind (P := ⟨X.K, cA⟩) er h fun a s' loc1 H1 v g R1 r h1 => h1 loc1 H1 σ (Grow.refl _ _ _) R1 (er.grow g))
theorem ds_ret (he : DE X cA W e m) : DS X cA W (.Return (some e) pos) (mRet m) := by
  obtain ⟨te, h1, s1⟩ := he
  refine ⟨_, ps_ret h1, ⟨fun D σ H env s loc er R h => ?_⟩⟩
  exact s1.run σ H env s loc _ er R (posts_bind (P := ⟨X.K, cA⟩) er h fun a s' loc1 H1 v g R1 r h1 => h1 loc1 H1 v (Grow.refl _ _ _) R1 r)
theorem ds_retN : DS X cA W (.Return none pos) mRetN := ⟨_, ps_retN, ⟨fun D σ H env s loc er R h => h loc H .non (Grow.refl _ _ _) R .non⟩⟩
theorem ds_if {sa sb : List Stmt} (hc : DT X cA W c t) (ha : DSs X cA W sa u) (hb : DSs X cA W sb v) : DS X cA W (.If c sa sb pos) (mIfS t u v) := by
  obtain ⟨tc, h0, s0⟩ := hc
  obtain ⟨ta, h1, s1⟩ := ha
  obtain ⟨tb, h2, s2⟩ := hb
  refine ⟨_, ps_if h0 h1 h2, ⟨fun D σ H env s loc er R h => ?_⟩⟩
  refine s0.run σ H env s loc _ er R (posts_bind (P := ⟨X.K, cA⟩) (R := rB) er h fun x s' loc1 H1 v g R1 r h1 => ?_)
  cases r
  show if x = true then ta D σ H1 else tb D σ H1
  by_cases hx : x = true
  · rw [if_pos hx] at h1 ⊢
    exact s1.run D σ H1 env s' loc1 (er.grow g) R1 h1
  · rw [if_neg hx] at h1 ⊢
    exact s2.run D σ H1 env s' loc1 (er.grow g) R1 h1
theorem ds_set (i : Nat) {x : Str} {pos' : Pos} (hN : X.N.Nodup) (he : DE X cA W e m) (hi : X.N[i]? = some x := by rfl) (hx : Loc X.env.scope x := by first | exact .inl rfl | exact .inr rfl) (hs : swapsWith e (some (.Name x pos')) pos.line X.env = pure false := by rfl)
    (hf : X.fn x = true ∨ X.env.scope.names.lookup x = some .local := by first | exact .inl rfl | exact .inr rfl) : DS X cA W (.Assign [.Name x pos'] e pos) (mSet i m) := by
  obtain ⟨te, h1, s1⟩ := he
  refine ⟨_, ps_set hN hi hx h1 hs hf, ⟨fun D σ H env s loc er R h => ?_⟩⟩
  refine s1.run σ H env s loc _ er R (posts_bind (P := ⟨X.K, cA⟩) er h fun d s' loc1 H1 v g R1 r h1 => ?_)
  exact h1 loc1 H1 (σ.set i (some v)) (Grow.refl _ _ _) R1 ((er.grow g).set i r)

/-! ### targets -/
/-- only the slots of L are stored -/
def Agree (L : List Nat) (σ σ' : L2.St) : Prop := σ'.length = σ.length ∧ ∀ i : Nat, i ∉ L → σ'[i]? = σ[i]?
def OnlyG (L : List Nat) (t : TG) : Prop := ∀ v σ H (Q Q' : L2.St → Hp → Prop), (∀ σ' H', Agree L σ σ' → Q σ' H' → Q' σ' H') → t v σ H Q → t v σ H Q'
def OnlyGs (L : List Nat) (t : TGs) : Prop := ∀ v σ H (Q Q' : L2.St → Hp → Prop), (∀ σ' H', Agree L σ σ' → Q σ' H' → Q' σ' H') → t v σ H Q → t v σ H Q'
structure DGo (X : Cx) (cA : Str → Addr) (W : WX) (L : Option (List Nat)) (e : Expr) (m : MG) : Prop where
  ex : ∃ te, PG X e te ∧ SndG ⟨X.K, cA⟩ W te m ∧ ∀ l, L = some l → OnlyG l te
structure DGos (X : Cx) (cA : Str → Addr) (W : WX) (L : Option (List Nat)) (e : List Expr) (m : List D → En → Sto → SR) : Prop where
  ex : ∃ te, PGs X e te ∧ SndGs ⟨X.K, cA⟩ W te m ∧ ∀ l, L = some l → OnlyGs l te
def opt2 : Option (List Nat) → Option (List Nat) → Option (List Nat)
  | some a, some b => some (a ++ b)
  | _, _ => none
theorem Agree.refl (L : List Nat) (σ : L2.St) : Agree L σ σ := ⟨rfl, fun _ _ => rfl⟩
theorem Agree.trans {L M : List Nat} {a b c : L2.St} (h : Agree L a b) (k : Agree M b c) : Agree (L ++ M) a c :=
  ⟨k.1.trans h.1, fun i hi => (k.2 i fun z => hi (List.mem_append_right _ z)).trans (h.2 i fun z => hi (List.mem_append_left _ z))⟩
def gN (i : Nat) : MG := fun d e s => .nx (e.set i (some d)) s
theorem dg_name (i : Nat) {x : Str} (hN : X.N.Nodup) (hi : X.N[i]? = some x := by rfl) (hx : Loc X.env.scope x := by first | exact .inl rfl | exact .inr rfl) (hf : X.fn x = true ∨ X.env.scope.names.lookup x = some .local := by first | exact .inl rfl | exact .inr rfl) :
    DGo X cA W (some [i]) (.Name x pos) (gN i) := by
  refine ⟨_, pg_name hN hi hx hf, ⟨fun v d σ H env s loc Q r er R h => ?_⟩, fun l hl v σ H Q Q' k h => ?_⟩
  · exact h loc H (σ.set i (some v)) (Grow.refl _ _ _) R (er.set i r)
  · cases hl
    exact k _ _ ⟨List.length_set .., fun j hj => List.getElem?_set_ne fun z => hj (by simp [z])⟩ h
def gNilM : List D → En → Sto → SR := fun ds e s => match ds with
  | [] => .nx e s
  | _ => .bad
def gConsM (g : MG) (r : List D → En → Sto → SR) : List D → En → Sto → SR := fun ds e s => match ds with
  | [] => .bad
  | d :: ds => match g d e s with
    | .nx e1 s1 => r ds e1 s1
    | _ => .bad
def gT (n : Nat) (r : List D → En → Sto → SR) : MG := fun d e s => match d with
  | .tup ds => if ds.length = n then r ds e s else .bad
  | _ => .bad
theorem dgs_nil : DGos X cA W (some []) [] gNilM := by
  refine ⟨_, pgs_nil, ⟨fun v d σ H env s loc Q r er R h => ?_⟩, fun l hl v σ H Q Q' k h => ?_⟩
  · cases d with
    | nil =>
      have e : v = [] := by cases r; rfl
      exact ⟨e, h loc H σ (Grow.refl _ _ _) R er⟩
    | cons _ _ => exact h.elim
  · cases hl
    exact ⟨h.1, k _ _ (Agree.refl _ _) h.2⟩
theorem dgs_cons {L M : Option (List Nat)} {es : List Expr} {g : MG} {r : List D → En → Sto → SR} (h1 : DGo X cA W L e g) (h2 : DGos X cA W M es r)
    (hs : (assignEach (e :: es) X.env).map (·.2) = assign e X.env :: (assignEach es X.env).map (·.2) := by rfl) : DGos X cA W (opt2 L M) (e :: es) (gConsM g r) := by
  obtain ⟨t1, p1, s1, o1⟩ := h1
  obtain ⟨t2, p2, s2, o2⟩ := h2
  refine ⟨_, pgs_cons p1 p2 hs, ⟨fun v d σ H env s loc Q r er R h => ?_⟩, fun l hl v σ H Q Q' k h => ?_⟩
  · cases r with
    | nil => exact h.elim
    | @cons d v ds vs r rs =>
      refine ⟨v, vs, rfl, s1.run v d σ H env s loc _ r er R (posts_g h fun e s' loc1 H1 σ1 g R1 er1 h1 => ?_)⟩
      exact s2.run vs ds σ1 H1 e s' loc1 Q (rs.grow g) er1 R1 h1
  · obtain ⟨d, ds, e, h⟩ := h
    cases L with
    | none => cases hl
    | some L =>
      cases M with
      | none => cases hl
      | some M =>
        cases hl
        exact ⟨d, ds, e, o1 L rfl _ _ _ _ _ (fun σ' H' ag q => o2 M rfl _ _ _ _ _ (fun σ2 H2 ag2 q2 => k _ _ (ag.trans ag2) q2) q) h⟩
theorem dg_tup {L : Option (List Nat)} {es : List Expr} {k n : Nat} {r : List D → En → Sto → SR} (hc : X.calm = true) (h : DGos X cA W L es r)
    (hn : (assignEach es X.env).length = n := by rfl) (hst : (assignEach es X.env).findIdx? (·.1) = none := by rfl) : DGo X cA W L (.Tuple es k pos) (gT n r) := by
  obtain ⟨t, p, s, o⟩ := h
  refine ⟨_, pg_tup hc p hn hst, ⟨fun v d σ H env s1 loc Q r' er R h => ?_⟩, fun l hl v σ H Q Q' k h => ?_⟩
  · unfold gT at h
    cases d with
    | tup ds =>
      have h : PostS _ _ _ _ _ _ (if ds.length = n then r ds env s1 else .bad) := h
      cases r' with
      | @tup p ds vs hs hr =>
        by_cases hl : ds.length = n
        · rw [if_pos hl] at h
          exact ⟨p, vs, rfl, hs, hr.length ▸ hl, s.run vs ds σ H env s1 loc Q hr er R h⟩
        · rw [if_neg hl] at h
          exact h.elim
    | _ => exact h.elim
  · obtain ⟨a, xs, e1, e2, e3, h⟩ := h
    exact ⟨a, xs, e1, e2, e3, o l hl _ _ _ _ _ k h⟩
/-- o[i] = v -/
abbrev F3 := D → D → D → Sto → Option Sto
structure Snd3 (P : Pm) (r : TSet) (f : F3) : Prop where
  run : ∀ H st loc o i v vo vi vv st' Q, Rel P loc st H → DR P.K H st.length loc o vo → DR P.K H st.length loc i vi → DR P.K H st.length loc v vv → f o i v st = some st' →
    (∀ loc' H', Grow st.length loc H st'.length loc' H' → Rel P loc' st' H' → Q H') → r vo vi vv H Q
/-- a target of the kind o[i], o.f, after the value -/
def gSubM (f : F3) (o i : ME) : MG := fun d e s => match o e s with
  | .ok x s1 => match i e s1 with
    | .ok y s2 => match f x y d s2 with
      | some s3 => .nx e s3
      | none => .bad
    | _ => .bad
  | _ => .bad
theorem dg_sub {r : TSet} {f : F3} (hp : PSet X r) (hf : Snd3 ⟨X.K, cA⟩ r f) (ho : DE X cA W a ma) (hi : DE X cA W b mb)
    (hA : ∀ v, assign (.Subscript a b pos) X.env v = (do
      let ov ← holding [v] (eval a X.env)
      let iv ← holding [v, ov] (eval b X.env)
      standAt pos
      holding [v, ov, iv] (setItem ov iv v)
      release [v, ov, iv] []) := by intro _; rfl) : DGo X cA W none (.Subscript a b pos) (gSubM f ma mb) := by
  obtain ⟨ta, p1, s1⟩ := ho
  obtain ⟨tb, p2, s2⟩ := hi
  refine ⟨_, pg_sub p1 p2 hp hA, ⟨fun v d σ H env s loc Q r er R h => ?_⟩, fun l hl => nomatch hl⟩
  · refine s1.run σ H env s loc _ er R ?_
    unfold gSubM at h
    cases q1 : ma env s with
    | exc c s' => rw [q1] at h; exact h.elim
    | bad => rw [q1] at h; exact h.elim
    | ok x s' =>
      rw [q1] at h
      intro loc1 H1 vo g1 R1 ro
      refine s2.run σ H1 env s' loc1 _ (er.grow g1) R1 ?_
      have h := PostS.shift g1 h
      cases q2 : mb env s' with
      | exc c s' => simp only [q2] at h; exact h.elim
      | bad => simp only [q2] at h; exact h.elim
      | ok y s2' =>
        simp only [q2] at h
        intro loc2 H2 vi g2 R2 ri
        have h := PostS.shift g2 h
        cases q3 : f x y d s2' with
        | none => simp only [q3] at h; exact h.elim
        | some s3 =>
          simp only [q3] at h
          exact hf.run H2 s2' loc2 x y d vo vi v s3 _ R2 (DR.grow g2 ro) ri (DR.grow g2 (DR.grow g1 r)) q3 fun loc3 H3 g3 R3 => h loc3 H3 σ g3 R3 (((er.grow g1).grow g2).grow g3)
/-- target = value -/
theorem ds_asg {tg : Expr} {L : Option (List Nat)} {g : MG} (he : DE X cA W e m) (hg : DGo X cA W L tg g) (hs : swapsWithSole [tg] e pos.line X.env = pure false := by rfl) (hw : swappedStores [tg] e X.env = pure none := by rfl)
    (h1 : (assignEach [tg] X.env).map (·.2) = [assign tg X.env] := by rfl) : DS X cA W (.Assign [tg] e pos) (mAsg m g) := by
  obtain ⟨te, p1, s1⟩ := he
  obtain ⟨t2, p2, s2, o2⟩ := hg
  refine ⟨_, ps_asg p1 p2 hs hw h1, ⟨fun D σ H env s loc er R h => ?_⟩⟩
  refine s1.run σ H env s loc _ er R (posts_bind (P := ⟨X.K, cA⟩) er h fun d s' loc1 H1 v g1 R1 r h1 => ?_)
  exact s2.run v d σ H1 env s' loc1 _ r (er.grow g1) R1 (posts_g (f := fun e1 s2 => .nx e1 s2) h1 fun e s2' loc2 H2 σ2 g2 R2 er2 h2 => h2 loc2 H2 σ2 (Grow.refl _ _ _) R2 er2)
theorem ds_par (i j : Nat) {x y : Str} {px py pt : Pos} {kt k2 pt2} (hc : X.calm = true) (hN : X.N.Nodup) (ha : DE X cA W a ma) (hb : DE X cA W b mb) (hi : X.N[i]? = some x := by rfl) (hj : X.N[j]? = some y := by rfl) (hij : i ≠ j := by decide)
    (hx : X.env.scope.names.lookup x = some .local := by rfl) (hy : X.env.scope.names.lookup y = some .local := by rfl)
    (hw : swappedStores [.Tuple [.Name x px, .Name y py] kt pt] (.Tuple [a, b] k2 pt2) X.env = pure (some [x, y]) := by rfl)
    (hs : swapsWithSole [.Tuple [.Name x px, .Name y py] kt pt] (.Tuple [a, b] k2 pt2) pos.line X.env = pure false := by rfl)
    (hs1 : starEach [a, b] X.env = (false, eval a X.env) :: starEach [b] X.env := by rfl) (hs2 : starEach [b] X.env = (false, eval b X.env) :: starEach [] X.env := by rfl) :
    DS X cA W (.Assign [.Tuple [.Name x px, .Name y py] kt pt] (.Tuple [a, b] k2 pt2) pos) (mPar i j ma mb) := by
  obtain ⟨ta, p1, s1⟩ := ha
  obtain ⟨tb, p2, s2⟩ := hb
  refine ⟨_, L2.ps_par hc hN hi hj hij hx hy (pa_cons p1 (pa_cons p2 pa_nil hs2) hs1) hw hs, ⟨fun D σ H env s loc er R h => ?_⟩⟩
  refine s1.run σ H env s loc _ er R (posts_bind (P := ⟨X.K, cA⟩) er h fun x s' loc1 H1 v g R1 r h1 => ?_)
  refine s2.run σ H1 env s' loc1 _ (er.grow g) R1 (posts_bind (P := ⟨X.K, cA⟩) (er.grow g) h1 fun y s2 loc2 H2 u g2 R2 r2 h2 => ?_)
  exact ⟨v, u, rfl, h2 loc2 H2 _ (Grow.refl _ _ _) R2 ((((er.grow g).grow g2).set i (DR.grow g2 r)).set j r2)⟩

/-! ### while -/
def whileS (t : MT) (b : MS) : Nat → En → Sto → SR
  | 0, _, _ => .bad
  | k + 1, e, s => bindS (t e s) e fun c s1 => if c = true then (match b e s1 with
      | .nx e2 s2 => whileS t b k e2 s2
      | .cnt e2 s2 => whileS t b k e2 s2
      | .brk e2 s2 => .nx e2 s2
      | .ret d s2 => .ret d s2
      | .exc c e2 s2 => .exc c e2 s2
      | .bad => .bad) else .nx e s1
def mWhile (k : Nat) (t : MT) (b : MS) : MS := whileS t b k
theorem ds_while (k : Nat) {body : List Stmt} (hp : PassesOwn (model X.prog X.w) X.A X.env X.xe) (hc : DT X cA W c t) (hb : DSs X cA W body u) : DS X cA W (.While c body [] pos) (mWhile k t u) := by
  obtain ⟨tc, p1, s1⟩ := hc
  obtain ⟨tb, p2, s2⟩ := hb
  refine ⟨_, ps_while hp p1 p2, ⟨fun D σ H env s loc er R h => ?_⟩⟩
  refine ⟨fun m σ' H' => ∃ env' s' loc', ER X.K H' s'.length loc' env' σ' ∧ Rel ⟨X.K, cA⟩ loc' s' H' ∧ PostS ⟨X.K, cA⟩ s'.length loc' H' D (wS ⟨X.K, cA⟩ W) (whileS t u m env' s'), ⟨k, env, s, loc, er, R, h⟩, ?_⟩
  rintro m σ1 H1 ⟨env1, st1, loc1, er1, R1, h1⟩
  cases m with
  | zero => exact h1.elim
  | succ m =>
    refine s1.run σ1 H1 env1 st1 loc1 _ er1 R1 (posts_bind (P := ⟨X.K, cA⟩) (R := rB) er1 h1 fun b st2 loc2 H2 v g2 R2 r2 h2 => ?_)
    cases r2
    show if b = true then _ else _
    by_cases hb : b = true
    · rw [if_pos hb] at h2 ⊢
      refine ⟨fun σ' H' => ∃ env' s' loc', ER X.K H' s'.length loc' env' σ' ∧ Rel ⟨X.K, cA⟩ loc' s' H' ∧ PostS ⟨X.K, cA⟩ s'.length loc' H' D (wS ⟨X.K, cA⟩ W) (whileS t u m env' s'), fun σ' H' z => ⟨m, Nat.lt_succ_self _, z⟩, ?_⟩
      refine s2.run _ σ1 H2 env1 st2 loc2 (er1.grow g2) R2 ?_
      cases q : u env1 st2 with
      | nx e s => rw [q] at h2; exact fun loc' H' σ' g R' er' => ⟨e, s, loc', er', R', PostS.shift (r := whileS t u m e s) g h2⟩
      | cnt e s => rw [q] at h2; exact fun loc' H' σ' g R' er' => ⟨e, s, loc', er', R', PostS.shift (r := whileS t u m e s) g h2⟩
      | brk e s => rw [q] at h2; exact h2
      | ret d s => rw [q] at h2; exact h2
      | exc c e s => rw [q] at h2; exact h2
      | bad => rw [q] at h2; exact h2.elim
    · rw [if_neg hb] at h2 ⊢
      exact h2 loc2 H2 σ1 (Grow.refl _ _ _) R2 (er1.grow g2)

/-! ### for -/
open Classical in
noncomputable def forS (c : Chk) (g : MG) (b : MS) : List D → En → Sto → SR
  | [], e, s => if Stays c s then .nx e s else .bad
  | x :: r, e, s => if Stays c s then (match g x e s with
      | .nx e1 s1 => (match b e1 s1 with
        | .nx e2 s2 => forS c g b r e2 s2
        | .cnt e2 s2 => forS c g b r e2 s2
        | .brk e2 s2 => .nx e2 s2
        | .ret d s2 => .ret d s2
        | .exc c e2 s2 => .exc c e2 s2
        | .bad => .bad)
      | _ => .bad) else .bad
noncomputable def mFor (i : MI) (g : MG) (b : MS) : MS := fun e s => bindS (i e s) e fun p s1 => forS p.2 g b p.1 e s1
theorem posts_i {P : Pm} {N : Nat} {loc : Nat → Addr} {H : Hp} {De : Ends} {X : Str → L2.St → Hp → Prop} {env : En} {σ : L2.St} {m : Res (List D × Chk)} {f : (List D × Chk) → Sto → SR} {Q : It → Hp → Prop} (er : ER P.K H N loc env σ) (h : PostS P N loc H De X (bindS m env f))
    (k : ∀ xs c s loc1 H1 J, Grow N loc H s.length loc1 H1 → Rel P loc1 s H1 → ItR P J xs c s.length loc1 H1 → PostS P s.length loc1 H1 De X (f (xs, c) s) → Q J H1) : PostI P N loc H Q (fun c H' => X c σ H') m := by
  cases m with
  | ok a s =>
    obtain ⟨xs, c⟩ := a
    exact fun loc' H' g R' J v' => k xs c s loc' H' J g R' v' (PostS.shift (r := f (xs, c) s) g h)
  | exc c s => exact fun loc' H' g R' => h loc' H' σ g R' (er.grow g)
  | bad => exact h
theorem ds_for {L : Option (List Nat)} {tg iter : Expr} {body : List Stmt} {mi : MI} {g : MG} (h0 : PassesOwn (model X.prog X.w) X.A X.env X.xe) (hc : X.calm = true) (hi : DI X cA W tg iter mi) (hg : DGo X cA W L tg g) (hb : DSs X cA W body u)
    (hs : ∀ x, foldedSetIterable iter X.env x = pure x := by intro _; rfl) : DS X cA W (.For tg iter body [] pos) (mFor mi g u) := by
  obtain ⟨ti, p0, s0⟩ := hi
  obtain ⟨t1, p1, s1, o1⟩ := hg
  obtain ⟨t2, p2, s2⟩ := hb
  refine ⟨_, L2.ps_for h0 hc p0 p1 p2 hs, ⟨fun D σ H env s loc er R h => ?_⟩⟩
  refine s0.run σ H env s loc _ er R (posts_i (P := ⟨X.K, cA⟩) er h fun xs c s' loc1 H1 J g1 R1 it h1 => ?_)
  refine ⟨fun i m σ' H' => m = xs.length - i ∧ i ≤ xs.length ∧ ∃ env' s2 loc', ER X.K H' s2.length loc' env' σ' ∧ Rel ⟨X.K, cA⟩ loc' s2 H' ∧ Grow s'.length loc1 H1 s2.length loc' H' ∧ PostS ⟨X.K, cA⟩ s2.length loc' H' D (wS ⟨X.K, cA⟩ W) (forS c g u (xs.drop i) env' s2),
    ⟨xs.length, by simp, Nat.zero_le _, env, s', loc1, er.grow g1, R1, Grow.refl _ _ _, by simpa using h1⟩, ?_⟩
  rintro i m σ2 H2 ⟨rfl, hle, env2, st2, loc2, er2, R2, g2, h2⟩
  have stay : Stays c st2 := by
    by_cases hs : Stays c st2
    · exact hs
    · exfalso
      cases hd : xs.drop i with
      | nil => rw [hd] at h2; unfold forS at h2; rw [if_neg hs] at h2; exact h2
      | cons _ _ => rw [hd] at h2; unfold forS at h2; rw [if_neg hs] at h2; exact h2
  obtain ⟨hgo, hstop⟩ := it st2 loc2 H2 g2.low R2 stay
  by_cases hlt : i < xs.length
  · obtain ⟨hg1, hy⟩ := hgo i hlt
    refine .inr ⟨hg1, fun σ' H' => ∃ env' s2 loc', ER X.K H' s2.length loc' env' σ' ∧ Rel ⟨X.K, cA⟩ loc' s2 H' ∧ Grow s'.length loc1 H1 s2.length loc' H' ∧ PostS ⟨X.K, cA⟩ s2.length loc' H' D (wS ⟨X.K, cA⟩ W) (forS c g u (xs.drop (i + 1)) env' s2),
      fun σ' H' z => ⟨xs.length - (i + 1), by omega, rfl, hlt, z⟩, fun x H3 yl => ?_⟩
    obtain ⟨g3, R3, d, hd, rd⟩ := hy x H3 yl
    have hdr : xs.drop i = d :: xs.drop (i + 1) := by
      rw [List.drop_eq_getElem_cons hlt]
      have : xs[i] = d := by
        rw [List.getElem?_eq_getElem hlt] at hd
        exact Option.some.inj hd
      rw [this]
    rw [hdr] at h2
    unfold forS at h2
    rw [if_pos stay] at h2
    have h2' := PostS.shift (D := D) g3 h2
    refine s1.run x d σ2 H3 env2 st2 loc2 _ rd (er2.grow g3) R3 (posts_g (D := D) (X := wS ⟨X.K, cA⟩ W) (f := fun e1 s1 => match u e1 s1 with
        | .nx e2 s2 => forS c g u (xs.drop (i + 1)) e2 s2
        | .cnt e2 s2 => forS c g u (xs.drop (i + 1)) e2 s2
        | .brk e2 s2 => .nx e2 s2
        | .ret d s2 => .ret d s2
        | .exc c e2 s2 => .exc c e2 s2
        | .bad => .bad) h2' fun e s3 loc3 H4 σ3 g4 R4 er4 h4 => ?_)
    refine s2.run _ σ3 H4 e s3 loc3 er4 R4 ?_
    have gg := (g2.trans g3).trans g4
    cases q : u e s3 with
    | nx e s => rw [q] at h4; exact fun loc' H' σ' g R' er' => ⟨e, s, loc', er', R', gg.trans g, PostS.shift (r := forS c _ u (xs.drop (i + 1)) e s) g h4⟩
    | cnt e s => rw [q] at h4; exact fun loc' H' σ' g R' er' => ⟨e, s, loc', er', R', gg.trans g, PostS.shift (r := forS c _ u (xs.drop (i + 1)) e s) g h4⟩
    | brk e s => rw [q] at h4; exact h4
    | ret d s => rw [q] at h4; exact h4
    | exc c e s => rw [q] at h4; exact h4
    | bad => rw [q] at h4; exact h4.elim
  · have e : i = xs.length := by omega
    subst e
    rw [List.drop_length] at h2
    unfold forS at h2
    rw [if_pos stay] at h2
    exact .inl ⟨hstop, h2 loc2 H2 σ2 (Grow.refl _ _ _) R2 er2⟩
end
end Dn
set_option maxRecDepth 100000
namespace Dn
open PySem PySem.Spec PyProof.Rows L2

/-! ### a reading by its meaning -/
theorem pe_imp {X : Cx} {e : Expr} {t t' : TE} (h : PE X e t) (k : ∀ σ H Q, t' σ H Q → t σ H Q) : PE X e t' := ⟨fun pins s σ H Q I q => h.run pins s σ H Q I (k _ _ _ q)⟩
theorem pg_imp {X : Cx} {e : Expr} {t t' : TG} (h : PG X e t) (k : ∀ v σ H Q, t' v σ H Q → t v σ H Q) : PG X e t' := ⟨fun pins s σ H v u Q I r q => h.run pins s σ H v u Q I r (k _ _ _ _ q)⟩
theorem pts_imp {X : Cx} {e : List Expr} {t t' : TT} (h : PTs X e t) (k : ∀ σ H Q, t' σ H Q → t σ H Q) : PTs X e t' := ⟨fun pins s σ H Q I q => h.run pins s σ H Q I (k _ _ _ q)⟩
abbrev W0 : WX := fun _ _ _ _ => False
def teOf (P : Pm) (m : ME) : TE := fun σ H Q => ∃ env st loc, ER P.K H st.length loc env σ ∧ Rel P loc st H ∧ Post P (rD P) st.length loc H Q (fun _ _ => False) (m env st)
def ttOf (P : Pm) (m : MT) : TT := fun σ H Q => ∃ env st loc, ER P.K H st.length loc env σ ∧ Rel P loc st H ∧ Post P rB st.length loc H Q (fun _ _ => False) (m env st)
def tgOf (P : Pm) (L : List Nat) (m : MG) : TG := fun v σ H Q => ∃ d env st loc, DR P.K H st.length loc d v ∧ ER P.K H st.length loc env σ ∧ Rel P loc st H ∧
  PostS P st.length loc H ⟨fun σ' H' => Agree L σ σ' → Q σ' H', fun _ _ => False, fun _ _ => False, fun _ _ => False⟩ (fun _ _ _ => False) (m d env st)
section
variable {X : Cx} {cA : Str → Addr} {e : Expr}
theorem DE.pe0 {m : ME} (h : DE X cA W0 e m) : PE X e (teOf ⟨X.K, cA⟩ m) := by
  obtain ⟨t, p, s⟩ := h
  exact pe_imp p fun σ H Q ⟨env, st, loc, er, R, q⟩ => s.run σ H env st loc Q er R q
theorem DGo.pg0 {L : List Nat} {m : MG} (h : DGo X cA W0 (some L) e m) : PG X e (tgOf ⟨X.K, cA⟩ L m) := by
  obtain ⟨t, p, s, o⟩ := h
  exact pg_imp p fun v σ H Q ⟨d, env, st, loc, r, er, R, q⟩ => o L rfl v σ H _ _ (fun σ' H' ag k => k ag) (s.run v d σ H env st loc _ r er R q)
structure DTs (X : Cx) (cA : Str → Addr) (W : WX) (e : List Expr) (m : MT) : Prop where
  ex : ∃ te, PTs X e te ∧ SndT ⟨X.K, cA⟩ W te m
def mYes : MT := fun _ s => .ok true s
theorem dts_nil {W : WX} : DTs X cA W [] mYes := ⟨_, pts_nil, ⟨fun σ H env st loc Q er R h => h loc H true (Grow.refl _ _ _) R rfl⟩⟩
theorem dts_one {W : WX} {m : MT} (h : DT X cA W e m) : DTs X cA W [e] m := let ⟨t, p, s⟩ := h; ⟨_, pts_one p, s⟩
theorem DTs.pts0 {es : List Expr} {m : MT} (h : DTs X cA W0 es m) : PTs X es (ttOf ⟨X.K, cA⟩ m) := by
  obtain ⟨t, p, s⟩ := h
  exact pts_imp p fun σ H Q ⟨env, st, loc, er, R, q⟩ => s.run σ H env st loc Q er R q
end

/-! ### list comprehensions -/
def wipeE (e : En) : List Nat → En
  | [] => e
  | v :: vs => (wipeE e vs).set v none
theorem wipeE_len (e : En) : ∀ vs, (wipeE e vs).length = e.length
  | [] => rfl
  | v :: vs => by unfold wipeE; rw [List.length_set, wipeE_len e vs]
theorem wipe_get (σ : L2.St) (i : Nat) : ∀ vs : List Nat, (wipe σ vs)[i]? = if i ∈ vs then (if i < σ.length then some none else none) else σ[i]?
  | [] => by simp [wipe]
  | v :: vs => by
    unfold wipe
    by_cases h : v = i
    · subst h
      by_cases hl : v < σ.length
      · rw [List.getElem?_set_self (by rw [wipe_length]; exact hl)]
        simp [hl]
      · rw [List.getElem?_eq_none (by rw [List.length_set, wipe_length]; omega)]
        simp [hl]
    · rw [List.getElem?_set_ne h, wipe_get σ i vs]
      have : (i ∈ v :: vs) ↔ i ∈ vs := by simp [Ne.symm h]
      simp only [this]
theorem wipeE_get (e : En) (i : Nat) : ∀ vs : List Nat, (wipeE e vs)[i]? = if i ∈ vs then (if i < e.length then some none else none) else e[i]?
  | [] => by simp [wipeE]
  | v :: vs => by
    unfold wipeE
    by_cases h : v = i
    · subst h
      by_cases hl : v < e.length
      · rw [List.getElem?_set_self (by rw [wipeE_len]; exact hl)]
        simp [hl]
      · rw [List.getElem?_eq_none (by rw [List.length_set, wipeE_len]; omega)]
        simp [hl]
    · rw [List.getElem?_set_ne h, wipeE_get e i vs]
      have : (i ∈ v :: vs) ↔ i ∈ vs := by simp [Ne.symm h]
      simp only [this]
theorem ER.wipe {K : PySem.W.Frag} {H : Hp} {N : Nat} {loc : Nat → Addr} {env : En} {σ : L2.St} (er : ER K H N loc env σ) (vs : List Nat) : ER K H N loc (wipeE env vs) (L2.wipe σ vs) := by
  refine ⟨by rw [wipeE_len, wipe_length, er.len], fun i d h => ?_⟩
  rw [wipeE_get] at h
  by_cases hi : i ∈ vs
  · rw [if_pos hi] at h
    split at h <;> cases h
  · rw [if_neg hi] at h
    obtain ⟨v, e, r⟩ := er.at_ i d h
    exact ⟨v, by rw [wipe_get, if_neg hi]; exact e, r⟩
theorem wipe_agree {L vs : List Nat} {σ σ' : L2.St} (h : Agree L (wipe σ vs) σ') (hs : ∀ i ∈ L, i ∈ vs) : wipe σ' vs = wipe σ vs := by
  apply List.ext_getElem?
  intro i
  rw [wipe_get, wipe_get]
  have hl : σ'.length = σ.length := by rw [h.1, wipe_length]
  by_cases hi : i ∈ vs
  · rw [if_pos hi, if_pos hi, hl]
  · rw [if_neg hi, if_neg hi, h.2 i fun z => hi (hs i z), wipe_get, if_neg hi]

open Classical in
noncomputable def lcS (c : Chk) (vs : List Nat) (g : MG) (t : MT) (m : ME) (e : En) : List D → List D → Sto → Res (List D)
  | [], acc, s => if Stays c s then .ok acc s else .bad
  | x :: r, acc, s => if Stays c s then (match g x (wipeE e vs) s with
      | .nx e1 s1 => (match t e1 s1 with
        | .ok b s2 => if b = true then (match m e1 s2 with
            | .ok y s3 => lcS c vs g t m e r (acc ++ [y]) s3
            | _ => .bad) else lcS c vs g t m e r acc s2
        | _ => .bad)
      | _ => .bad) else .bad
noncomputable def mLc (vs : List Nat) (i : MI) (g : MG) (t : MT) (m : ME) : ME := fun e s => (i e s).bind fun p s1 => if p.1.length ≤ 100000 then (lcS p.2 vs g t m e p.1 [] s1).bind fun acc s2 => .ok (.ref s2.length) (s2 ++ [.lst acc]) else .bad

theorem post_i {P : Pm} {N : Nat} {loc : Nat → Addr} {H : Hp} {α β : Type} {R' : RA α β} {Q' : β → Hp → Prop} {X : Str → Hp → Prop} {m : Res (List D × Chk)} {f : (List D × Chk) → Sto → Res α} {Q : It → Hp → Prop} (h : Post P R' N loc H Q' X (m.bind f))
    (k : ∀ xs c s loc1 H1 J, Grow N loc H s.length loc1 H1 → Rel P loc1 s H1 → ItR P J xs c s.length loc1 H1 → Post P R' s.length loc1 H1 Q' X (f (xs, c) s) → Q J H1) : PostI P N loc H Q X m := by
  cases m with
  | ok a s =>
    obtain ⟨xs, c⟩ := a
    exact fun loc' H' g R' J v' => k xs c s loc' H' J g R' v' (Post.shift (r := f (xs, c) s) g h)
  | exc c s => exact h
  | bad => exact h

theorem snd_lc {P : Pm} {W : WX} {wi : TI} {mi : MI} {L vs : List Nat} {g : MG} {t : MT} {m : ME} (hi : SndI P W wi mi) (hL : ∀ i ∈ L, i ∈ vs) : SndE P W (tLc wi (tgOf P L g) (ttOf P t) (teOf P m) vs) (mLc vs mi g t m) := by
  refine ⟨fun σ H env st loc Q er R h => ?_⟩
  refine hi.run σ H env st loc _ er R (post_i h fun xs c s1 loc1 H1 J g1 R1 it h1 => ?_)
  intro D0 hD
  by_cases hsz : xs.length ≤ 100000
  · rw [if_pos hsz] at h1
    have h1 : Post P (rD P) s1.length loc1 H1 Q (fun c H' => W (.ref (P.cA c)) none σ H') ((lcS c vs g t m env xs [] s1).bind fun acc s2 => .ok (.ref s2.length) (s2 ++ [.lst acc])) := h1
    have ne1 := R1.ne_new hD
    refine ⟨fun i mm H' => mm = xs.length - i ∧ i ≤ xs.length ∧ ∃ acc ws s2 loc', H' D0 = some (.lst ws) ∧ DRs P.K H' s2.length loc' acc ws ∧ acc.length ≤ i ∧ Rel P loc' s2 H' ∧ (∀ n, n < s2.length → loc' n ≠ D0) ∧ Grow s1.length loc1 H1 s2.length loc' H' ∧
        Post P (rD P) s1.length loc1 H1 Q (fun c H' => W (.ref (P.cA c)) none σ H') ((lcS c vs g t m env (xs.drop i) acc s2).bind fun acc s2 => .ok (.ref s2.length) (s2 ++ [.lst acc])),
      ⟨xs.length, by simp, Nat.zero_le _, [], [], s1, loc1, upd_same, .nil, Nat.le_refl _, R1.new hD, ne1, (Grow.refl _ _ _).off hD, by simpa using h1⟩, ?_⟩
    rintro i mm H2 ⟨rfl, hle, acc, ws, s2, loc2, hD2, racc, hacc, R2, ne2, g2, h2⟩
    have stay : Stays c s2 := by
      by_cases hs : Stays c s2
      · exact hs
      · exfalso
        cases hd : xs.drop i with
        | nil => rw [hd] at h2; unfold lcS at h2; rw [if_neg hs] at h2; exact h2
        | cons _ _ => rw [hd] at h2; unfold lcS at h2; rw [if_neg hs] at h2; exact h2
    obtain ⟨hgo, hstop⟩ := it s2 loc2 H2 g2.low R2 stay
    by_cases hlt : i < xs.length
    · obtain ⟨hg1, hy⟩ := hgo i hlt
      refine .inr ⟨hg1, fun H' => ∃ acc ws s2 loc', H' D0 = some (.lst ws) ∧ DRs P.K H' s2.length loc' acc ws ∧ acc.length ≤ i + 1 ∧ Rel P loc' s2 H' ∧ (∀ n, n < s2.length → loc' n ≠ D0) ∧ Grow s1.length loc1 H1 s2.length loc' H' ∧
        Post P (rD P) s1.length loc1 H1 Q (fun c H' => W (.ref (P.cA c)) none σ H') ((lcS c vs g t m env (xs.drop (i + 1)) acc s2).bind fun acc s2 => .ok (.ref s2.length) (s2 ++ [.lst acc])),
        fun H' z => ⟨xs.length - (i + 1), by omega, rfl, hlt, z⟩, fun x H3 yl => ?_⟩
      obtain ⟨g3, R3, d, hd, rd⟩ := hy x H3 yl
      have hD3 : H3 D0 = some (.lst ws) := g3.gframe _ _ ne2 hD2
      have hdr : xs.drop i = d :: xs.drop (i + 1) := by
        rw [List.drop_eq_getElem_cons hlt]
        have : xs[i] = d := by
          rw [List.getElem?_eq_getElem hlt] at hd
          exact Option.some.inj hd
        rw [this]
      rw [hdr] at h2
      unfold lcS at h2
      rw [if_pos stay] at h2
      have h3 := h2
      have er3 : ER P.K H3 s2.length loc2 (wipeE env vs) (wipe σ vs) := (((er.grow g1).grow g2).grow g3).wipe vs
      cases q1 : g d (wipeE env vs) s2 with
      | nx e1 s3 =>
        simp only [q1] at h3
        refine ⟨d, wipeE env vs, s2, loc2, rd, er3, R3, ?_⟩
        rw [q1]
        intro loc3 H4 σ4 g4 R4 er4 ag
        refine ⟨wipe_agree ag hL, ?_⟩
        have h4 := h3
        have hD4 : H4 D0 = some (.lst ws) := g4.gframe _ _ ne2 hD3
        have ne4 : ∀ n, n < s3.length → loc3 n ≠ D0 := fun n hn => by
          by_cases hn' : n < s2.length
          · rw [g4.gloc n hn']; exact ne2 n hn'
          · intro z
            have e := g4.gfresh n (by omega) hn
            rw [z, hD3] at e; cases e
        refine ⟨e1, s3, loc3, er4, R4, ?_⟩
        cases q2 : t e1 s3 with
        | ok b s4 =>
          simp only [q2] at h4
          intro loc4 H5 b' g5 R5 eb
          cases eb
          have h5 := h4
          have hD5 : H5 D0 = some (.lst ws) := g5.gframe _ _ ne4 hD4
          have ne5 : ∀ n, n < s4.length → loc4 n ≠ D0 := fun n hn => by
            by_cases hn' : n < s3.length
            · rw [g5.gloc n hn']; exact ne4 n hn'
            · intro z
              have e := g5.gfresh n (by omega) hn
              rw [z, hD4] at e; cases e
          by_cases hb : b = true
          · rw [if_pos hb] at h5 ⊢
            refine ⟨e1, s4, loc4, er4.grow g5, R5, ?_⟩
            cases q3 : m e1 s4 with
            | ok y s5 =>
              simp only [q3] at h5
              intro loc5 H6 yv g6 R6 ry
              have h6 := h5
              have hD6 : H6 D0 = some (.lst ws) := g6.gframe _ _ ne5 hD5
              have ne6 : ∀ n, n < s5.length → loc5 n ≠ D0 := fun n hn => by
                by_cases hn' : n < s4.length
                · rw [g6.gloc n hn']; exact ne5 n hn'
                · intro z
                  have e := g6.gfresh n (by omega) hn
                  rw [z, hD5] at e; cases e
              have racc6 : DRs P.K H6 s5.length loc5 acc ws := (((racc.grow g3).grow g4).grow g5).grow g6
              have lo : Low s5.length loc5 H6 s5.length loc5 (upd H6 D0 (.lst (ws ++ [yv]))) := Low.off hD6 (fun _ z => nomatch z) (fun _ _ z => nomatch z) _ _
              have r7 : DRs P.K (upd H6 D0 (.lst (ws ++ [yv]))) s5.length loc5 (acc ++ [y]) (ws ++ [yv]) := DRs.low lo (racc6.append (.cons ry .nil))
              refine ⟨ws, hD6, by rw [← racc.length]; exact Nat.lt_of_le_of_lt hacc (Nat.lt_of_lt_of_le hlt (Nat.le_trans hsz (by decide))), acc ++ [y], ws ++ [yv], s5, loc5, upd_same, r7, by simp; exact hacc, R6.off hD6 (fun _ z => nomatch z) (fun _ _ z => nomatch z) ne6, ne6,
                ((((g2.trans g3).trans g4).trans g5).trans g6).off hD, h6⟩
            | exc c' s' => simp only [q3] at h5; exact h5.elim
            | bad => simp only [q3] at h5; exact h5.elim
          · rw [if_neg hb] at h5 ⊢
            exact ⟨acc, ws, s4, loc4, hD5, ((racc.grow g3).grow g4).grow g5, Nat.le_succ_of_le hacc, R5, ne5, ((g2.trans g3).trans g4).trans g5, h5⟩
        | exc c' s' => simp only [q2] at h4; exact h4.elim
        | bad => simp only [q2] at h4; exact h4.elim
      | ret d s => simp only [q1] at h3; exact h3.elim
      | brk d s => simp only [q1] at h3; exact h3.elim
      | cnt d s => simp only [q1] at h3; exact h3.elim
      | exc d s _ => simp only [q1] at h3; exact h3.elim
      | bad => simp only [q1] at h3; exact h3.elim
    · have e : i = xs.length := by omega
      subst e
      rw [List.drop_length] at h2
      unfold lcS at h2
      rw [if_pos stay] at h2
      refine .inl ⟨hstop, ?_⟩
      have h2 : Post P (rD P) s1.length loc1 H1 Q (fun c H' => W (.ref (P.cA c)) none σ H') (.ok (.ref s2.length) (s2 ++ [.lst acc])) := h2
      have e : (V.ref D0) = .ref (put loc2 s2.length D0 s2.length) := by rw [put_same]
      rw [e]
      exact h2 (put loc2 s2.length D0) H2 _ (by rw [List.length_append]; exact g2.adopt hD) (R2.adopt ne2 ⟨ws, hD2, DRs.low Low.adopt racc⟩) (.ref (by rw [List.length_append]; simp))
  · rw [if_neg hsz] at h1
    exact h1.elim
end Dn
set_option maxRecDepth 100000
namespace Dn
open PySem PySem.Spec PyProof.Rows L2
section
variable {X : Cx} {cA : Str → Addr} {W : WX} {e a b c elt tg iter : Expr} {ifs : List Expr} {es : List Expr} {pos pos' : Pos} {m ma mb : ME} {mt : MT} {mi : MI} {mg : MG} {L : List Nat} {scope : Scope} {own : List (Str × Nat)}
theorem snd_lcP {P : Pm} {wi : TI} (hi : SndI P W wi mi) {vs : List Nat} (hL : ∀ i ∈ L, i ∈ vs) : SndE P W (tLc wi (tgOf P L mg) (ttOf P mt) (teOf P m) vs) (mLc vs mi mg mt m) := snd_lc hi hL
theorem de_lc (own : List (Str × Nat)) (hc : X.calm = true) (hN : X.N.Nodup) (hi : DI X cA W tg iter mi) (ok : BlkOk X.N X.env.scope scope own)
    (hg : ∀ (s : Shared) (H : Hp) (C : Addr) (cl : List (Str × Addr)) (fp : List Addr), DGo (X.blk s H scope (compEnvC scope cl C X.env) fp) cA W0 (some L) tg mg)
    (ht : ∀ (s : Shared) (H : Hp) (C : Addr) (cl : List (Str × Addr)) (fp : List Addr), DTs (X.blk s H scope (compEnvC scope cl C X.env) fp) cA W0 ifs mt)
    (he : ∀ (s : Shared) (H : Hp) (C : Addr) (cl : List (Str × Addr)) (fp : List Addr), DE (X.blk s H scope (compEnvC scope cl C X.env) fp) cA W0 elt m)
    (hL : ∀ i ∈ L, i ∈ own.map (·.2) := by decide) (hs : ∀ x, foldedSetIterable iter X.env x = pure x := by intro _; rfl) :
    DE X cA W (.ListComp elt [⟨tg, iter, ifs, 0⟩] scope pos) (mLc (own.map (·.2)) mi mg mt m) := by
  obtain ⟨wi, p1, s1⟩ := hi
  exact ⟨_, pe_lc hc hN p1 ok (g := tgOf ⟨X.K, cA⟩ L mg) (tt := ttOf ⟨X.K, cA⟩ mt) (te := teOf ⟨X.K, cA⟩ m) (fun s H C cl fp => (hg s H C cl fp).pg0) (fun s H C cl fp => (ht s H C cl fp).pts0) (fun s H C cl fp => (he s H C cl fp).pe0) hs, snd_lcP s1 hL⟩
/-- name = [..] -/
theorem ds_setLc (i : Nat) (own : List (Str × Nat)) {y : Str} {py : Pos} {spos : Pos} (hc : X.calm = true) (hN : X.N.Nodup) (hi : DI X cA W tg iter mi) (ok : BlkOk X.N X.env.scope scope own)
    (hg : ∀ (s : Shared) (H : Hp) (C : Addr) (cl : List (Str × Addr)) (fp : List Addr), DGo (X.blk s H scope (compEnvC scope cl C X.env) fp) cA W0 (some L) tg mg)
    (ht : ∀ (s : Shared) (H : Hp) (C : Addr) (cl : List (Str × Addr)) (fp : List Addr), DTs (X.blk s H scope (compEnvC scope cl C X.env) fp) cA W0 ifs mt)
    (he : ∀ (s : Shared) (H : Hp) (C : Addr) (cl : List (Str × Addr)) (fp : List Addr), DE (X.blk s H scope (compEnvC scope cl C X.env) fp) cA W0 elt m)
    (hy : X.N[i]? = some y := by rfl) (hyl : X.env.scope.names.lookup y = some .local := by rfl)
    (hsw : swapsWith (.ListComp elt [⟨tg, iter, ifs, 0⟩] scope pos) (some (.Name y py)) spos.line X.env = pure true := by exact sw_true rfl rfl rfl (by decide +kernel))
    (hL : ∀ i ∈ L, i ∈ own.map (·.2) := by decide) (hs : ∀ x, foldedSetIterable iter X.env x = pure x := by intro _; rfl) :
    DS X cA W (.Assign [.Name y py] (.ListComp elt [⟨tg, iter, ifs, 0⟩] scope pos) spos) (mSet i (mLc (own.map (·.2)) mi mg mt m)) := by
  obtain ⟨wi, p1, s1⟩ := hi
  refine ⟨_, ps_setLc hc hN hy hyl hsw p1 ok (g := tgOf ⟨X.K, cA⟩ L mg) (tt := ttOf ⟨X.K, cA⟩ mt) (te := teOf ⟨X.K, cA⟩ m) (fun s H C cl fp => (hg s H C cl fp).pg0) (fun s H C cl fp => (ht s H C cl fp).pts0) (fun s H C cl fp => (he s H C cl fp).pe0) hs, ⟨fun D σ H env s loc er R h => ?_⟩⟩
  refine (snd_lcP s1 hL).run σ H env s loc _ er R (posts_bind (P := ⟨X.K, cA⟩) er h fun d s' loc1 H1 v g R1 r h1 => ?_)
  exact h1 loc1 H1 (σ.set i (some v)) (Grow.refl _ _ _) R1 ((er.grow g).set i r)

/-! ### what is walked -/
def iSeq (K : PySem.W.Frag) (tl : TE) : TI := fun σ H R => tl σ H fun x H1 => ∃ a, x = .ref a ∧ (((∃ xs, SqL K H1 a xs) ∧ R (Itl K a) H1) ∨ ((∃ xs, SqT K H1 a xs) ∧ R (Itt K a) H1))
theorem pi_seq {l : Expr} {tl : TE} (hl : PE X l tl) : PI X tg l (iSeq X.K tl) := by
  refine ⟨fun pins s σ H R I h => ?_⟩
  refine thn (hl.run pins s σ H _ I h) fun v s1 ⟨x, H1, I1, r1, q1⟩ => ?_
  obtain ⟨a, e, q⟩ := q1
  subst e
  cases r1
  rcases q with ⟨⟨xs, hq⟩, q⟩ | ⟨⟨xs, hq⟩, q⟩
  · obtain ⟨its, rv, p, hz⟩ := I1.list hq
    refine wpAny_pyIter_list p.isList ?_
    refine ⟨s1.heap.objs.size, [s1.heap.objs.size], _, _, H1, rfl, I1.kept (t' := s1.toks) fun b o e => Heap.get?_push_of_some _ e, turn_list a _, ⟨_, Heap.get?_push_size _ rfl, rfl, rfl⟩, fun b hb => ?_, q⟩
    have e : b = s1.heap.objs.size := by simpa using hb
    subst e
    exact I1.fpOk (Nat.le_refl _) (I1.hok.fresh (Nat.le_refl _))
  · obtain ⟨its, rv, p, hz⟩ := I1.tuple hq
    refine wpAny_pyIter_tuple (show s1.heap.IsTuple a its.toArray from p) ?_
    refine ⟨s1.heap.objs.size, [s1.heap.objs.size], _, _, H1, rfl, I1.kept (t' := s1.toks) fun b o e => Heap.get?_push_of_some _ e, turn_tuple a _, ⟨_, Heap.get?_push_size _ rfl, rfl, rfl⟩, fun b hb => ?_, q⟩
    have e : b = s1.heap.objs.size := by simpa using hb
    subst e
    exact I1.fpOk (Nat.le_refl _) (I1.hok.fresh (Nat.le_refl _))
/-- the items of a value that is walked -/
def fIter (d : D) (s : Sto) : Option ((List D × Chk) × Sto) := match d with
  | .ref n => (rdL s n).map fun xs => ((xs, [(n, xs)]), s)
  | .tup xs => some ((xs, []), s)
  | .fz xs => some ((xs, []), s)
  | _ => none
def mIter (m : ME) : MI := fun e s => (m e s).bind fun d s1 => up (fIter d s1)
theorem rdL_some {s : Sto} {n : Nat} {xs : List D} (h : rdL s n = some xs) : s[n]? = some (.lst xs) := by
  unfold rdL at h
  split at h
  · rename_i ys e
    cases h
    exact e
  · cases h
theorem Rel.list {P : Pm} {loc : Nat → Addr} {st : Sto} {H : Hp} (R : Rel P loc st H) {n : Nat} {xs : List D} (h : rdL st n = some xs) : n < st.length ∧ ∃ vs, H (loc n) = some (.lst vs) ∧ DRs P.K H st.length loc xs vs :=
  ⟨(List.getElem?_eq_some_iff.mp (rdL_some h)).1, R.ob n _ (rdL_some h)⟩
theorem itr_list {P : Pm} {n : Nat} {xs : List D} {N : Nat} {loc : Nat → Addr} {H : Hp} (hn : n < N) : ItR P (Itl P.K (loc n)) xs [(n, xs)] N loc H := by
  intro st loc1 H1 g R hs
  have hs : rdL st n = some xs := hs (n, xs) (by simp)
  obtain ⟨h1, vs, e, r⟩ := R.list hs
  rw [g.gloc n hn] at e
  have sq : SqL P.K H1 (loc n) vs := SqL.of e
  have uq : ∀ ys, SqL P.K H1 (loc n) ys → (∃ u, H1 (loc n) = some u ∧ u = .lst ys) ∨ True := fun _ _ => .inr trivial
  refine ⟨fun i hi => ⟨⟨vs, vs[i]'(by rw [← r.length]; exact hi), sq, List.getElem?_eq_getElem _⟩, fun x H2 y => ?_⟩, ⟨vs, sq, by rw [r.length]; exact Nat.le_refl _⟩⟩
  obtain ⟨e2, f⟩ := y
  subst e2
  refine ⟨Grow.refl _ _ _, R, ?_⟩
  obtain ⟨d, hd, rd⟩ := r.getV (f vs sq)
  exact ⟨d, hd, rd⟩
theorem itr_fz {P : Pm} {p : Addr} {xs : List D} {N : Nat} {loc : Nat → Addr} {H : Hp} {vs : List V} (h : SqF P.K H p vs) (r : DRs P.K H N loc xs vs) : ItR P (Itl P.K p) xs [] N loc H := by
  intro st loc1 H1 g R hs
  have sq : SqL P.K H1 p vs := (sqF_low g h).sq
  have r := r.low g
  refine ⟨fun i hi => ⟨⟨vs, vs[i]'(by rw [← r.length]; exact hi), sq, List.getElem?_eq_getElem _⟩, fun x H2 y => ?_⟩, ⟨vs, sq, by rw [r.length]; exact Nat.le_refl _⟩⟩
  obtain ⟨e2, f⟩ := y
  subst e2
  obtain ⟨d, hd, rd⟩ := r.getV (f vs sq)
  exact ⟨Grow.refl _ _ _, R, d, hd, rd⟩
theorem itr_tup {P : Pm} {p : Addr} {xs : List D} {N : Nat} {loc : Nat → Addr} {H : Hp} {vs : List V} (h : SqT P.K H p vs) (r : DRs P.K H N loc xs vs) : ItR P (Itt P.K p) xs [] N loc H := by
  intro st loc1 H1 g R hs
  have sq : SqT P.K H1 p vs := sqT_low g h
  have r := r.low g
  refine ⟨fun i hi => ⟨⟨vs, vs[i]'(by rw [← r.length]; exact hi), sq, List.getElem?_eq_getElem _⟩, fun x H2 y => ?_⟩, ⟨vs, sq, by rw [r.length]; exact Nat.le_refl _⟩⟩
  obtain ⟨e2, f⟩ := y
  subst e2
  obtain ⟨d, hd, rd⟩ := r.getV (f vs sq)
  exact ⟨Grow.refl _ _ _, R, d, hd, rd⟩
theorem di_seq (h : DE X cA W iter m) : DI X cA W tg iter (mIter m) := by
  obtain ⟨te, p, s⟩ := h
  refine ⟨_, pi_seq p, ⟨fun σ H env st loc Q er R h => ?_⟩⟩
  refine s.run σ H env st loc _ er R ?_
  unfold mIter at h
  cases q : m env st with
  | exc c s' => rw [q] at h; exact h
  | bad => rw [q] at h; exact h
  | ok d s1 =>
    rw [q] at h
    intro loc1 H1 v g1 R1 r
    have h : PostI ⟨X.K, cA⟩ st.length loc H Q _ (up (fIter d s1)) := h
    cases d with
    | ref n =>
      unfold fIter at h
      cases q2 : rdL s1 n with
      | none => simp only [q2] at h; exact h.elim
      | some xs =>
        simp only [q2] at h
        have r : DR X.K H1 s1.length loc1 (.ref n) v := r
        cases r with
        | ref hn =>
          obtain ⟨_, vs, e, _⟩ := R1.list q2
          exact ⟨loc1 n, rfl, .inl ⟨⟨vs, SqL.of e⟩, h loc1 H1 g1 R1 _ (itr_list hn)⟩⟩
    | tup xs =>
      have r : DR X.K H1 s1.length loc1 (.tup xs) v := r
      cases r with
      | tup hs hr => exact ⟨_, rfl, .inr ⟨⟨_, hs⟩, h loc1 H1 g1 R1 _ (itr_tup hs hr)⟩⟩
    | fz xs =>
      have r : DR X.K H1 s1.length loc1 (.fz xs) v := r
      cases r with
      | fz hs hr => exact ⟨_, rfl, .inl ⟨⟨_, hs.sq⟩, h loc1 H1 g1 R1 _ (itr_fz hs hr)⟩⟩
    | non => exact h.elim
    | bl _ => exact h.elim
    | int _ => exact h.elim
    | str _ => exact h.elim
/-- lo, lo + 1, .. -/
def rng (lo : Int) (n : Nat) : List D := (List.range n).map fun i => D.int (lo + (i : Nat))
theorem itr_rng {P : Pm} {lo : Int} {n : Nat} {N : Nat} {loc : Nat → Addr} {H : Hp} : ItR P (Itr lo n) (rng lo n) [] N loc H := by
  intro st loc1 H1 g R hs
  have hl : (rng lo n).length = n := by unfold rng; simp
  refine ⟨fun i hi => ⟨hl ▸ hi, fun x H2 y => ?_⟩, by rw [hl]; exact Nat.le_refl _⟩
  obtain ⟨e2, e3⟩ := y
  subst e2 e3
  refine ⟨Grow.refl _ _ _, R, .int (lo + (i : Nat)), ?_, .int _⟩
  unfold rng
  rw [List.getElem?_map, List.getElem?_range (hl ▸ hi)]
  rfl
def fRng (ds : List D) (s : Sto) : Option ((List D × Chk) × Sto) := match ds with
  | [.int j] => if -(2 ^ 62) ≤ j ∧ j < 2 ^ 62 then some ((rng 0 j.toNat, []), s) else none
  | [.int i, .int j] => if -(2 ^ 62) ≤ i ∧ i < 2 ^ 62 ∧ -(2 ^ 62) ≤ j ∧ j < 2 ^ 62 then some ((rng i (j - i).toNat, []), s) else none
  | _ => none
def mRng (a : MA) : MI := fun e s => (a e s).bind fun ds s1 => up (fRng ds s1)
theorem di_range1 {p pos : Pos} (hm : X.mg "range" = none) (ha : DE X cA W a ma) (hg : Gl X "range" := by rfl) (hs : starEach [a] X.env = [(false, eval a X.env)] := by rfl) :
    DI X cA W tg (.Call (.Name "range" p) [a] [] pos) (mRng (mCons ma mNil)) := by
  obtain ⟨te, p, s⟩ := ha
  refine ⟨_, pi_range1 hg hm (pa_cons p pa_nil hs) hs, ⟨fun σ H env st loc Q er R h => ?_⟩⟩
  refine s.run σ H env st loc _ er R ?_
  unfold mRng mCons mNil at h
  cases q : ma env st with
  | exc c s' => rw [q] at h; exact h
  | bad => rw [q] at h; exact h
  | ok d s1 =>
    rw [q] at h
    intro loc1 H1 v g1 R1 r
    have h : PostI ⟨X.K, cA⟩ st.length loc H Q _ (up (fRng [d] s1)) := h
    cases d with
    | int j =>
      have r : DR X.K H1 s1.length loc1 (.int j) v := r
      cases r
      unfold fRng at h
      by_cases hj : -(2 ^ 62) ≤ j ∧ j < 2 ^ 62
      · simp only [if_pos hj] at h
        exact ⟨j, rfl, hj.1, hj.2, h loc1 H1 g1 R1 _ itr_rng⟩
      · simp only [if_neg hj] at h; exact h.elim
    | _ => exact h.elim
theorem di_range2 {p pos : Pos} (hm : X.mg "range" = none) (ha : DE X cA W a ma) (hb : DE X cA W b mb) (hg : Gl X "range" := by rfl) (hs : starEach [a, b] X.env = [(false, eval a X.env), (false, eval b X.env)] := by rfl)
    (hs2 : starEach [b] X.env = [(false, eval b X.env)] := by rfl) : DI X cA W tg (.Call (.Name "range" p) [a, b] [] pos) (mRng (mCons ma (mCons mb mNil))) := by
  obtain ⟨ta, p1, s1⟩ := ha
  obtain ⟨tb, p2, s2⟩ := hb
  refine ⟨_, pi_range2 hg hm (pa_cons p1 (pa_cons p2 pa_nil hs2) (by rw [hs, hs2])) hs hs2, ⟨fun σ H env st loc Q er R h => ?_⟩⟩
  refine s1.run σ H env st loc _ er R ?_
  unfold mRng mCons mNil at h
  cases q : ma env st with
  | exc c s' => rw [q] at h; exact h
  | bad => rw [q] at h; exact h
  | ok d s1 =>
    rw [q] at h
    intro loc1 H1 v g1 R1 r
    refine s2.run σ H1 env s1 loc1 _ (er.grow g1) R1 ?_
    simp only [Res.bind] at h
    cases q2 : mb env s1 with
    | exc c s' => rw [q2] at h; exact fun loc2 H2 g2 R2 => h loc2 H2 (g1.trans g2) R2
    | bad => rw [q2] at h; exact h
    | ok d2 s2' =>
      rw [q2] at h
      intro loc2 H2 v2 g2 R2 r2
      have h : PostI ⟨X.K, cA⟩ st.length loc H Q _ (up (fRng [d, d2] s2')) := h
      cases d with
      | int i =>
        cases d2 with
        | int j =>
          have r : DR X.K H1 s1.length loc1 (.int i) v := r
          have r2 : DR X.K H2 s2'.length loc2 (.int j) v2 := r2
          cases r
          cases r2
          unfold fRng at h
          by_cases hj : -(2 ^ 62) ≤ i ∧ i < 2 ^ 62 ∧ -(2 ^ 62) ≤ j ∧ j < 2 ^ 62
          · simp only [if_pos hj] at h
            exact ⟨i, j, rfl, hj, h loc2 H2 (g1.trans g2) R2 _ itr_rng⟩
          · simp only [if_neg hj] at h; exact h.elim
        | _ => exact h.elim
      | _ => exact h.elim

/-! ### own defs -/
/-- a def's promise, from its mirror -/
def spM (P : Pm) (np : Nat) (F : List D → Sto → Res D) : Sp := fun vs H Q E => vs.length = np ∧ ∃ loc st ds, Rel P loc st H ∧ DRs P.K H st.length loc ds vs ∧ Post P (rD P) st.length loc H Q (fun c H' => E (.ref (P.cA c)) none H') (F ds st)
def mCall (F : List D → Sto → Res D) (a : MA) : ME := fun e s => (a e s).bind fun ds s1 => F ds s1
theorem snd_call {P : Pm} {np : Nat} {F : List D → Sto → Res D} {ta : TA} {a : MA} (ha : SndA P W ta a) (hn : ∀ e s ds s1, a e s = .ok ds s1 → ds.length = np) : SndE P W (tCallS (spM P np F) (WE W) ta) (mCall F a) := by
  refine ⟨fun σ H env st loc Q er R h => ?_⟩
  unfold mCall at h
  refine ha.run σ H env st loc _ er R ?_
  cases q : a env st with
  | exc c s' => rw [q] at h; exact h
  | bad => rw [q] at h; exact h
  | ok ds s1 =>
    rw [q] at h
    intro loc1 H1 vs g1 R1 r
    have r : DRs P.K H1 s1.length loc1 ds vs := r
    exact ⟨by rw [← r.length]; exact hn _ _ _ _ q, loc1, s1, ds, R1, r, Post.shift (r := F ds s1) g1 h⟩
theorem len_nil {e : En} {s : Sto} {ds : List D} {s1 : Sto} (h : mNil e s = .ok ds s1) : ds.length = 0 := by
  cases h; rfl
theorem len_cons {r : MA} {n : Nat} (k : ∀ e s ds s1, r e s = .ok ds s1 → ds.length = n) : ∀ e s ds s1, mCons m r e s = .ok ds s1 → ds.length = n + 1 := by
  intro e s ds s1 h
  unfold mCons at h
  cases q : m e s with
  | exc c s' => rw [q] at h; cases h
  | bad => rw [q] at h; cases h
  | ok d s2 =>
    rw [q] at h
    simp only [Res.bind] at h
    cases q2 : r e s2 with
    | exc c s' => rw [q2] at h; cases h
    | bad => rw [q2] at h; cases h
    | ok ds' s3 =>
      rw [q2] at h
      cases h
      simp [k _ _ _ _ q2]
/-- what callers know of a def x of np parameters -/
structure FnH (P : Program) (w : World) (K : PySem.W.Frag) (mg : Str → Option Value) (base : Heap) (cA : Str → Addr) (x : Str) (np k : Nat) (F : List D → Sto → Res D) : Prop where
  ex : ∃ (f : Addr) (fd : FuncData) (ps : List Str), mg x = some (.ref f) ∧ PySem.W.keepIn K (.ref f) = true ∧ Binds K fd ps [] ∧ FnOk P w K mg base (L2.CX P w) k f fd ps (spM ⟨K, cA⟩ np F)
theorem de_call {x : Str} {p : Pos} {np k j : Nat} {F : List D → Sto → Res D} {ms : MA} (h : FnH X.prog X.w X.K X.mg X.base cA x np k F) (tk : Takes X W) (hr : Room j X.A) (hk : k ≤ j) (ha : DA X cA W (e :: es) ms) (hn : ∀ e s ds s1, ms e s = .ok ds s1 → ds.length = np)
    (hg : Gl X x := by rfl) (hdb : (x == ("__debug__" : Str)) = false := by decide) (he : starEach (e :: es) X.env = (false, eval e X.env) :: starEach es X.env := by rfl) (hpl : (backTo pos (starEach es X.env)).any (·.1) = false := by rfl) :
    DE X cA W (.Call (.Name x p) (e :: es) [] pos) (mCall F ms) := by
  obtain ⟨f, fd, ps, hm, kp, hb, F'⟩ := h
  obtain ⟨ta, p1, s1⟩ := ha
  exact ⟨_, pe_callS F' (hr.mono hk) hg hm kp hb (fun σ => passAt tk σ) p1 hdb he hpl, snd_call s1 hn⟩

/-! ### raise -/
def mRaise (c : Str) : MS := fun e s => .exc c e s
/-- what is known of an exception class of the text -/
structure ExH (K : PySem.W.Frag) (mg : Str → Option Value) (cA : Str → Addr) (x : Str) : Prop where
  g : mg x = some (.ref (cA x))
  kp : PySem.W.keepIn K (.ref (cA x)) = true
  xp : PySem.W.excIn K (cA x) [.type "ValueError", .type "Exception", .type "BaseException", .type "object"] "ValueError.__new__" = true
  sb : PySem.W.subIn K (.ref (cA x)) (.type "BaseException") = some true
  ty : PySem.W.typeIn K (.ref (cA x)) = some (.type "type")
theorem ds_raise {x : Str} {z : Str} {j : Nat} {p p2 : Pos} (h : ExH X.K X.mg cA x) (tk : Takes X W) (hc : X.calm = true) (hg : Gl X x := by rfl) (hdb : (x == ("__debug__" : Str)) = false := by decide) :
    DS X cA W (.Raise (some (.Call (.Name x p) [.Constant (.str z) j p2] [] pos)) none pos') (mRaise x) := by
  refine ⟨_, ps_raise hc tk (pmk_own PySem.F.excBase_ValueError h.xp h.g h.kp (raises_own h.sb h.ty) hg hdb), ⟨fun D σ H env s loc er R h => ?_⟩⟩
  exact h loc H σ (Grow.refl _ _ _) R er
end

/-! ### THE RULE for a def -/
/-- what the body's end gives the caller -/
def retR : SR → Res D
  | .nx _ s => .ok .non s
  | .ret d s => .ok d s
  | .exc c _ s => .exc c s
  | _ => .bad
/-- the mirror's answer follows from the body's: by fewer objects, in other places -/
def renD (ρ : Nat → Nat) : D → D
  | .non => .non
  | .bl b => .bl b
  | .int i => .int i
  | .str x => .str x
  | .tup ds => .tup (renDs ρ ds)
  | .fz ds => .fz (renDs ρ ds)
  | .ref n => .ref (ρ n)
where renDs (ρ : Nat → Nat) : List D → List D
  | [] => []
  | d :: ds => renD ρ d :: renDs ρ ds
def wfD (N : Nat) : D → Prop
  | .tup ds => wfDs N ds
  | .fz ds => wfDs N ds
  | .ref n => n < N
  | _ => True
where wfDs (N : Nat) : List D → Prop
  | [] => True
  | d :: ds => wfD N d ∧ wfDs N ds
def renF {κ : Type} (ρ : Nat → Nat) : List (κ × D) → List (κ × D)
  | [] => []
  | (f, d) :: r => (f, renD ρ d) :: renF ρ r
def wfF {κ : Type} (N : Nat) : List (κ × D) → Prop
  | [] => True
  | (_, d) :: r => wfD N d ∧ wfF N r
def renO (ρ : Nat → Nat) : Ob → Ob
  | .lst xs => .lst (renD.renDs ρ xs)
  | .ins c fs => .ins c (renF ρ fs)
  | .dk fs => .dk (renF ρ fs)
  | .dt fs => .dt (renF ρ fs)
  | .ex c => .ex c
def wfO (N : Nat) : Ob → Prop
  | .lst xs => wfD.wfDs N xs
  | .ins _ fs => wfF N fs
  | .dk fs => wfF N fs
  | .dt fs => wfF N fs
  | .ex _ => True
structure Ren (b : Nat) (s0 s : Sto) (ρ : Nat → Nat) : Prop where
  le : b ≤ s.length
  lo : ∀ n, n < b → ρ n = n
  hi : ∀ n, b ≤ n → n < s.length → b ≤ ρ n
  lt : ∀ n, n < s.length → ρ n < s0.length
  inj : ∀ n m, n < s.length → m < s.length → ρ n = ρ m → n = m
  ob : ∀ n o, s[n]? = some o → s0[ρ n]? = some (renO ρ o) ∧ wfO s.length o
def Fin (b : Nat) : Res D → Res D → Prop
  | r0, .ok d s => ∃ s0 ρ, Ren b s0 s ρ ∧ r0 = .ok (renD ρ d) s0 ∧ wfD s.length d
  | r0, .exc c s => ∃ s0 ρ, Ren b s0 s ρ ∧ r0 = .exc c s0
  | _, .bad => True
section
variable {K : PySem.W.Frag} {H : Hp} {N : Nat} {loc : Nat → Addr} {s0 s : Sto} {ρ : Nat → Nat} {b : Nat}
mutual
theorem DR.ren (hN : ∀ n, n < s.length → True) : ∀ (d : D) {v : V}, wfD s.length d → DR K H N loc (renD ρ d) v → DR K H s.length (loc ∘ ρ) d v
  | .non, _, _, h => by simp only [renD] at h; cases h; exact .non
  | .bl b, _, _, h => by simp only [renD] at h; cases h; exact .bl b
  | .int b, _, _, h => by simp only [renD] at h; cases h; exact .int b
  | .str b, _, _, h => by simp only [renD] at h; cases h; exact .str b
  | .tup ds, _, w, h => by
    simp only [renD] at h
    simp only [wfD] at w
    cases h with
    | tup h1 h2 => exact .tup h1 (DRs.ren hN ds w h2)
  | .fz ds, _, w, h => by
    simp only [renD] at h
    simp only [wfD] at w
    cases h with
    | fz h1 h2 => exact .fz h1 (DRs.ren hN ds w h2)
  | .ref n, _, w, h => by
    simp only [renD] at h
    simp only [wfD] at w
    cases h with
    | ref h1 => exact DR.ref (loc := loc ∘ ρ) w
theorem DRs.ren (hN : ∀ n, n < s.length → True) : ∀ (d : List D) {v : List V}, wfD.wfDs s.length d → DRs K H N loc (renD.renDs ρ d) v → DRs K H s.length (loc ∘ ρ) d v
  | [], _, _, h => by simp only [renD.renDs] at h; cases h; exact .nil
  | d :: ds, _, w, h => by
    simp only [renD.renDs] at h
    simp only [wfD.wfDs] at w
    cases h with
    | cons h1 h2 => exact .cons (DR.ren hN d w.1 h1) (DRs.ren hN ds w.2 h2)
end
theorem FRs.ren {κ : Type} : ∀ (d : List (κ × D)) {v : List (κ × V)}, wfF s.length d → FRs K H N loc (renF ρ d) v → FRs K H s.length (loc ∘ ρ) d v
  | [], _, _, h => by simp only [renF] at h; cases h; exact .nil
  | (f, d) :: ds, _, w, h => by
    simp only [renF] at h
    simp only [wfF] at w
    cases h with
    | cons h1 h2 => exact .cons (DR.ren (fun _ _ => trivial) d w.1 h1) (FRs.ren ds w.2 h2)
theorem Rel.ren {P : Pm} (R : Rel P loc s0 H) (r : Ren b s0 s ρ) : Rel P (loc ∘ ρ) s H := by
  refine ⟨fun n o e => ?_, fun n m hn hm z => r.inj n m hn hm (R.inj _ _ (r.lt n hn) (r.lt m hm) z)⟩
  obtain ⟨e1, w⟩ := r.ob n o e
  have q := R.ob _ _ e1
  cases o with
  | lst xs =>
    obtain ⟨vs, e2, r2⟩ := q
    exact ⟨vs, e2, DRs.ren (fun _ _ => trivial) xs w r2⟩
  | ins c fs =>
    obtain ⟨dx, gs, e2, r2⟩ := q
    exact ⟨dx, gs, e2, FRs.ren fs w r2⟩
  | dk fs =>
    obtain ⟨gs, e2, r2⟩ := q
    exact ⟨gs, e2, FRs.ren fs w r2⟩
  | dt fs =>
    obtain ⟨gs, e2, r2⟩ := q
    exact ⟨gs, e2, FRs.ren fs w r2⟩
  | ex c => exact q
theorem Grow.ren {loc0 : Nat → Addr} {H0 : Hp} (g : Grow b loc0 H0 s0.length loc H) (r : Ren b s0 s ρ) : Grow b loc0 H0 s.length (loc ∘ ρ) H where
  gle := r.le
  gloc := fun n hn => by
    show loc (ρ n) = _
    rw [r.lo n hn]
    exact g.gloc n hn
  gfresh := fun n h1 h2 => g.gfresh (ρ n) (r.hi n h1 h2) (r.lt n h2)
  gframe := g.gframe
  gtup := g.gtup
  gfrz := g.gfrz
  gdom := g.gdom
theorem Post.fin {P : Pm} {Q : VK} {X : Str → Hp → Prop} {H0 : Hp} {loc0 : Nat → Addr} {r0 r : Res D} (h : Post P (rD P) b loc0 H0 Q X r) (f : Fin b r0 r) : Post P (rD P) b loc0 H0 Q X r0 := by
  cases r with
  | ok d s =>
    obtain ⟨s0, ρ, rn, e, w⟩ := f
    subst e
    exact fun loc' H' v g R rd => h (loc' ∘ ρ) H' v (g.ren rn) (R.ren rn) (DR.ren (fun _ _ => trivial) d w rd)
  | exc c s =>
    obtain ⟨s0, ρ, rn, e⟩ := f
    subst e
    exact fun loc' H' g R => h (loc' ∘ ρ) H' (g.ren rn) (R.ren rn)
  | bad => exact h.elim
end
def wfS (s : Sto) : Prop := ∀ (n : Nat) (o : Ob), s[n]? = some o → wfO s.length o
def startE (n : Nat) (ds : List D) : En := ds.map some ++ List.replicate (n - ds.length) none
mutual
theorem DR.wf {K : PySem.W.Frag} {H : Hp} {N : Nat} {loc : Nat → Addr} : ∀ {d : D} {v : V}, DR K H N loc d v → wfD N d
  | _, _, .non => trivial
  | _, _, .bl b => trivial
  | _, _, .int i => trivial
  | _, _, .str x => trivial
  | _, _, .tup _ hs => by simp only [wfD]; exact DRs.wf hs
  | _, _, .fz _ hs => by simp only [wfD]; exact DRs.wf hs
  | _, _, .ref h => by simp only [wfD]; exact h
theorem DRs.wf {K : PySem.W.Frag} {H : Hp} {N : Nat} {loc : Nat → Addr} : ∀ {d : List D} {v : List V}, DRs K H N loc d v → wfD.wfDs N d
  | _, _, .nil => trivial
  | _, _, .cons h hs => by simp only [wfD.wfDs]; exact ⟨DR.wf h, DRs.wf hs⟩
end
theorem FRs.wf {κ : Type} {K : PySem.W.Frag} {H : Hp} {N : Nat} {loc : Nat → Addr} : ∀ {d : List (κ × D)} {v : List (κ × V)}, FRs K H N loc d v → wfF N d
  | _, _, .nil => trivial
  | _, _, .cons h hs => by simp only [wfF]; exact ⟨DR.wf h, FRs.wf hs⟩
theorem Rel.wf {P : Pm} {loc : Nat → Addr} {st : Sto} {H : Hp} (R : Rel P loc st H) : wfS st := fun n o e => by
  have q := R.ob n o e
  cases o with
  | lst xs =>
    obtain ⟨vs, _, r⟩ := q
    simp only [wfO]
    exact r.wf
  | ins c fs =>
    obtain ⟨_, vs, _, r⟩ := q
    simp only [wfO]
    exact r.wf
  | dk fs =>
    obtain ⟨vs, _, r⟩ := q
    simp only [wfO]
    exact r.wf
  | dt fs =>
    obtain ⟨vs, _, r⟩ := q
    simp only [wfO]
    exact r.wf
  | ex c => trivial
theorem er_start {K : PySem.W.Frag} {H : Hp} {N : Nat} {loc : Nat → Addr} {ds : List D} {vs : List V} {NN : List Str} (r : DRs K H N loc ds vs) : ER K H N loc (startE NN.length ds) (L2.start NN vs) := by
  unfold startE L2.start
  refine ⟨by simp [r.length], fun i d h => ?_⟩
  by_cases hi : i < ds.length
  · rw [List.getElem?_append_left (by simpa using hi), List.getElem?_map] at h
    rw [List.getElem?_append_left (by simpa using r.length ▸ hi), List.getElem?_map]
    cases e : ds[i]? with
    | none => rw [e] at h; cases h
    | some d' =>
      rw [e] at h
      cases h
      obtain ⟨v, e2, r2⟩ := r.get e
      exact ⟨v, by rw [e2]; rfl, r2⟩
  · rw [List.getElem?_append_right (by simp; omega), List.getElem?_replicate] at h
    split at h <;> cases h
section
variable {P : Program} {w : World} {K : PySem.W.Frag} {mg : Str → Option Value} {base : Heap} {cA : Str → Addr}
theorem def_ok {x qual : Str} {st : Stmt} {f : Addr} {fd : FuncData} {N ps : List Str} {k np : Nat} {m : MS} {F : List D → Sto → Res D} (Fu : Fun K x qual st f fd) (S : FnScope N ps (defScope st)) (hps : ps.length = np)
    (hb : ∀ (cdv : Value) (A : Around) (outer : List Env) (s : Shared) (H : Hp) (E : XK), Room k (A.deeper (envOfC qual (defScope st) s.heap.objs.size f cdv)) →
      Takes (cxOf (L2.CX P w) P w K mg base N qual (defScope st) f cdv A outer s H E) (fun c d _ H => E c d H) →
      PassesOwn (model P w) (A.deeper (envOfC qual (defScope st) s.heap.objs.size f cdv)) (envOfC qual (defScope st) s.heap.objs.size f cdv) (cxOf (L2.CX P w) P w K mg base N qual (defScope st) f cdv A outer s H E).xe →
      DSs (cxOf (L2.CX P w) P w K mg base N qual (defScope st) f cdv A outer s H E) cA (fun c d _ H => E c d H) (defBody st) m)
    (hm : ∀ ds st0, ds.length = np → wfS st0 → wfD.wfDs st0.length ds → Fin st0.length (retR (m (startE N.length ds) st0)) (F ds st0)) : FnOk P w K mg base (L2.CX P w) (k + 1) f fd ps (spM ⟨K, cA⟩ np F) := by
  refine Fu.okX S (fun vs H Q E h => by rw [hps]; exact h.1) (fun cdv A outer s H vs Q E hr h => ?_)
  obtain ⟨hl, loc, st0, ds, R, r, post⟩ := h
  obtain ⟨t, p, sn⟩ := hb cdv A outer s H E hr (takes_of rfl rfl rfl rfl) (passes_of rfl)
  refine ⟨t, p, ?_⟩
  have hd : ds.length = np := by rw [r.length, hl]
  have pf := post.fin (hm ds st0 hd R.wf r.wf)
  refine sn.run _ (L2.start N vs) H (startE N.length ds) st0 loc (er_start r) R ?_
  revert pf
  cases m (startE N.length ds) st0 with
  | nx e s => exact fun pf loc' H' σ' g R' er => pf loc' H' .non g R' .non
  | ret d s => exact fun pf loc' H' v g R' rd => pf loc' H' v g R' rd
  | brk e s => exact fun pf => pf.elim
  | cnt e s => exact fun pf => pf.elim
  | exc c e s => exact fun pf loc' H' σ' g R' er => pf loc' H' g R'
  | bad => exact fun pf => pf.elim
end
end Dn
set_option maxRecDepth 100000
namespace Dn
open PySem PySem.Spec PyProof.Rows L2

/-! ### values as data, == -/
mutual
def toPy (s : Sto) : Nat → D → Option PyData
  | 0, _ => none
  | _ + 1, .non => some .none
  | _ + 1, .bl b => some (.bool b)
  | _ + 1, .int i => some (.int i)
  | _ + 1, .str x => some (.str x)
  | k + 1, .tup ds => (toPys s k ds).map .tuple
  | k + 1, .fz ds => (toPys s k ds).map .list
  | k + 1, .ref n => match rdL s n with
    | some xs => (toPys s k xs).map .list
    | none => none
def toPys (s : Sto) : Nat → List D → Option (List PyData)
  | 0, _ => none
  | _ + 1, [] => some []
  | k + 1, d :: ds => match toPy s k d, toPys s k ds with
    | some p, some ps => some (p :: ps)
    | _, _ => none
end
section
variable {P : Pm} {H : Hp} {loc : Nat → Addr} {st : Sto}
theorem toPy_dp (R : Rel P loc st H) : ∀ (k : Nat), (∀ d v p, DR P.K H st.length loc d v → toPy st k d = some p → Dp P.K H v p) ∧ (∀ ds vs ps, DRs P.K H st.length loc ds vs → toPys st k ds = some ps → DpAll P.K H vs ps) := by
  intro k
  induction k with
  | zero => exact ⟨fun d v p _ h => (by simp [toPy] at h), fun d v p _ h => (by simp [toPys] at h)⟩
  | succ k ih =>
    refine ⟨fun d v p r h => ?_, fun ds vs ps r h => ?_⟩
    · cases r with
      | non => simp only [toPy] at h; cases h; exact .non
      | bl b => simp only [toPy] at h; cases h; exact .bl b
      | int b => simp only [toPy] at h; cases h; exact .int b
      | str b => simp only [toPy] at h; cases h; exact .str b
      | tup h1 h2 =>
        simp only [toPy, Option.map_eq_some_iff] at h
        obtain ⟨ps, e, rfl⟩ := h
        exact .tup h1 (ih.2 _ _ _ h2 e)
      | fz h1 h2 =>
        simp only [toPy, Option.map_eq_some_iff] at h
        obtain ⟨ps, e, rfl⟩ := h
        exact .lst h1.sq (ih.2 _ _ _ h2 e)
      | @ref n hn =>
        simp only [toPy] at h
        cases q : rdL st n with
        | none => simp only [q] at h; cases h
        | some xs =>
          simp only [q, Option.map_eq_some_iff] at h
          obtain ⟨ps, e, rfl⟩ := h
          obtain ⟨_, vs, e2, r2⟩ := R.list q
          exact .lst (SqL.of e2) (ih.2 _ _ _ r2 e)
    · cases r with
      | nil => simp only [toPys] at h; cases h; exact .nil
      | @cons d v ds vs h1 h2 =>
        simp only [toPys] at h
        cases q1 : toPy st k d with
        | none => simp only [q1] at h; cases h
        | some p =>
          cases q2 : toPys st k ds with
          | none => simp only [q1, q2] at h; cases h
          | some ps' =>
            simp only [q1, q2] at h
            cases h
            exact .cons (ih.1 _ _ _ h1 q1) (ih.2 _ _ _ h2 q2)
end
def eqD (s : Sto) (x y : D) : Option Bool := match toPy s 100002 x, toPy s 100002 y with
  | some a, some b => if SeqAt.shaped a = true ∧ SeqAt.shaped b = true then some (PyData.eqv a b) else none
  | _, _ => none
def fEq : F2 := fun x y s => (eqD s x y).map fun b => (.bl b, s)
def fNe : F2 := fun x y s => (eqD s x y).map fun b => (.bl (!b), s)
theorem eqD_some {s : Sto} {x y : D} {b : Bool} (h : eqD s x y = some b) : ∃ p q, toPy s 100002 x = some p ∧ toPy s 100002 y = some q ∧ SeqAt.shaped p = true ∧ SeqAt.shaped q = true ∧ PyData.eqv p q = b := by
  unfold eqD at h
  split at h
  · rename_i a c e1 e2
    by_cases q : SeqAt.shaped a = true ∧ SeqAt.shaped c = true
    · rw [if_pos q] at h
      cases h
      exact ⟨a, c, e1, e2, q.1, q.2, rfl⟩
    · rw [if_neg q] at h; cases h
  · cases h
section
variable {P : Pm} {X : Cx}
theorem s2_eq : Snd2 P (rEqD P.K) fEq := by
  refine ⟨fun H st loc x y vx vy d st' Q R rx ry h k => ?_⟩
  unfold fEq at h
  cases q : eqD st x y with
  | none => rw [q] at h; cases h
  | some b =>
    rw [q] at h
    cases h
    obtain ⟨p, p', e1, e2, s1, s2, e⟩ := eqD_some q
    refine ⟨p, p', (toPy_dp R 100002).1 _ _ _ rx e1, (toPy_dp R 100002).1 _ _ _ ry e2, s1, s2, ?_⟩
    rw [e]
    exact k loc H _ (Grow.refl _ _ _) R (.bl b)
theorem s2_ne : Snd2 P (rNeD P.K) fNe := by
  refine ⟨fun H st loc x y vx vy d st' Q R rx ry h k => ?_⟩
  unfold fNe at h
  cases q : eqD st x y with
  | none => rw [q] at h; cases h
  | some b =>
    rw [q] at h
    cases h
    obtain ⟨p, p', e1, e2, s1, s2, e⟩ := eqD_some q
    refine ⟨p, p', (toPy_dp R 100002).1 _ _ _ rx e1, (toPy_dp R 100002).1 _ _ _ ry e2, s1, s2, ?_⟩
    rw [e]
    exact k loc H _ (Grow.refl _ _ _) R (.bl _)

/-! ### in a list of data, in a tuple of flat things -/
def anyEq (s : Sto) (x y : D) : Option Bool := match toPy s 100002 x, toPy s 100002 y with
  | some a, some (.list ds) => if SeqAt.shaped a = true ∧ SeqAt.shaped (.list ds) = true then some (ds.any fun z => PyData.eqv z a) else none
  | some a, some (.tuple ds) => if SeqAt.shaped a = true ∧ SeqAt.shaped (.tuple ds) = true then some (ds.any fun z => PyData.eqv z a) else none
  | _, _ => none
def isTupD : D → Bool
  | .tup _ => true
  | _ => false
def fIn : F2 := fun x y s => if isTupD y = true then none else (anyEq s x y).map fun b => (.bl b, s)
def fNotIn : F2 := fun x y s => if isTupD y = true then none else (anyEq s x y).map fun b => (.bl (!b), s)
theorem anyEq_list {s : Sto} {x y : D} {b : Bool} (h : anyEq s x y = some b) (hy : isTupD y = false) : ∃ p ds, toPy s 100002 x = some p ∧ toPy s 100002 y = some (.list ds) ∧ SeqAt.shaped p = true ∧ SeqAt.shaped (.list ds) = true ∧ (ds.any fun z => PyData.eqv z p) = b := by
  unfold anyEq at h
  split at h
  · rename_i a ds e1 e2
    by_cases q : SeqAt.shaped a = true ∧ SeqAt.shaped (.list ds) = true
    · rw [if_pos q] at h
      cases h
      exact ⟨a, ds, e1, e2, q.1, q.2, rfl⟩
    · rw [if_neg q] at h; cases h
  · rename_i a ds e1 e2
    exfalso
    cases y with
    | tup _ => cases hy
    | fz ds => simp only [toPy, Option.map_eq_some_iff] at e2; obtain ⟨_, _, z⟩ := e2; cases z
    | ref n =>
      simp only [toPy] at e2
      split at e2
      · simp only [Option.map_eq_some_iff] at e2; obtain ⟨_, _, z⟩ := e2; cases z
      · cases e2
    | _ => simp only [toPy] at e2; cases e2
  · cases h
theorem s2_in : Snd2 P (rInD P.K) fIn := by
  refine ⟨fun H st loc x y vx vy d st' Q R rx ry h k => ?_⟩
  unfold fIn at h
  by_cases ht : isTupD y = true
  · rw [if_pos ht] at h; cases h
  rw [if_neg ht] at h
  cases q : anyEq st x y with
  | none => rw [q] at h; cases h
  | some b =>
    rw [q] at h
    cases h
    obtain ⟨p, p', e1, e2, s1, s2, e⟩ := anyEq_list q (by simpa using ht)
    refine ⟨p, p', (toPy_dp R 100002).1 _ _ _ rx e1, (toPy_dp R 100002).1 _ _ _ ry e2, s1, s2, ?_⟩
    rw [e]
    exact k loc H _ (Grow.refl _ _ _) R (.bl b)
theorem s2_notIn : Snd2 P (rNotInD P.K) fNotIn := by
  refine ⟨fun H st loc x y vx vy d st' Q R rx ry h k => ?_⟩
  unfold fNotIn at h
  by_cases ht : isTupD y = true
  · rw [if_pos ht] at h; cases h
  rw [if_neg ht] at h
  cases q : anyEq st x y with
  | none => rw [q] at h; cases h
  | some b =>
    rw [q] at h
    cases h
    obtain ⟨p, p', e1, e2, s1, s2, e⟩ := anyEq_list q (by simpa using ht)
    refine ⟨p, p', (toPy_dp R 100002).1 _ _ _ rx e1, (toPy_dp R 100002).1 _ _ _ ry e2, s1, s2, ?_⟩
    rw [e]
    exact k loc H _ (Grow.refl _ _ _) R (.bl _)

/-! ### arithmetic -/
theorem opR_or {f : Value → Value → Sem Value} {r r' : R2} (h : OpR X f r) (h' : OpR X f r') : OpR X f (fun x y H Q => r x y H Q ∨ r' x y H Q) := by
  intro pins s σ H x y v u Q I rx ry q
  rcases q with q | q
  · exact h pins s σ H x y v u Q I rx ry q
  · exact h' pins s σ H x y v u Q I rx ry q
abbrev rStrCat : R2 := fun x y H Q => ∃ i j, x = .str i ∧ y = .str j ∧ i.length + j.length ≤ sizeLine ∧ Q (.str (i ++ j)) H
abbrev rAddA (K : PySem.W.Frag) : R2 := fun x y H Q => (rI0 fun i j => .int (i + j)) x y H Q ∨ (rCat x y H Q ∨ (rStrCat x y H Q ∨ rCatT K x y H Q))
theorem op_addA : OpR X (binaryOp .Add) (rAddA X.K) := opR_or op_add (opR_or op_cat (opR_or op_add_str op_catT))
def fAdd : F2 := fun x y s => match x, y with
  | .int i, .int j => some (.int (i + j), s)
  | .str a, .str b => if a.length + b.length ≤ 100000 then some (.str (a ++ b), s) else none
  | .ref n, .ref m => match rdL s n, rdL s m with
    | some xs, some ys => if xs.length + ys.length ≤ 100000 then some (.ref s.length, s ++ [.lst (xs ++ ys)]) else none
    | _, _ => none
  | .tup xs, .tup ys => if xs ≠ [] ∧ xs.length + ys.length ≤ 100000 then some (.tup (xs ++ ys), s) else none
  | _, _ => none
theorem lay_k {H : Hp} {loc : Nat → Addr} {st : Sto} {xs : List D} {vs : List V} {Q : VK} (R : Rel P loc st H) (r : DRs P.K H st.length loc xs vs)
    (k : ∀ loc' H' v, Grow st.length loc H (st ++ [Ob.lst xs]).length loc' H' → Rel P loc' (st ++ [.lst xs]) H' → DR P.K H' (st ++ [Ob.lst xs]).length loc' (.ref st.length) v → Q v H') : ∀ p, H p = none → Q (.ref p) (upd H p (.lst vs)) := fun p hp => by
  have e : (V.ref p) = .ref (put loc st.length p st.length) := by rw [put_same]
  rw [e]
  exact k (put loc st.length p) _ _ (by rw [List.length_append]; exact Grow.lay hp _ _) (R.lay hp r) (.ref (by rw [List.length_append]; simp))
theorem drs_nil {K : PySem.W.Frag} {H : Hp} {N : Nat} {loc : Nat → Addr} {ds : List D} {vs : List V} (r : DRs K H N loc ds vs) : ds = [] ↔ vs = [] := by
  cases r <;> simp
theorem s2_add : Snd2 P (rAddA P.K) fAdd := by
  refine ⟨fun H st loc x y vx vy d st' Q R rx ry h k => ?_⟩
  unfold fAdd at h
  split at h
  · rename_i i j
    cases h; cases rx; cases ry
    exact .inl ⟨i, j, rfl, rfl, k loc H _ (Grow.refl _ _ _) R (.int _)⟩
  · rename_i a b
    by_cases c : a.length + b.length ≤ 100000
    · rw [if_pos c] at h
      cases h; cases rx; cases ry
      exact .inr (.inr (.inl ⟨a, b, rfl, rfl, sz_of c, k loc H _ (Grow.refl _ _ _) R (.str _)⟩))
    · rw [if_neg c] at h; cases h
  · rename_i n m
    cases rx; cases ry
    cases q1 : rdL st n with
    | none => simp only [q1] at h; cases h
    | some xs =>
      cases q2 : rdL st m with
      | none => simp only [q1, q2] at h; cases h
      | some ys =>
        simp only [q1, q2] at h
        by_cases c : xs.length + ys.length ≤ 100000
        · rw [if_pos c] at h
          cases h
          obtain ⟨_, vs, e1, r1⟩ := R.list q1
          obtain ⟨_, ws, e2, r2⟩ := R.list q2
          exact .inr (.inl ⟨_, _, vs, ws, rfl, rfl, e1, e2, by rw [← r1.length, ← r2.length]; exact sz_of c, lay_k R (r1.append r2) k⟩)
        · rw [if_neg c] at h; cases h
  · rename_i xs ys
    by_cases c : xs ≠ [] ∧ xs.length + ys.length ≤ 100000
    · rw [if_pos c] at h
      cases h
      cases rx with
      | @tup p _ vs h1 r1 =>
        cases ry with
        | @tup p' _ ws h2 r2 =>
          refine .inr (.inr (.inr ⟨p, p', vs, ws, rfl, rfl, h1, h2, fun z => c.1 ((drs_nil r1).mpr z), by rw [← r1.length, ← r2.length]; exact sz_of c.2, fun z => ?_, fun z q hq => ?_⟩))
          · have e : ys = [] := (drs_nil r2).mpr z
            subst e
            rw [List.append_nil] at k
            exact k loc H _ (Grow.refl _ _ _) R (.tup h1 r1)
          · exact k loc _ _ (Grow.new hq _ _) (R.new hq) (.tup (SqT.of upd_same) ((r1.append r2).grow (Grow.new hq _ _)))
    · rw [if_neg c] at h; cases h
  · cases h
def fSub : F2 := fun x y s => match x, y with
  | .int i, .int j => some (.int (i - j), s)
  | _, _ => none
theorem s2_sub : Snd2 P (rI0 fun i j => .int (i - j)) fSub := by
  refine ⟨fun H st loc x y vx vy d st' Q R rx ry h k => ?_⟩
  unfold fSub at h
  split at h
  · rename_i i j
    cases h; cases rx; cases ry
    exact ⟨i, j, rfl, rfl, k loc H _ (Grow.refl _ _ _) R (.int _)⟩
  · cases h
def fMul : F2 := fun x y s => match x, y with
  | .int i, .int j => if (-(2 ^ 64) < i ∧ i < 2 ^ 64) ∨ (-(2 ^ 64) < j ∧ j < 2 ^ 64) then some (.int (i * j), s) else none
  | .ref n, .int j => match rdL s n with
    | some xs => if -(2 ^ 63) ≤ j ∧ j < 2 ^ 63 ∧ xs.length * j.toNat ≤ 100000 then some (.ref s.length, s ++ [.lst (List.replicate j.toNat xs).flatten]) else none
    | none => none
  | _, _ => none
abbrev rMulA : R2 := fun x y H Q => (rI CMul fun i j => .int (i * j)) x y H Q ∨ rRep x y H Q
theorem op_mulA : OpR X (binaryOp .Mult) rMulA := opR_or op_mul op_rep
theorem drs_rep {K : PySem.W.Frag} {H : Hp} {N : Nat} {loc : Nat → Addr} {ds : List D} {vs : List V} (r : DRs K H N loc ds vs) : ∀ k : Nat, DRs K H N loc (List.replicate k ds).flatten (List.replicate k vs).flatten
  | 0 => .nil
  | k + 1 => by
    rw [List.replicate_succ, List.replicate_succ, List.flatten_cons, List.flatten_cons]
    exact r.append (drs_rep r k)
theorem s2_mul : Snd2 P rMulA fMul := by
  refine ⟨fun H st loc x y vx vy d st' Q R rx ry h k => ?_⟩
  unfold fMul at h
  split at h
  · rename_i i j
    split at h
    · rename_i c
      cases h; cases rx; cases ry
      exact .inl ⟨i, j, rfl, rfl, c, k loc H _ (Grow.refl _ _ _) R (.int _)⟩
    · cases h
  · rename_i n j
    cases rx; cases ry
    cases q1 : rdL st n with
    | none => simp only [q1] at h; cases h
    | some xs =>
      simp only [q1] at h
      split at h
      · rename_i c
        cases h
        obtain ⟨_, vs, e1, r1⟩ := R.list q1
        exact .inr ⟨_, j, vs, rfl, rfl, e1, c.1, c.2.1, by rw [← r1.length]; exact sz_of c.2.2, lay_k R (drs_rep r1 _) k⟩
      · cases h
  · cases h
def fMod : F2 := fun x y s => match x, y with
  | .int i, .int j => if 0 < j then some (.int (i % j), s) else none
  | _, _ => none
theorem s2_mod : Snd2 P (rI (fun _ j => 0 < j) fun i j => .int (i % j)) fMod := by
  refine ⟨fun H st loc x y vx vy d st' Q R rx ry h k => ?_⟩
  unfold fMod at h
  split at h
  · rename_i i j
    split at h
    · rename_i c
      cases h; cases rx; cases ry
      exact ⟨i, j, rfl, rfl, c, k loc H _ (Grow.refl _ _ _) R (.int _)⟩
    · cases h
  · cases h
def fDiv : F2 := fun x y s => match x, y with
  | .int i, .int j => if 0 < j ∧ j < 1073741824 then some (.int (i / j), s) else none
  | _, _ => none
theorem s2_div : Snd2 P (rI CDiv fun i j => .int (i / j)) fDiv := by
  refine ⟨fun H st loc x y vx vy d st' Q R rx ry h k => ?_⟩
  unfold fDiv at h
  split at h
  · rename_i i j
    split at h
    · rename_i c
      cases h; cases rx; cases ry
      exact ⟨i, j, rfl, rfl, c, k loc H _ (Grow.refl _ _ _) R (.int _)⟩
    · cases h
  · cases h
def fPow : F2 := fun x y s => match x, y with
  | .int i, .int j => if 0 ≤ j ∧ j ≤ 1000000 ∧ i.natAbs < 2 ^ 64 then some (.int (i ^ j.toNat), s) else none
  | _, _ => none
theorem s2_pow : Snd2 P (rI CPow fun i j => .int (i ^ j.toNat)) fPow := by
  refine ⟨fun H st loc x y vx vy d st' Q R rx ry h k => ?_⟩
  unfold fPow at h
  split at h
  · rename_i i j
    split at h
    · rename_i c
      cases h; cases rx; cases ry
      exact ⟨i, j, rfl, rfl, c, k loc H _ (Grow.refl _ _ _) R (.int _)⟩
    · cases h
  · cases h
def fCmp (p : Int → Int → Bool) : F2 := fun x y s => match x, y with
  | .int i, .int j => some (.bl (p i j), s)
  | _, _ => none
theorem s2_cmp {p : Int → Int → Bool} : Snd2 P (rI0 fun i j => .bl (p i j)) (fCmp p) := by
  refine ⟨fun H st loc x y vx vy d st' Q R rx ry h k => ?_⟩
  unfold fCmp at h
  split at h
  · rename_i i j
    cases h; cases rx; cases ry
    exact ⟨i, j, rfl, rfl, k loc H _ (Grow.refl _ _ _) R (.bl _)⟩
  · cases h
abbrev fLt : F2 := fCmp fun i j => decide (i < j)
abbrev fLe : F2 := fCmp fun i j => decide (i ≤ j)
abbrev fGt : F2 := fCmp fun i j => decide (j < i)
abbrev fGe : F2 := fCmp fun i j => decide (j ≤ i)
def isNonD : D → Bool
  | .non => true
  | _ => false
def fIs : F2 := fun x y s => if isNonD y = true then some (.bl (isNonD x), s) else none
def fIsNot : F2 := fun x y s => if isNonD y = true then some (.bl (!isNonD x), s) else none
theorem isNon_v {K : PySem.W.Frag} {H : Hp} {N : Nat} {loc : Nat → Addr} {d : D} {v : V} (r : DR K H N loc d v) : decide (v = .non) = isNonD d := by
  cases r <;> simp [isNonD]
theorem s2_is : Snd2 P (fun x y H Q => y = .non ∧ Q (.bl (decide (x = .non))) H) fIs := by
  refine ⟨fun H st loc x y vx vy d st' Q R rx ry h k => ?_⟩
  unfold fIs at h
  split at h
  · rename_i c
    cases h
    rw [← isNon_v ry] at c
    refine ⟨of_decide_eq_true c, ?_⟩
    rw [isNon_v rx]
    exact k loc H _ (Grow.refl _ _ _) R (.bl _)
  · cases h
theorem s2_isnot : Snd2 P (fun x y H Q => y = .non ∧ Q (.bl (!decide (x = .non))) H) fIsNot := by
  refine ⟨fun H st loc x y vx vy d st' Q R rx ry h k => ?_⟩
  unfold fIsNot at h
  split at h
  · rename_i c
    cases h
    rw [← isNon_v ry] at c
    refine ⟨of_decide_eq_true c, ?_⟩
    rw [isNon_v rx]
    exact k loc H _ (Grow.refl _ _ _) R (.bl _)
  · cases h
def fNeg : F1 := fun x s => match x with
  | .int i => some (.int (-i), s)
  | _ => none
theorem s1_neg : Snd1 P (rU fun i => .int (-i)) fNeg := by
  refine ⟨fun H st loc x vx d st' Q R rx h k => ?_⟩
  unfold fNeg at h
  split at h
  · rename_i i
    cases h; cases rx
    exact ⟨i, rfl, k loc H _ (Grow.refl _ _ _) R (.int _)⟩
  · cases h

/-! ### items, slices -/
/-- the items of a list, a tuple, a list that stands still -/
def seqD (s : Sto) : D → Option (List D)
  | .ref n => rdL s n
  | .tup xs => some xs
  | .fz xs => some xs
  | _ => none
theorem seqD_sq {H : Hp} {loc : Nat → Addr} {st : Sto} {x : D} {v : V} {xs : List D} (R : Rel P loc st H) (r : DR P.K H st.length loc x v) (h : seqD st x = some xs) : ∃ p vs, v = .ref p ∧ (SqL P.K H p vs ∨ SqT P.K H p vs) ∧ DRs P.K H st.length loc xs vs := by
  cases r with
  | @ref n hn =>
    obtain ⟨_, vs, e, r⟩ := R.list (show rdL st n = some xs from h)
    exact ⟨_, vs, rfl, .inl (SqL.of e), r⟩
  | tup h1 h2 => cases h; exact ⟨_, _, rfl, .inr h1, h2⟩
  | fz h1 h2 => cases h; exact ⟨_, _, rfl, .inl h1.sq, h2⟩
  | _ => cases h
def fIdx : F2 := fun x y s => match y with
  | .int i => match seqD s x with
    | some xs => (atI xs i).map fun d => (d, s)
    | none => none
  | _ => none
abbrev rIxA (K : PySem.W.Frag) : R2 := fun x y H Q => rIxL K x y H Q ∨ rIxT K x y H Q
theorem ix_A : IxR X (rIxA X.K) := ix_list.or ix_tup
theorem atI_drs {K : PySem.W.Frag} {H : Hp} {N : Nat} {loc : Nat → Addr} {ds : List D} {vs : List V} {i : Int} {d : D} (r : DRs K H N loc ds vs) (h : atI ds i = some d) : ∃ v, atI vs i = some v ∧ DR K H N loc d v := by
  unfold atI at h ⊢
  rw [← r.length]
  cases q : ixN ds.length i with
  | none => rw [q] at h; cases h
  | some j =>
    rw [q] at h
    obtain ⟨v, e, r2⟩ := r.get (show ds[j]? = some d from h)
    exact ⟨v, e, r2⟩
theorem s2_idx : Snd2 P (rIxA P.K) fIdx := by
  refine ⟨fun H st loc x y vx vy d st' Q R rx ry h k => ?_⟩
  unfold fIdx at h
  split at h
  · rename_i i
    cases ry
    cases q : seqD st x with
    | none => simp only [q] at h; cases h
    | some xs =>
      simp only [q, Option.map_eq_some_iff] at h
      obtain ⟨d', e, e2⟩ := h
      cases e2
      obtain ⟨p, vs, rfl, hs, r⟩ := seqD_sq R rx q
      obtain ⟨v, e3, r3⟩ := atI_drs r e
      rcases hs with hs | hs
      · exact .inl ⟨p, vs, i, v, rfl, rfl, hs, e3, k loc H v (Grow.refl _ _ _) R r3⟩
      · exact .inr ⟨p, vs, i, v, rfl, rfl, hs, e3, k loc H v (Grow.refl _ _ _) R r3⟩
  · cases h
theorem de_idx {cA : Str → Addr} {W : WX} {a b : Expr} {ma mb : ME} {pos : Pos} (ha : DE X cA W a ma) (hb : DE X cA W b mb) (hs : PlainIx b := by intro _ _; rfl) : DE X cA W (.Subscript a b pos) (mOp fIdx ma mb) := by
  obtain ⟨ta, p1, s1⟩ := ha
  obtain ⟨tb, p2, s2⟩ := hb
  exact ⟨_, pe_ix ix_A p1 p2 hs, snd_op s2_idx s1 s2⟩
def cutD (xs : List D) (lo hi : Option Int) : List D := (xs.drop (HT.sIx xs.length 0 lo)).take (HT.sIx xs.length xs.length hi - HT.sIx xs.length 0 lo)
/-- a part of a slice -/
abbrev MO := En → Sto → Res (Option Int)
def mNoP : MO := fun _ s => .ok none s
def mPart (m : ME) : MO := fun e s => match m e s with
  | .ok (.int i) s1 => .ok (some i) s1
  | .exc c s1 => .exc c s1
  | _ => .bad
structure SndO (P : Pm) (W : WX) (te : TO) (m : MO) : Prop where
  run : ∀ σ H env st loc Q, ER P.K H st.length loc env σ → Rel P loc st H → Post P rO st.length loc H Q (fun c H' => W (.ref (P.cA c)) none σ H') (m env st) → te σ H Q
structure DO (X : Cx) (cA : Str → Addr) (W : WX) (e : Option Expr) (m : MO) : Prop where
  ex : ∃ te, PO X e te ∧ SndO ⟨X.K, cA⟩ W te m
theorem do_none {cA : Str → Addr} {W : WX} : DO X cA W none mNoP := ⟨_, po_none, ⟨fun σ H env st loc Q er R h => h loc H none (Grow.refl _ _ _) R rfl⟩⟩
theorem do_some {cA : Str → Addr} {W : WX} {a : Expr} {m : ME} (ha : DE X cA W a m) : DO X cA W (some a) (mPart m) := by
  obtain ⟨ta, p1, s1⟩ := ha
  refine ⟨_, po_some p1, ⟨fun σ H env st loc Q er R h => ?_⟩⟩
  refine s1.run σ H env st loc _ er R ?_
  unfold mPart at h
  cases q : m env st with
  | ok d s =>
    rw [q] at h
    cases d with
    | int i =>
      intro loc' H' v g R' r
      cases r
      exact ⟨i, rfl, h loc' H' _ g R' rfl⟩
    | _ => exact h.elim
  | exc c s => rw [q] at h; exact h
  | bad => rw [q] at h; exact h
def mSlice (a : ME) (lo hi : MO) : ME := fun e s => (a e s).bind fun x s1 => (lo e s1).bind fun l s2 => (hi e s2).bind fun u s3 => match x with
  | .ref n => match rdL s3 n with
    | some xs => .ok (.ref s3.length) (s3 ++ [.lst (cutD xs l u)])
    | none => .bad
  | .fz xs => .ok (.ref s3.length) (s3 ++ [.lst (cutD xs l u)])
  | _ => .bad
theorem cut_drs {K : PySem.W.Frag} {H : Hp} {N : Nat} {loc : Nat → Addr} {ds : List D} {vs : List V} (r : DRs K H N loc ds vs) (lo hi : Option Int) : DRs K H N loc (cutD ds lo hi) (cutV vs lo hi) := by
  unfold cutD cutV
  rw [r.length]
  exact (r.drop _).take _
theorem de_slice {cA : Str → Addr} {W : WX} {a : Expr} {lo hi : Option Expr} {ma : ME} {ml mh : MO} {p2 pos : Pos} (ha : DE X cA W a ma) (hl : DO X cA W lo ml) (hh : DO X cA W hi mh) : DE X cA W (.Subscript a (.Slice lo hi none p2) pos) (mSlice ma ml mh) := by
  obtain ⟨ta, p1, s1⟩ := ha
  obtain ⟨tl, q1, t1⟩ := hl
  obtain ⟨th, q2, t2⟩ := hh
  refine ⟨_, pe_slice sl_list p1 q1 q2, ⟨fun σ H env st loc Q er R h => ?_⟩⟩
  refine s1.run σ H env st loc _ er R (post_bind h fun x s1' loc1 H1 v g1 R1 d1 h1 => ?_)
  refine t1.run σ H1 env s1' loc1 _ (er.grow g1) R1 (post_bind (R := rO) h1 fun l s2 loc2 H2 l' g2 R2 d2 h2 => ?_)
  refine t2.run σ H2 env s2 loc2 _ ((er.grow g1).grow g2) R2 (post_bind (R := rO) h2 fun u s3 loc3 H3 u' g3 R3 d3 h3 => ?_)
  cases d2; cases d3
  have d1 : DR X.K H3 s3.length loc3 x v := DR.grow g3 (DR.grow g2 d1)
  cases x with
  | ref n =>
    cases d1
    cases q : rdL s3 n with
    | none => simp only [q] at h3; exact h3.elim
    | some xs =>
      simp only [q] at h3
      obtain ⟨_, vs, e, r⟩ := R3.list q
      exact ⟨_, vs, rfl, SqL.of e, lay_k R3 (cut_drs r l u) h3⟩
  | fz xs =>
    cases d1 with
    | fz hs hr => exact ⟨_, _, rfl, hs.sq, lay_k R3 (cut_drs hr l u) h3⟩
  | _ => exact h3.elim
/-- xs[::-1] -/
def mRev (a : ME) : ME := fun e s => (a e s).bind fun x s1 => match x with
  | .ref n => match rdL s1 n with
    | some xs => .ok (.ref s1.length) (s1 ++ [.lst xs.reverse])
    | none => .bad
  | _ => .bad
end
end Dn
set_option maxRecDepth 100000
namespace Dn
open PySem PySem.Spec PyProof.Rows L2

/-! ### built-in functions -/
section
variable {P : Pm} {X : Cx} {cA : Str → Addr} {W : WX} {e : Expr} {es : List Expr} {ms : MA}
def mFn (f : FL) (a : MA) : ME := fun e s => (a e s).bind fun xs s1 => up (f xs s1)
theorem snd_fn {r : List V → Hp → VK → Prop} {f : FL} {ta : TA} (hf : SndL P r f) (ha : SndA P W ta ms) : SndE P W (tCB r ta) (mFn f ms) := by
  refine ⟨fun σ H env st loc Q er R h => ?_⟩
  refine ha.run σ H env st loc _ er R (post_bind h fun x s1 loc1 H1 v g1 R1 d1 h1 => ?_)
  cases q : f x s1 with
  | none => rw [q] at h1; exact h1.elim
  | some p =>
    obtain ⟨d, s3⟩ := p
    rw [q] at h1
    exact hf.run H1 s1 loc1 x v d s3 Q R1 d1 q h1
theorem de_fn {x : Str} {id : String} {r : List V → Hp → VK → Prop} {f : FL} {p pos : Pos} (hc : CallR X (.builtin id) r) (hf : SndL ⟨X.K, cA⟩ r f) (hm : X.mg x = none) (ha : DA X cA W (e :: es) ms) (hv : bootBuiltins x = some (.builtin id) := by decide +kernel) (hg : Gl X x := by rfl)
    (hn : x ≠ "__name__" := by decide) (hdb : (x == ("__debug__" : Str)) = false := by decide) (he : starEach (e :: es) X.env = (false, eval e X.env) :: starEach es X.env := by rfl) (hpl : (backTo pos (starEach es X.env)).any (·.1) = false := by rfl) :
    DE X cA W (.Call (.Name x p) (e :: es) [] pos) (mFn f ms) := by
  obtain ⟨ta, p1, s1⟩ := ha
  exact ⟨_, pe_callB hc hg hm hv p1 hn hdb he hpl, snd_fn hf s1⟩
theorem de_ty {x : Str} {T : String} {r : List V → Hp → VK → Prop} {f : FL} {p pos : Pos} (hc : CallR X (.type T) r) (hf : SndL ⟨X.K, cA⟩ r f) (hm : X.mg x = none) (ha : DA X cA W (e :: es) ms) (hv : bootBuiltins x = some (.type T) := by decide +kernel) (hg : Gl X x := by rfl)
    (hn : x ≠ "__name__" := by decide) (hdb : (x == ("__debug__" : Str)) = false := by decide) (he : starEach (e :: es) X.env = (false, eval e X.env) :: starEach es X.env := by rfl) (hpl : (backTo pos (starEach es X.env)).any (·.1) = false := by rfl) :
    DE X cA W (.Call (.Name x p) (e :: es) [] pos) (mFn f ms) := by
  obtain ⟨ta, p1, s1⟩ := ha
  exact ⟨_, pe_callTy hc hg hm hv p1 hn hdb he hpl, snd_fn hf s1⟩

theorem callR_or {f : Value} {r r' : List V → Hp → VK → Prop} (h : CallR X f r) (h' : CallR X f r') : CallR X f (fun xs H Q => r xs H Q ∨ r' xs H Q) := by
  intro pins s σ H xs us Q I rs q
  rcases q with q | q
  · exact h pins s σ H xs us Q I rs q
  · exact h' pins s σ H xs us Q I rs q

/-- len -/
def fLen : FL := fun xs s => match xs with
  | [.str z] => if z.length ≤ 100000 then some (.int z.length, s) else none
  | [x] => (seqD s x).map fun ys => (.int ys.length, s)
  | _ => none
abbrev rLenA (K : PySem.W.Frag) : List V → Hp → VK → Prop := fun xs H Q => (∃ p ys, xs = [.ref p] ∧ (SqL K H p ys ∨ SqT K H p ys) ∧ Q (.int ys.length) H) ∨ ∃ z, xs = [.str z] ∧ z.length ≤ sizeLine ∧ Q (.int z.length) H
theorem call_lenA : CallR X (.builtin "len") (rLenA X.K) := callR_or call_len_seq call_len_str
theorem drs1 {K : PySem.W.Frag} {H : Hp} {N : Nat} {loc : Nat → Addr} {d : D} {vs : List V} (r : DRs K H N loc [d] vs) : ∃ v, vs = [v] ∧ DR K H N loc d v := by
  cases r with
  | cons h t => cases t; exact ⟨_, rfl, h⟩
theorem drs2 {K : PySem.W.Frag} {H : Hp} {N : Nat} {loc : Nat → Addr} {d e : D} {vs : List V} (r : DRs K H N loc [d, e] vs) : ∃ v w, vs = [v, w] ∧ DR K H N loc d v ∧ DR K H N loc e w := by
  cases r with
  | cons h t => obtain ⟨w, rfl, k⟩ := drs1 t; exact ⟨_, w, rfl, h, k⟩
theorem sl_len : SndL P (rLenA P.K) fLen := by
  refine ⟨fun H st loc xs vs d st' Q R r h k => ?_⟩
  unfold fLen at h
  split at h
  · rename_i z
    split at h
    · rename_i c
      cases h
      obtain ⟨v, rfl, rv⟩ := drs1 r
      cases rv
      exact .inr ⟨z, rfl, sz_of c, k loc H _ (Grow.refl _ _ _) R (.int _)⟩
    · cases h
  · rename_i x _
    simp only [Option.map_eq_some_iff] at h
    obtain ⟨ys, e, e2⟩ := h
    cases e2
    obtain ⟨v, rfl, rv⟩ := drs1 r
    obtain ⟨p, ws, rfl, hs, rr⟩ := seqD_sq R rv e
    refine .inl ⟨p, ws, rfl, hs, ?_⟩
    rw [← rr.length]
    exact k loc H _ (Grow.refl _ _ _) R (.int _)
  · cases h
/-- int of an int or a bool -/
def fInt : FL := fun xs s => match xs with
  | [.int i] => some (.int i, s)
  | [.bl b] => some (.int (if b = true then 1 else 0), s)
  | _ => none
theorem sl_int : SndL P (fun xs H Q => (∃ i, xs = [.int i] ∧ Q (.int i) H) ∨ ∃ k, xs = [.bl k] ∧ Q (.int (if k then 1 else 0)) H) fInt := by
  refine ⟨fun H st loc xs vs d st' Q R r h k => ?_⟩
  unfold fInt at h
  split at h
  · rename_i i
    cases h
    obtain ⟨v, rfl, rv⟩ := drs1 r
    cases rv
    exact .inl ⟨i, rfl, k loc H _ (Grow.refl _ _ _) R (.int _)⟩
  · rename_i b
    cases h
    obtain ⟨v, rfl, rv⟩ := drs1 r
    cases rv
    exact .inr ⟨b, rfl, k loc H _ (Grow.refl _ _ _) R (.int _)⟩
  · cases h
/-- list(x), tuple(x) -/
def fList : FL := fun xs s => match xs with
  | [x] => (seqD s x).map fun ys => (.ref s.length, s ++ [.lst ys])
  | _ => none
theorem sl_list : SndL P (fun xs H Q => ∃ p ys, xs = [.ref p] ∧ (SqL P.K H p ys ∨ SqT P.K H p ys) ∧ ∀ l, H l = none → Q (.ref l) (upd H l (.lst ys))) fList := by
  refine ⟨fun H st loc xs vs d st' Q R r h k => ?_⟩
  unfold fList at h
  split at h
  · rename_i x
    simp only [Option.map_eq_some_iff] at h
    obtain ⟨ys, e, e2⟩ := h
    cases e2
    obtain ⟨v, rfl, rv⟩ := drs1 r
    obtain ⟨p, ws, rfl, hs, rr⟩ := seqD_sq R rv e
    exact ⟨p, ws, rfl, hs, lay_k R rr k⟩
  · cases h
def fTuple : FL := fun xs s => match xs with
  | [.ref n] => (rdL s n).map fun ys => (.tup ys, s)
  | [.fz ys] => some (.tup ys, s)
  | [.tup ys] => some (.tup ys, s)
  | _ => none
theorem sl_tuple : SndL P (fun xs H Q => ∃ p ys, xs = [.ref p] ∧ ((SqL P.K H p ys ∧ ∀ l, H l = none → Q (.ref l) (upd H l (.tup ys))) ∨ (SqT P.K H p ys ∧ Q (.ref p) H))) fTuple := by
  refine ⟨fun H st loc xs vs d st' Q R r h k => ?_⟩
  unfold fTuple at h
  split at h
  · rename_i n
    simp only [Option.map_eq_some_iff] at h
    obtain ⟨ys, e, e2⟩ := h
    cases e2
    obtain ⟨v, rfl, rv⟩ := drs1 r
    cases rv
    obtain ⟨_, ws, e3, rr⟩ := R.list e
    exact ⟨_, ws, rfl, .inl ⟨SqL.of e3, fun l hl => k loc _ _ (Grow.new hl _ _) (R.new hl) (.tup (SqT.of upd_same) (rr.grow (Grow.new hl _ _)))⟩⟩
  · rename_i ys
    cases h
    obtain ⟨v, rfl, rv⟩ := drs1 r
    cases rv with
    | fz h1 h2 => exact ⟨_, _, rfl, .inl ⟨h1.sq, fun l hl => k loc _ _ (Grow.new hl _ _) (R.new hl) (.tup (SqT.of upd_same) (h2.grow (Grow.new hl _ _)))⟩⟩
  · rename_i ys
    cases h
    obtain ⟨v, rfl, rv⟩ := drs1 r
    cases rv with
    | tup h1 h2 => exact ⟨_, _, rfl, .inr ⟨h1, k loc H _ (Grow.refl _ _ _) R (.tup h1 h2)⟩⟩
  · cases h
def fAbs : FL := fun xs s => match xs with
  | [.int i] => some (.int (if i < 0 then -i else i), s)
  | _ => none
theorem sl_abs : SndL P (fun xs H Q => ∃ i, xs = [.int i] ∧ Q (.int (if i < 0 then -i else i)) H) fAbs := by
  refine ⟨fun H st loc xs vs d st' Q R r h k => ?_⟩
  unfold fAbs at h
  split at h
  · rename_i i
    cases h
    obtain ⟨v, rfl, rv⟩ := drs1 r
    cases rv
    exact ⟨i, rfl, k loc H _ (Grow.refl _ _ _) R (.int _)⟩
  · cases h
/-- the ints of a list -/
def intsD : List D → Option (List Int)
  | [] => some []
  | .int i :: r => (intsD r).map (i :: ·)
  | _ :: _ => none
theorem intsD_map : ∀ {ds : List D} {ns : List Int}, intsD ds = some ns → ds = ns.map D.int
  | [], _, h => by cases h; rfl
  | .int i :: r, ns, h => by
    simp only [intsD, Option.map_eq_some_iff] at h
    obtain ⟨ms, e, rfl⟩ := h
    rw [intsD_map e]
    rfl
  | .non :: _, _, h => by cases h
  | .bl _ :: _, _, h => by cases h
  | .str _ :: _, _, h => by cases h
  | .tup _ :: _, _, h => by cases h
  | .fz _ :: _, _, h => by cases h
  | .ref _ :: _, _, h => by cases h
theorem ints_of {ns : List Int} : intsD (ns.map D.int) = some ns := by
  induction ns with
  | nil => rfl
  | cons a r ih => simp [intsD, ih]
theorem drs_ints {K : PySem.W.Frag} {H : Hp} {N : Nat} {loc : Nat → Addr} : ∀ {ns : List Int} {vs : List V}, DRs K H N loc (ns.map D.int) vs → vs = ns.map V.int
  | [], _, r => by cases r; rfl
  | n :: ns, _, r => by
    cases r with
    | cons h t => cases h; rw [drs_ints t]; rfl
/-- a list of ints, as an argument -/
def argInts (xs : List D) (s : Sto) : Option (List Int) := match xs with
  | [.ref n] => (rdL s n).bind intsD
  | [.fz ys] => intsD ys
  | _ => none
theorem argInts_sq {H : Hp} {loc : Nat → Addr} {st : Sto} {xs : List D} {vs : List V} {ns : List Int} (R : Rel P loc st H) (r : DRs P.K H st.length loc xs vs) (h : argInts xs st = some ns) : ∃ p, vs = [.ref p] ∧ SqL P.K H p (ns.map V.int) := by
  unfold argInts at h
  split at h
  · rename_i n
    obtain ⟨v, rfl, rv⟩ := drs1 r
    cases rv
    simp only [Option.bind_eq_some_iff] at h
    obtain ⟨ys, e, e2⟩ := h
    obtain ⟨_, ws, e3, rr⟩ := R.list e
    rw [intsD_map e2] at rr
    rw [drs_ints rr] at e3
    exact ⟨_, rfl, SqL.of e3⟩
  · rename_i ys
    obtain ⟨v, rfl, rv⟩ := drs1 r
    cases rv with
    | fz h1 h2 =>
      rw [intsD_map h] at h2
      rw [drs_ints h2] at h1
      exact ⟨_, rfl, h1.sq⟩
  · cases h
def fSum : FL := fun xs s => (argInts xs s).map fun ns => (.int ns.sum, s)
theorem sl_sum : SndL P (rSum P.K) fSum := by
  refine ⟨fun H st loc xs vs d st' Q R r h k => ?_⟩
  simp only [fSum, Option.map_eq_some_iff] at h
  obtain ⟨ns, e, e2⟩ := h
  cases e2
  obtain ⟨p, rfl, hs⟩ := argInts_sq R r e
  exact ⟨p, ns, rfl, hs, k loc H _ (Grow.refl _ _ _) R (.int _)⟩
/-- the least, the greatest of some ints -/
def leastI : List Int → Int
  | [] => 0
  | [a] => a
  | a :: r => if leastI r < a then leastI r else a
def greatI : List Int → Int
  | [] => 0
  | [a] => a
  | a :: r => if greatI r > a then greatI r else a
theorem leastI_mem : ∀ {ns : List Int}, ns ≠ [] → leastI ns ∈ ns
  | [], h => absurd rfl h
  | [a], _ => by simp [leastI]
  | a :: b :: r, _ => by
    have := leastI_mem (ns := b :: r) (by simp)
    simp only [leastI]
    split
    · exact List.mem_cons_of_mem _ this
    · exact List.mem_cons_self
theorem leastI_le : ∀ {ns : List Int} {y : Int}, y ∈ ns → leastI ns ≤ y
  | [], _, h => by cases h
  | [a], y, h => by simp at h; simp [leastI, h]
  | a :: b :: r, y, h => by
    simp only [leastI]
    rcases List.mem_cons.mp h with rfl | h
    · split <;> omega
    · have := leastI_le h
      split <;> omega
theorem greatI_mem : ∀ {ns : List Int}, ns ≠ [] → greatI ns ∈ ns
  | [], h => absurd rfl h
  | [a], _ => by simp [greatI]
  | a :: b :: r, _ => by
    have := greatI_mem (ns := b :: r) (by simp)
    simp only [greatI]
    split
    · exact List.mem_cons_of_mem _ this
    · exact List.mem_cons_self
theorem greatI_ge : ∀ {ns : List Int} {y : Int}, y ∈ ns → y ≤ greatI ns
  | [], _, h => by cases h
  | [a], y, h => by simp at h; simp [greatI, h]
  | a :: b :: r, y, h => by
    simp only [greatI]
    rcases List.mem_cons.mp h with rfl | h
    · split <;> omega
    · have := greatI_ge h
      split <;> omega
def fMin : FL := fun xs s => match xs with
  | [.int i, .int j] => some (.int (if j < i then j else i), s)
  | _ => (argInts xs s).bind fun ns => if ns ≠ [] then some (.int (leastI ns), s) else none
def fMax : FL := fun xs s => match xs with
  | [.int i, .int j] => some (.int (if j > i then j else i), s)
  | _ => (argInts xs s).bind fun ns => if ns ≠ [] then some (.int (greatI ns), s) else none
abbrev rMinA (K : PySem.W.Frag) : List V → Hp → VK → Prop := fun xs H Q => (∃ i j, xs = [.int i, .int j] ∧ Q (.int (if j < i then j else i)) H) ∨ rMin K xs H Q
abbrev rMaxA (K : PySem.W.Frag) : List V → Hp → VK → Prop := fun xs H Q => (∃ i j, xs = [.int i, .int j] ∧ Q (.int (if j > i then j else i)) H) ∨ rMax K xs H Q
theorem call_minA (hc : X.calm = true) : CallR X (.builtin "min") (rMinA X.K) := callR_or (call_min2 hc) (cr_min hc)
theorem call_maxA (hc : X.calm = true) : CallR X (.builtin "max") (rMaxA X.K) := callR_or (call_max2 hc) (cr_max hc)
theorem sl_min : SndL P (rMinA P.K) fMin := by
  refine ⟨fun H st loc xs vs d st' Q R r h k => ?_⟩
  unfold fMin at h
  split at h
  · rename_i i j
    cases h
    obtain ⟨v, w, rfl, rv, rw'⟩ := drs2 r
    cases rv; cases rw'
    exact .inl ⟨i, j, rfl, k loc H _ (Grow.refl _ _ _) R (.int _)⟩
  · simp only [Option.bind_eq_some_iff] at h
    obtain ⟨ns, e, e2⟩ := h
    split at e2
    · rename_i c
      cases e2
      obtain ⟨p, rfl, hs⟩ := argInts_sq R r e
      refine .inr ⟨p, ns, rfl, hs, List.length_pos_iff.mpr c, fun m hm hle => ?_⟩
      have q : m = leastI ns := Int.le_antisymm (hle _ (leastI_mem c)) (leastI_le hm)
      subst q
      exact k loc H _ (Grow.refl _ _ _) R (.int _)
    · cases e2
theorem sl_max : SndL P (rMaxA P.K) fMax := by
  refine ⟨fun H st loc xs vs d st' Q R r h k => ?_⟩
  unfold fMax at h
  split at h
  · rename_i i j
    cases h
    obtain ⟨v, w, rfl, rv, rw'⟩ := drs2 r
    cases rv; cases rw'
    exact .inl ⟨i, j, rfl, k loc H _ (Grow.refl _ _ _) R (.int _)⟩
  · simp only [Option.bind_eq_some_iff] at h
    obtain ⟨ns, e, e2⟩ := h
    split at e2
    · rename_i c
      cases e2
      obtain ⟨p, rfl, hs⟩ := argInts_sq R r e
      refine .inr ⟨p, ns, rfl, hs, List.length_pos_iff.mpr c, fun m hm hle => ?_⟩
      have q : m = greatI ns := Int.le_antisymm (greatI_ge hm) (hle _ (greatI_mem c))
      subst q
      exact k loc H _ (Grow.refl _ _ _) R (.int _)
    · cases e2
/-- the bools of a list -/
def boolsD : List D → Option (List Bool)
  | [] => some []
  | .bl i :: r => (boolsD r).map (i :: ·)
  | _ :: _ => none
theorem boolsD_drs {K : PySem.W.Frag} {H : Hp} {N : Nat} {loc : Nat → Addr} : ∀ {ds : List D} {bs : List Bool} {vs : List V}, boolsD ds = some bs → DRs K H N loc ds vs → vs = bs.map V.bl
  | [], _, _, h, r => by cases h; cases r; rfl
  | .bl i :: ds, bs, _, h, r => by
    simp only [boolsD, Option.map_eq_some_iff] at h
    obtain ⟨ms, e, rfl⟩ := h
    cases r with
    | cons h t => cases h; rw [boolsD_drs e t]; rfl
  | .non :: _, _, _, h, _ => by cases h
  | .int _ :: _, _, _, h, _ => by cases h
  | .str _ :: _, _, _, h, _ => by cases h
  | .tup _ :: _, _, _, h, _ => by cases h
  | .fz _ :: _, _, _, h, _ => by cases h
  | .ref _ :: _, _, _, h, _ => by cases h
theorem bools_of {ns : List Bool} : boolsD (ns.map D.bl) = some ns := by
  induction ns with
  | nil => rfl
  | cons a r ih => simp [boolsD, ih]
def fAll : FL := fun xs s => match xs with
  | [.ref n] => ((rdL s n).bind boolsD).map fun bs => (.bl (bs.all id), s)
  | _ => none
def fAny : FL := fun xs s => match xs with
  | [.ref n] => ((rdL s n).bind boolsD).map fun bs => (.bl (bs.any id), s)
  | _ => none
theorem sl_all : SndL P (rAll P.K) fAll := by
  refine ⟨fun H st loc xs vs d st' Q R r h k => ?_⟩
  unfold fAll at h
  split at h
  · rename_i n
    simp only [Option.map_eq_some_iff, Option.bind_eq_some_iff] at h
    obtain ⟨bs, ⟨ys, e, e1⟩, e2⟩ := h
    cases e2
    obtain ⟨v, rfl, rv⟩ := drs1 r
    cases rv
    obtain ⟨_, ws, e3, rr⟩ := R.list e
    rw [boolsD_drs e1 rr] at e3
    exact ⟨_, bs, rfl, SqL.of e3, k loc H _ (Grow.refl _ _ _) R (.bl _)⟩
  · cases h
theorem sl_any : SndL P (rAny P.K) fAny := by
  refine ⟨fun H st loc xs vs d st' Q R r h k => ?_⟩
  unfold fAny at h
  split at h
  · rename_i n
    simp only [Option.map_eq_some_iff, Option.bind_eq_some_iff] at h
    obtain ⟨bs, ⟨ys, e, e1⟩, e2⟩ := h
    cases e2
    obtain ⟨v, rfl, rv⟩ := drs1 r
    cases rv
    obtain ⟨_, ws, e3, rr⟩ := R.list e
    rw [boolsD_drs e1 rr] at e3
    exact ⟨_, bs, rfl, SqL.of e3, k loc H _ (Grow.refl _ _ _) R (.bl _)⟩
  · cases h

/-! ### isinstance of a built-in class -/
/-- the name of a value's class, where it is a built-in one -/
def tyD (s : Sto) : D → Option String
  | .non => some "NoneType"
  | .bl _ => some "bool"
  | .int _ => some "int"
  | .str _ => some "str"
  | .tup _ => some "tuple"
  | .fz _ => some "list"
  | .ref n => match s[n]? with
    | some (.lst _) => some "list"
    | some (.dk _) => some "dict"
    | some (.dt _) => some "dict"
    | _ => none
theorem tyD_v {H : Hp} {loc : Nat → Addr} {st : Sto} {x : D} {v : V} {T : String} (R : Rel P loc st H) (r : DR P.K H st.length loc x v) (h : tyD st x = some T) : TyX P.K H v (.type T) := by
  cases r with
  | non => cases h; exact .base .non
  | bl b => cases h; exact .base (.bl b)
  | int b => cases h; exact .base (.int b)
  | str b => cases h; exact .base (.str b)
  | tup h1 h2 =>
    cases h
    rcases h1 with (h1 | ⟨o, h1⟩) | ⟨o, _, _, h1, h3, _⟩
    · exact .base (.tup h1)
    · exact .fTuple h1
    · exact .kTuple h1 h3
  | fz h1 h2 =>
    cases h
    rcases h1 with ⟨o, h1⟩ | ⟨o, _, _, h1, h3, _⟩
    · exact .base (.frz h1)
    · exact .kList h1 h3
  | @ref n hn =>
    unfold tyD at h
    simp only at h
    split at h
    · rename_i xs e
      cases h
      obtain ⟨vs, e2, _⟩ := R.ob n _ e
      exact .base (.lst e2)
    · rename_i xs e
      cases h
      obtain ⟨vs, e2, _⟩ := R.ob n _ e
      exact .base (.dK e2)
    · rename_i xs e
      cases h
      obtain ⟨vs, e2, _⟩ := R.ob n _ e
      exact .base (.dT e2)
    · cases h
def mIsi (T : String) (a : ME) : ME := fun e s => (a e s).bind fun x s1 => match tyD s1 x with
  | some t => match kitB t T with
    | some b => .ok (.bl b) s1
    | none => .bad
  | none => .bad
theorem de_isi {T : String} {x : Str} {a : Expr} {ma : ME} {p p2 pos : Pos} (hm : X.mg "isinstance" = none) (hm2 : X.mg x = none) (ha : DE X cA W a ma) (hv2 : bootBuiltins x = some (.type T) := by decide +kernel) (hg : Gl X "isinstance" := by rfl) (hg2 : Gl X x := by rfl)
    (hv : bootBuiltins "isinstance" = some (.builtin "isinstance") := by decide +kernel) (hn2 : x ≠ "__name__" := by decide) (hdb2 : (x == ("__debug__" : Str)) = false := by decide)
    (he : starEach [a, .Name x p2] X.env = (false, eval a X.env) :: starEach [.Name x p2] X.env := by rfl) (he2 : starEach [.Name x p2] X.env = (false, eval (.Name x p2) X.env) :: starEach [] X.env := by rfl) (hpl : (backTo pos (starEach [.Name x p2] X.env)).any (·.1) = false := by rfl) :
    DE X cA W (.Call (.Name "isinstance" p) [a, .Name x p2] [] pos) (mIsi T ma) := by
  obtain ⟨ta, p1, s1⟩ := ha
  refine ⟨_, pe_callB call_isi hg hm hv (pa_cons p1 (pa_cons (pe_bltn (v := .ty T) hg2 hm2 hv2 rfl hn2 hdb2) pa_nil he2) he) (by decide) (by decide) he hpl, ⟨fun σ H env st loc Q er R h => ?_⟩⟩
  refine s1.run σ H env st loc _ er R (post_bind h fun x s1 loc1 H1 v g1 R1 d1 h1 => ?_)
  cases q : tyD s1 x with
  | none => simp only [q] at h1; exact h1.elim
  | some t =>
    simp only [q] at h1
    cases q2 : kitB t T with
    | none => simp only [q2] at h1; exact h1.elim
    | some b =>
      simp only [q2] at h1
      exact ⟨v, .ty T, .type t, .type T, b, rfl, .ty T, tyD_v R1 d1 q, kit_ty q2, h1 loc1 H1 _ (Grow.refl _ _ _) R1 (.bl b)⟩
/-! ### xs[i] = v -/
def fSetI : F3 := fun o i v s => match o, i with
  | .ref n, .int k => match rdL s n with
    | some xs => match ixN xs.length k with
      | some j => some (s.set n (.lst (xs.set j v)))
      | none => none
    | none => none
  | _, _ => none
theorem s3_setI : Snd3 P rSetL fSetI := by
  refine ⟨fun H st loc o i v vo vi vv st' Q R ro ri rv h k => ?_⟩
  unfold fSetI at h
  split at h
  · rename_i n j
    cases ro; cases ri
    cases q1 : rdL st n with
    | none => simp only [q1] at h; cases h
    | some xs =>
      cases q2 : ixN xs.length j with
      | none => simp only [q1, q2] at h; cases h
      | some j' =>
        simp only [q1, q2] at h
        cases h
        obtain ⟨hn, vs, e, r⟩ := R.list q1
        refine ⟨_, vs, j, j', rfl, rfl, e, by rw [← r.length]; exact q2, ?_⟩
        exact k loc _ (by rw [List.length_set]; exact Grow.write R hn) (R.write hn (r.set rv j'))
  · cases h
/-! ### methods of lists -/
abbrev FM := D → List D → Sto → Option (D × Sto)
structure SndM (P : Pm) (r : V → List V → Hp → VK → Prop) (f : FM) : Prop where
  run : ∀ H st loc o xs vo vs d st' Q, Rel P loc st H → DR P.K H st.length loc o vo → DRs P.K H st.length loc xs vs → f o xs st = some (d, st') →
    (∀ loc' H' v, Grow st.length loc H st'.length loc' H' → Rel P loc' st' H' → DR P.K H' st'.length loc' d v → Q v H') → r vo vs H Q
def isLst (s : Sto) : D → Bool
  | .ref n => (rdL s n).isSome
  | .fz _ => true
  | _ => false
def mMeth (f : FM) (o : ME) (a : MA) : ME := fun e s => (o e s).bind fun x s1 => if isLst s1 x = true then (a e s1).bind fun xs s2 => up (f x xs s2) else .bad
theorem isLst_ty {H : Hp} {loc : Nat → Addr} {st : Sto} {x : D} {v : V} (R : Rel P loc st H) (r : DR P.K H st.length loc x v) (h : isLst st x = true) : tyV P.K "list" v H := by
  cases r with
  | @ref n hn =>
    unfold isLst at h
    cases q : rdL st n with
    | none => simp only [q] at h; cases h
    | some xs =>
      obtain ⟨_, vs, e, _⟩ := R.list q
      exact .inl ⟨rfl, vs, SqL.of e⟩
  | fz h1 h2 => exact .inl ⟨rfl, _, h1.sq⟩
  | _ => cases h
theorem de_meth {id : String} {name : Str} {r : V → List V → Hp → VK → Prop} {f : FM} {o : Expr} {mo : ME} {apos cpos : Pos} (hm : MtR X id r) (hf : SndM ⟨X.K, cA⟩ r f) (slot : Slot "list" name id) (hty : typeOf (.builtin id) = pure (.type "method_descriptor"))
    (ho : DE X cA W o mo) (ha : DA X cA W (e :: es) ms) (hbase : attributeBase o name X.env (eval o X.env) = eval o X.env := by rfl)
    (hfew : ((backTo cpos (starEach (e :: es) X.env)).all (fun x => !x.1) && (backToKw cpos (keywordEach [] X.env)).all (fun x => x.1.isSome)
      && decide ((e :: es).length + ([] : List Keyword).length + (if ([] : List Keyword).isEmpty then 0 else 1) < 30)) = true := by rfl)
    (hline : (apos.endLine == cpos.line) = true := by rfl) (hs : starEach (e :: es) X.env = (false, eval e X.env) :: starEach es X.env := by rfl) (hplain : (backTo cpos (starEach es X.env)).any (·.1) = false := by rfl) :
    DE X cA W (.Call (.Attribute o name apos) (e :: es) [] cpos) (mMeth f mo ms) := by
  obtain ⟨to, p0, s0⟩ := ho
  obtain ⟨ta, p1, s1⟩ := ha
  refine ⟨_, pe_bm PySem.F.plainAttrs_list slot hty hm p0 p1 hbase hfew hline hs hplain, ⟨fun σ H env st loc Q er R h => ?_⟩⟩
  refine s0.run σ H env st loc _ er R (post_bind h fun x s1' loc1 H1 v g1 R1 d1 h1 => ?_)
  by_cases c : isLst s1' x = true
  · rw [if_pos c] at h1
    refine ⟨isLst_ty R1 d1 c, s1.run σ H1 env s1' loc1 _ (er.grow g1) R1 (post_bind h1 fun xs s2 loc2 H2 vs g2 R2 d2 h2 => ?_)⟩
    cases q : f x xs s2 with
    | none => rw [q] at h2; exact h2.elim
    | some p =>
      obtain ⟨d, s3⟩ := p
      rw [q] at h2
      exact hf.run H2 s2 loc2 x xs v vs d s3 Q R2 (DR.grow g2 d1) d2 q h2
  · rw [if_neg c] at h1; exact h1.elim
theorem de_meth0 {id : String} {name : Str} {r : V → List V → Hp → VK → Prop} {f : FM} {o : Expr} {mo : ME} {apos cpos : Pos} (hm : MtR X id r) (hf : SndM ⟨X.K, cA⟩ r f) (slot : Slot "list" name id) (hty : typeOf (.builtin id) = pure (.type "method_descriptor"))
    (ho : DE X cA W o mo) (hbase : attributeBase o name X.env (eval o X.env) = eval o X.env := by rfl) (hline : (apos.endLine == cpos.line) = true := by rfl) :
    DE X cA W (.Call (.Attribute o name apos) [] [] cpos) (mMeth f mo mNil) := by
  obtain ⟨to, p0, s0⟩ := ho
  refine ⟨_, pe_bm0 PySem.F.plainAttrs_list slot hty hm p0 hbase hline, ⟨fun σ H env st loc Q er R h => ?_⟩⟩
  refine s0.run σ H env st loc _ er R (post_bind h fun x s1' loc1 H1 v g1 R1 d1 h1 => ?_)
  by_cases c : isLst s1' x = true
  · rw [if_pos c] at h1
    refine ⟨isLst_ty R1 d1 c, ?_⟩
    have h1 : Post _ _ _ _ _ _ _ (up (f x [] s1')) := h1
    cases q : f x [] s1' with
    | none => rw [q] at h1; exact h1.elim
    | some p =>
      obtain ⟨d, s3⟩ := p
      rw [q] at h1
      exact hf.run H1 s1' loc1 x [] v [] d s3 Q R1 d1 .nil q h1
  · rw [if_neg c] at h1; exact h1.elim
def fAppend : FM := fun o xs s => match o, xs with
  | .ref n, [v] => match rdL s n with
    | some ys => if ys.length < 100000 then some (.non, s.set n (.lst (ys ++ [v]))) else none
    | none => none
  | _, _ => none
theorem sm_append : SndM P rAppend fAppend := by
  refine ⟨fun H st loc o xs vo vs d st' Q R ro rs h k => ?_⟩
  unfold fAppend at h
  split at h
  · rename_i n v
    cases ro
    cases q1 : rdL st n with
    | none => simp only [q1] at h; cases h
    | some ys =>
      simp only [q1] at h
      split at h
      · rename_i c
        cases h
        obtain ⟨vv, rfl, rv⟩ := drs1 rs
        obtain ⟨hn, ws, e, r⟩ := R.list q1
        refine ⟨_, ws, vv, rfl, rfl, e, by rw [← r.length]; exact Nat.lt_of_lt_of_le c (by decide), ?_⟩
        exact k loc _ _ (by rw [List.length_set]; exact Grow.write R hn) (R.write hn (r.append (.cons rv .nil))) .non
      · cases h
  · cases h
def fPop : FM := fun o xs s => match o, xs with
  | .ref n, [] => match rdL s n with
    | some ys => match ys[ys.length - 1]? with
      | some d => some (d, s.set n (.lst ys.dropLast))
      | none => none
    | none => none
  | _, _ => none
theorem drs_dropLast {K : PySem.W.Frag} {H : Hp} {N : Nat} {loc : Nat → Addr} {ds : List D} {vs : List V} (r : DRs K H N loc ds vs) : DRs K H N loc ds.dropLast vs.dropLast := by
  rw [List.dropLast_eq_take, List.dropLast_eq_take, r.length]
  exact r.take _
theorem sm_pop : SndM P rPop fPop := by
  refine ⟨fun H st loc o xs vo vs d st' Q R ro rs h k => ?_⟩
  unfold fPop at h
  split at h
  · rename_i n
    cases ro; cases rs
    cases q1 : rdL st n with
    | none => simp only [q1] at h; cases h
    | some ys =>
      cases q2 : ys[ys.length - 1]? with
      | none => simp only [q1, q2] at h; cases h
      | some dd =>
        simp only [q1, q2] at h
        cases h
        obtain ⟨hn, ws, e, r⟩ := R.list q1
        obtain ⟨v, e2, r2⟩ := r.get q2
        refine ⟨_, ws, v, rfl, rfl, e, by rw [← r.length]; exact e2, ?_⟩
        have g := Grow.write (u := .lst ws.dropLast) R hn
        exact k loc _ v (by rw [List.length_set]; exact g) (R.write hn (drs_dropLast r)) (by rw [List.length_set]; exact r2.grow g)
  · cases h
def fPopAt : FM := fun o xs s => match o, xs with
  | .ref n, [.int i] => match rdL s n with
    | some ys => if -(2 ^ 63) ≤ i ∧ i < 2 ^ 63 then (match ixN ys.length i with
      | some j => match ys[j]? with
        | some d => some (d, s.set n (.lst (ys.eraseIdx j)))
        | none => none
      | none => none) else none
    | none => none
  | _, _ => none
theorem sm_popAt : SndM P rPopAt fPopAt := by
  refine ⟨fun H st loc o xs vo vs d st' Q R ro rs h k => ?_⟩
  unfold fPopAt at h
  split at h
  · rename_i n i
    cases ro
    obtain ⟨v, rfl, rv⟩ := drs1 rs
    cases rv
    cases q1 : rdL st n with
    | none => simp only [q1] at h; cases h
    | some ys =>
      simp only [q1] at h
      split at h
      · rename_i c
        cases q2 : ixN ys.length i with
        | none => simp only [q2] at h; cases h
        | some j =>
          cases q3 : ys[j]? with
          | none => simp only [q2, q3] at h; cases h
          | some dd =>
            simp only [q2, q3] at h
            cases h
            obtain ⟨hn, ws, e, r⟩ := R.list q1
            obtain ⟨v, e2, r2⟩ := r.get q3
            refine ⟨_, ws, i, j, v, rfl, rfl, e, c.1, c.2, ?_, e2, ?_⟩
            · rw [← r.length]; exact (ixN_seq q2).1
            · have g := Grow.write (u := .lst (ws.eraseIdx j)) R hn
              exact k loc _ v (by rw [List.length_set]; exact g) (R.write hn (r.eraseIdx j)) (by rw [List.length_set]; exact r2.grow g)
      · cases h
  · cases h
def fExtend : FM := fun o xs s => match o, xs with
  | .ref n, [.ref m] => match rdL s n, rdL s m with
    | some ys, some zs => if ys.length + zs.length ≤ 100000 then some (.non, s.set n (.lst (ys ++ zs))) else none
    | _, _ => none
  | _, _ => none
theorem sm_extend : SndM P rExtend fExtend := by
  refine ⟨fun H st loc o xs vo vs d st' Q R ro rs h k => ?_⟩
  unfold fExtend at h
  split at h
  · rename_i n m
    cases ro
    obtain ⟨v, rfl, rv⟩ := drs1 rs
    cases rv
    cases q1 : rdL st n with
    | none => simp only [q1] at h; cases h
    | some ys =>
      cases q2 : rdL st m with
      | none => simp only [q1, q2] at h; cases h
      | some zs =>
        simp only [q1, q2] at h
        split at h
        · rename_i c
          cases h
          obtain ⟨hn, ws, e, r⟩ := R.list q1
          obtain ⟨hm, us, e2, r2⟩ := R.list q2
          refine ⟨_, _, ws, us, rfl, rfl, e, e2, by rw [← r.length, ← r2.length]; exact sz_of c, ?_⟩
          exact k loc _ _ (by rw [List.length_set]; exact Grow.write R hn) (R.write hn (r.append r2)) .non
        · cases h
  · cases h
def fReverse : FM := fun o xs s => match o, xs with
  | .ref n, [] => match rdL s n with
    | some ys => some (.non, s.set n (.lst ys.reverse))
    | none => none
  | _, _ => none
theorem sm_reverse : SndM P rReverse fReverse := by
  refine ⟨fun H st loc o xs vo vs d st' Q R ro rs h k => ?_⟩
  unfold fReverse at h
  split at h
  · rename_i n
    cases ro; cases rs
    cases q1 : rdL st n with
    | none => simp only [q1] at h; cases h
    | some ys =>
      simp only [q1] at h
      cases h
      obtain ⟨hn, ws, e, r⟩ := R.list q1
      exact ⟨_, ws, rfl, rfl, e, k loc _ _ (by rw [List.length_set]; exact Grow.write R hn) (R.write hn r.reverse) .non⟩
  · cases h
def fClear : FM := fun o xs s => match o, xs with
  | .ref n, [] => match rdL s n with
    | some ys => some (.non, s.set n (.lst []))
    | none => none
  | _, _ => none
theorem sm_clear : SndM P rClear fClear := by
  refine ⟨fun H st loc o xs vo vs d st' Q R ro rs h k => ?_⟩
  unfold fClear at h
  split at h
  · rename_i n
    cases ro; cases rs
    cases q1 : rdL st n with
    | none => simp only [q1] at h; cases h
    | some ys =>
      simp only [q1] at h
      cases h
      obtain ⟨hn, ws, e, r⟩ := R.list q1
      exact ⟨_, ws, rfl, rfl, e, k loc _ _ (by rw [List.length_set]; exact Grow.write R hn) (R.write hn .nil) .non⟩
  · cases h
theorem de_rev {a : Expr} {ma : ME} {k : Nat} {p1 p2 p3 pos : Pos} (ha : DE X cA W a ma) : DE X cA W (.Subscript a (.Slice none none (some (.UnaryOp .USub (.Constant (.int 1) k p1) p2)) p3) pos) (mRev ma) := by
  obtain ⟨ta, q1, s1⟩ := ha
  refine ⟨_, pe_revL q1, ⟨fun σ H env st loc Q er R h => ?_⟩⟩
  refine s1.run σ H env st loc _ er R (post_bind h fun x s1 loc1 H1 v g1 R1 d1 h1 => ?_)
  cases x with
  | ref n =>
    have d1 : DR X.K H1 s1.length loc1 (.ref n) v := d1
    cases d1
    cases q : rdL s1 n with
    | none => simp only [q] at h1; exact h1.elim
    | some xs =>
      simp only [q] at h1
      obtain ⟨_, vs, e, r⟩ := R1.list q
      exact ⟨_, vs, rfl, SqL.of e, lay_k R1 r.reverse h1⟩
  | _ => exact h1.elim
end
end Dn
set_option maxRecDepth 100000
namespace Dn
open PySem PySem.Spec PyProof.Rows L2

/-! ### instances -/
section
variable {P : Pm} {X : Cx} {cA : Str → Addr} {W : WX} {e o : Expr} {es : List Expr} {ms : MA} {mo mv : ME} {pos pos' apos : Pos}
def insOf (s : Sto) (c : Str) : D → Option (Nat × List (Str × D))
  | .ref n => match s[n]? with
    | some (.ins c' fs) => if c' = c then some (n, fs) else none
    | _ => none
  | _ => none
theorem insOf_some {s : Sto} {c : Str} {d : D} {n : Nat} {fs : List (Str × D)} (h : insOf s c d = some (n, fs)) : d = .ref n ∧ s[n]? = some (.ins c fs) := by
  unfold insOf at h
  split at h
  · split at h
    · rename_i m _ c' gs e
      split at h
      · rename_i q
        cases h
        subst q
        exact ⟨rfl, e⟩
      · cases h
    · cases h
  · cases h
theorem Rel.ins {H : Hp} {loc : Nat → Addr} {st : Sto} {c : Str} {d : D} {n : Nat} {fs : List (Str × D)} {v : V} (R : Rel P loc st H) (r : DR P.K H st.length loc d v) (h : insOf st c d = some (n, fs)) :
    d = .ref n ∧ v = .ref (loc n) ∧ n < st.length ∧ ∃ dx gs, H (loc n) = some (.ins (P.cA c) dx gs) ∧ FRs P.K H st.length loc fs gs := by
  obtain ⟨rfl, e⟩ := insOf_some h
  cases r with
  | ref hn => exact ⟨rfl, rfl, hn, R.ob n _ e⟩
/-- o.f -/
def mFld (c f : Str) (o : ME) : ME := fun e s => (o e s).bind fun x s1 => match insOf s1 c x with
  | some (_, fs) => match fs.lookup f with
    | some d => .ok d s1
    | none => .bad
  | none => .bad
theorem de_fld (c : Str) {f : Str} (hc : Cls X.K (cA c)) (hn : NoAttr X.K (cA c) f) (ho : DE X cA W o mo) (hb : attributeBase o f X.env (eval o X.env) = eval o X.env := by rfl) : DE X cA W (.Attribute o f pos) (mFld c f mo) := by
  obtain ⟨to, p0, s0⟩ := ho
  refine ⟨_, pe_fld p0 hb, ⟨fun σ H env st loc Q er R h => ?_⟩⟩
  refine s0.run σ H env st loc _ er R (post_bind h fun x s1 loc1 H1 v g1 R1 d1 h1 => ?_)
  cases q : insOf s1 c x with
  | none => simp only [q] at h1; exact h1.elim
  | some p =>
    obtain ⟨n, fs⟩ := p
    obtain ⟨rfl, rfl, _, dx, gs, e, r⟩ := Rel.ins R1 d1 q
    cases q2 : fs.lookup f with
    | none => simp only [q, q2] at h1; exact h1.elim
    | some d =>
      simp only [q, q2] at h1
      obtain ⟨v, e2, r2⟩ := r.look q2
      exact ⟨_, _, dx, gs, v, rfl, e, hc, hn, e2, h1 loc1 H1 v (Grow.refl _ _ _) R1 r2⟩
/-- o.f = v -/
def mSetF (c f : Str) (o v : ME) : MS := fun e s => bindS (v e s) e fun d s1 => bindS (o e s1) e fun x s2 => match insOf s2 c x with
  | some (n, fs) => if fs.length < 1000 then .nx e (s2.set n (.ins c (putD f d fs))) else .bad
  | none => .bad
theorem ds_setF (c : Str) {f : Str} {value : Expr} (hc : Cls X.K (cA c)) (hn : NoAttr X.K (cA c) f) (ho : DE X cA W o mo) (hv : DE X cA W value mv) (hs : swapsWith value (some (.Attribute o f pos')) pos.line X.env = pure false := by rfl) :
    DS X cA W (.Assign [.Attribute o f pos'] value pos) (mSetF c f mo mv) := by
  obtain ⟨to, p0, s0⟩ := ho
  obtain ⟨tv, p1, s1⟩ := hv
  refine ⟨_, ps_fld p0 p1 hs, ⟨fun D σ H env s loc er R h => ?_⟩⟩
  refine s1.run σ H env s loc _ er R (posts_bind (P := ⟨X.K, cA⟩) er h fun d s' loc1 H1 v g R1 r h1 => ?_)
  refine s0.run σ H1 env s' loc1 _ (er.grow g) R1 (posts_bind (P := ⟨X.K, cA⟩) (er.grow g) h1 fun x s2 loc2 H2 u g2 R2 r2 h2 => ?_)
  cases q : insOf s2 c x with
  | none => simp only [q] at h2; exact h2.elim
  | some p =>
    obtain ⟨n, fs⟩ := p
    simp only [q] at h2
    obtain ⟨rfl, rfl, hn', dx, gs, e, rr⟩ := Rel.ins R2 r2 q
    split at h2
    · rename_i hl
      have G : Grow s2.length loc2 H2 s2.length loc2 (upd H2 (loc2 n) (.ins (cA c) dx (putF f v gs))) := Grow.write R2 hn'
      have hb : OR ⟨X.K, cA⟩ (upd H2 (loc2 n) (.ins (cA c) dx (putF f v gs))) s2.length loc2 (loc2 n) (.ins c (putD f d fs)) :=
        ⟨dx, putF f v gs, upd_same, FRs.put ((DR.grow g2 r).grow G) (FRs.grow G rr)⟩
      exact ⟨_, _, dx, gs, rfl, e, hc, hn, by rw [← rr.length]; exact hl, h2 loc2 _ σ (by rw [List.length_set]; exact G) (R2.writeO hn' hb) (by rw [List.length_set]; exact ((er.grow g).grow g2).grow G)⟩
    · exact h2.elim

/-- what callers know of a method m of the class c; np with self -/
structure MtH (P : Program) (w : World) (K : PySem.W.Frag) (mg : Str → Option Value) (base : Heap) (cA : Str → Addr) (c m : Str) (np k : Nat) (F : List D → Sto → Res D) : Prop where
  ex : ∃ (f : Addr) (fd : FuncData) (ps : List Str), Meth K (cA c) m f ∧ Binds K fd ps [] ∧ FnOk P w K mg base (L2.CX P w) k f fd ps (spM ⟨K, cA⟩ np F)
section
variable {CX : CXT} {k : Nat} {f C : Addr} {fd : FuncData} {ps : List Str} {sp : Sp} {E : L2.St → XK} {m : Str} {ta : TE} {t : TA}
def tMethS (C : Addr) (m : Str) (sp : Sp) (E : L2.St → XK) (ta : TE) (t : TA) : TE := fun σ H Q => ta σ H fun x H1 => ∃ a dx fs, x = .ref a ∧ H1 a = some (.ins C dx fs) ∧ fs.lookup m = none ∧
  t σ H1 fun vs H2 => sp (x :: vs) H2 Q (E σ)
theorem pe_methS {pl : Sem Bool} (he : PE X o ta) (c : Cls X.K C) (hm : Meth X.K C m f) (F : FnOk X.prog X.w X.K X.mg X.base CX k f fd ps sp) (hr : Room k X.A) (hb : Binds X.K fd ps []) (hx : ∀ σ, PassesAt CX X σ (E σ)) (ha : PA X (e :: es) t)
    (hst : starEach (e :: es) X.env = (false, eval e X.env) :: starEach es X.env := by rfl) (hpl : (backTo pos (starEach es X.env)).any (·.1) = false := by rfl)
    (ht : eval (.Call (.Attribute o m apos) (e :: es) [] pos) X.env = (do
      let ov ← eval o X.env
      standAt apos.atName
      let (f, first) ← holding [ov] (getMethod ov m pl)
      callWith pos f first (backTo pos (starEach (e :: es) X.env)) (backToKw pos (keywordEach [] X.env))) := by rfl) :
    PE X (.Call (.Attribute o m apos) (e :: es) [] pos) (tMethS C m sp E ta t) := by
  constructor
  intro pins s σ H Q I h
  apply PySem.W.methodCall_KW (pl := pl) ?_ ht
  apply thn (he.run pins s σ H _ I h)
  intro u s1 q0
  obtain ⟨x, H1, I1, rx, a, dx, fs, ex, ea, l, q⟩ := q0
  subst ex
  obtain rfl : u = Value.ref a := rx
  apply getmeth_ok I1 ea c hm l
  apply PySem.W.callWith_K (first := [.ref a]) (h₀ := X.base) I.ok.mod.kin hm.kp ?_ hst hpl
  apply thn (ha.run pos pins s1 σ H1 _ I1 q)
  intro us s2 q1
  obtain ⟨vs, H2, I2, r, q2⟩ := q1
  exact ⟨I2.kIn, run_fnS (us := .ref a :: us) (vs := .ref a :: vs) (E := E) F hr hb (hx σ) I2 (.cons rfl r) q2⟩
theorem pe_methS0 {pl : Sem Bool} (he : PE X o ta) (c : Cls X.K C) (hm : Meth X.K C m f) (F : FnOk X.prog X.w X.K X.mg X.base CX k f fd ps sp) (hr : Room k X.A) (hb : Binds X.K fd ps []) (hx : ∀ σ, PassesAt CX X σ (E σ))
    (ht : eval (.Call (.Attribute o m apos) [] [] pos) X.env = (do
      let ov ← eval o X.env
      standAt apos.atName
      let (f, first) ← holding [ov] (getMethod ov m pl)
      callWith pos f first (backTo pos (starEach [] X.env)) (backToKw pos (keywordEach [] X.env))) := by rfl) :
    PE X (.Call (.Attribute o m apos) [] [] pos) (tMethS C m sp E ta tNil) := by
  constructor
  intro pins s σ H Q I h
  apply PySem.W.methodCall_KW (pl := pl) ?_ ht
  apply thn (he.run pins s σ H _ I h)
  intro u s1 q0
  obtain ⟨x, H1, I1, rx, a, dx, fs, ex, ea, l, q⟩ := q0
  subst ex
  obtain rfl : u = Value.ref a := rx
  apply getmeth_ok I1 ea c hm l
  exact PySem.W.callWith_K0 (first := [.ref a]) I1.kIn hm.kp (run_fnS (us := [.ref a]) (vs := [.ref a]) (E := E) F hr hb (hx σ) I1 (.cons rfl .nil) q)
end
def mMethO (c m : Str) (F : List D → Sto → Res D) (o : ME) (a : MA) : ME := fun e s => (o e s).bind fun x s1 => match insOf s1 c x with
  | some (_, fs) => if (fs.lookup m).isNone = true then (a e s1).bind fun xs s2 => F (x :: xs) s2 else .bad
  | none => .bad
theorem snd_methS {np : Nat} {c m : Str} {F : List D → Sto → Res D} {to : TE} {ta : TA} (s0 : SndE P W to mo) (s1 : SndA P W ta ms) (hn : ∀ e s ds s1, ms e s = .ok ds s1 → ds.length + 1 = np) : SndE P W (tMethS (P.cA c) m (spM P np F) (WE W) to ta) (mMethO c m F mo ms) := by
  refine ⟨fun σ H env st loc Q er R h => ?_⟩
  refine s0.run σ H env st loc _ er R (post_bind h fun x s1' loc1 H1 v g1 R1 d1 h1 => ?_)
  cases q : insOf s1' c x with
  | none => simp only [q] at h1; exact h1.elim
  | some p =>
    obtain ⟨n, fs⟩ := p
    simp only [q] at h1
    obtain ⟨rfl, rfl, _, dx, gs, e, r⟩ := Rel.ins R1 d1 q
    split at h1
    · rename_i hl
      refine ⟨_, dx, gs, rfl, e, r.lookN (by simpa using hl), ?_⟩
      refine s1.run σ H1 env s1' loc1 _ (er.grow g1) R1 ?_
      cases q2 : ms env s1' with
      | exc c s' => rw [q2] at h1; exact h1
      | bad => rw [q2] at h1; exact h1
      | ok ds s2 =>
        rw [q2] at h1
        intro loc2 H2 vs g2 R2 r2
        have r2 : DRs P.K H2 s2.length loc2 ds vs := r2
        refine ⟨by rw [List.length_cons, ← r2.length]; exact hn _ _ _ _ q2, loc2, s2, .ref n :: ds, R2, .cons (DR.grow g2 d1) r2, Post.shift (r := F (.ref n :: ds) s2) g2 h1⟩
    · exact h1.elim
theorem de_methO {c m : Str} {np k j : Nat} {F : List D → Sto → Res D} (pl : Sem Bool) (hc : Cls X.K (cA c)) (h : MtH X.prog X.w X.K X.mg X.base cA c m np k F) (tk : Takes X W) (hr : Room j X.A) (hk : k ≤ j) (ho : DE X cA W o mo) (ha : DA X cA W (e :: es) ms) (hn : ∀ e s ds s1, ms e s = .ok ds s1 → ds.length + 1 = np)
    (hst : starEach (e :: es) X.env = (false, eval e X.env) :: starEach es X.env := by rfl) (hpl : (backTo pos (starEach es X.env)).any (·.1) = false := by rfl)
    (ht : eval (.Call (.Attribute o m apos) (e :: es) [] pos) X.env = (do
      let ov ← eval o X.env
      standAt apos.atName
      let (f, first) ← holding [ov] (getMethod ov m pl)
      callWith pos f first (backTo pos (starEach (e :: es) X.env)) (backToKw pos (keywordEach [] X.env))) := by rfl) :
    DE X cA W (.Call (.Attribute o m apos) (e :: es) [] pos) (mMethO c m F mo ms) := by
  obtain ⟨f, fd, ps, hm, hb, F'⟩ := h
  obtain ⟨to, p0, s0⟩ := ho
  obtain ⟨ta, p1, s1⟩ := ha
  exact ⟨_, pe_methS p0 hc hm F' (hr.mono hk) hb (fun σ => passAt tk σ) p1 hst hpl ht, snd_methS s0 s1 hn⟩
theorem de_methO0 {c m : Str} {np k j : Nat} {F : List D → Sto → Res D} (pl : Sem Bool) (hc : Cls X.K (cA c)) (h : MtH X.prog X.w X.K X.mg X.base cA c m np k F) (tk : Takes X W) (hr : Room j X.A) (hk : k ≤ j) (ho : DE X cA W o mo) (hn : 1 = np)
    (ht : eval (.Call (.Attribute o m apos) [] [] pos) X.env = (do
      let ov ← eval o X.env
      standAt apos.atName
      let (f, first) ← holding [ov] (getMethod ov m pl)
      callWith pos f first (backTo pos (starEach [] X.env)) (backToKw pos (keywordEach [] X.env))) := by rfl) :
    DE X cA W (.Call (.Attribute o m apos) [] [] pos) (mMethO c m F mo mNil) := by
  obtain ⟨f, fd, ps, hm, hb, F'⟩ := h
  obtain ⟨to, p0, s0⟩ := ho
  have sn : SndA ⟨X.K, cA⟩ W tNil mNil := ⟨fun σ H env st loc Q er R h => h loc H [] (Grow.refl _ _ _) R .nil⟩
  exact ⟨_, pe_methS0 p0 hc hm F' (hr.mono hk) hb (fun σ => passAt tk σ) ht, snd_methS s0 sn (fun _ _ ds _ h => by cases h; exact hn)⟩

/-! ### a new instance -/
section
variable {CX : CXT} {k : Nat} {f C : Addr} {fd : FuncData} {ps : List Str} {sp : Sp} {E : L2.St → XK} {m x : Str} {p : Pos} {ta : TE} {t : TA}
def tMakeS (C : Addr) (sp : Sp) (E : L2.St → XK) (t : TA) : TE := fun σ H Q => t σ H fun vs H1 => ∀ x dx, H1 x = none → H1 dx = none → dx ≠ x →
  sp (.ref x :: vs) (upd (upd H1 dx (.own x)) x (.ins C dx [])) (fun v H2 => v = .non ∧ Q (.ref x) H2) (E σ)
theorem run_makeS {pins : List (Addr × Obj)} {σ : L2.St} {H : Hp} {s : Shared} {Q : VK} {us : List Value} {vs : List V} (M : Mk X.K C f) (F : FnOk X.prog X.w X.K X.mg X.base CX k f fd ps sp) (hr : Room (k + 1) X.A) (hb : Binds X.K fd ps [])
    (hx : PassesAt CX X σ (E σ)) (I : Inv X pins σ H s) (r : Vals vs us)
    (h : ∀ x dx, H x = none → H dx = none → dx ≠ x → sp (.ref x :: vs) (upd (upd H dx (.own x)) x (.ins C dx [])) (fun v H2 => v = .non ∧ Q (.ref x) H2) (E σ)) :
    wpAny (model X.prog X.w) X.A (call (.ref C) us) (EP X pins σ Q) X.xe s := by
  have fr1 := I.hok.fresh (Nat.le_succ s.heap.objs.size)
  have fr0 := I.hok.fresh (Nat.le_refl s.heap.objs.size)
  have hq := h (s.heap.objs.size + 1) s.heap.objs.size fr1 fr0 (Nat.ne_of_lt (Nat.lt_succ_self _))
  have I2 := Inv.made (C := C) I
  have r2 : Vals (V.ref (s.heap.objs.size + 1) :: vs) (Value.ref (s.heap.objs.size + 1) :: us) := .cons rfl r
  have hl : (Value.ref (s.heap.objs.size + 1) :: us).length = ps.length := by
    rw [← r2.length]
    exact F.len _ _ _ _ hq
  have bb := hb _ (Value.ref (s.heap.objs.size + 1) :: us) I2.kIn (by rw [List.append_nil]; exact hl)
  rw [List.append_nil] at bb
  have run := F.run _ X.stack _ _ ⟨Value.ref (s.heap.objs.size + 1) :: us, []⟩ (Value.ref (s.heap.objs.size + 1) :: us) _ _ (E σ) (hr.make C us []) (I2.env0.make C us []) bb r2 hq
  apply wpAny_call
  apply make_map (f := f) I.kIn M.makes M.init (beq_iff_eq.mp M.fn)
  apply codeAny_mono run
  intro rr s' hq'
  match rr, hq' with
  | .error er, hq' => exact hx pins _ _ er s' I2 hq'
  | .ok (.ret u), hq' =>
    obtain ⟨v, H', I3, rv, ev, q3⟩ := I2.after hq'
    subst ev
    exact ⟨rv, V.ref (s.heap.objs.size + 1), H', I3, rfl, q3⟩
  | .ok .next, hq' => exact hq'.elim
  | .ok .brk, hq' => exact hq'.elim
  | .ok .cont, hq' => exact hq'.elim
theorem pe_makeS (M : Mk X.K C f) (F : FnOk X.prog X.w X.K X.mg X.base CX k f fd ps sp) (hr : Room (k + 1) X.A) (hg : Gl X x) (hm : X.mg x = some (.ref C)) (hb : Binds X.K fd ps []) (hx : ∀ σ, PassesAt CX X σ (E σ))
    (ha : PA X (e :: es) t) (hdb : (x == ("__debug__" : Str)) = false := by decide) (he : starEach (e :: es) X.env = (false, eval e X.env) :: starEach es X.env := by rfl) (hpl : (backTo pos (starEach es X.env)).any (·.1) = false := by rfl) :
    PE X (.Call (.Name x p) (e :: es) [] pos) (tMakeS C sp E t) := by
  constructor
  intro pins s σ H Q I h
  apply wpAny_Call_Name_kw (ld_glob I hg hm ?_ hdb)
  apply PySem.W.callWith_K (h₀ := X.base) I.ok.mod.kin M.kp ?_ he hpl
  apply thn (ha.run pos pins s σ H _ I h)
  intro us s1 q0
  obtain ⟨vs, H1, I1, r, q⟩ := q0
  exact ⟨I1.kIn, run_makeS (E := E) M F hr hb (hx σ) I1 r q⟩
end
/-- what callers know of a class c, made with np arguments (self with them) -/
structure MkH (P : Program) (w : World) (K : PySem.W.Frag) (mg : Str → Option Value) (base : Heap) (cA : Str → Addr) (c : Str) (np k : Nat) (F : List D → Sto → Res D) : Prop where
  ex : ∃ (f : Addr) (fd : FuncData) (ps : List Str), mg c = some (.ref (cA c)) ∧ Mk K (cA c) f ∧ Binds K fd ps [] ∧ FnOk P w K mg base (L2.CX P w) k f fd ps (spM ⟨K, cA⟩ np F)
def noneTo (d : D) : Res D → Res D
  | .ok .non s => .ok d s
  | .exc c s => .exc c s
  | _ => .bad
def mMake (c : Str) (F : List D → Sto → Res D) (a : MA) : ME := fun e s => (a e s).bind fun xs s1 => noneTo (.ref s1.length) (F (.ref s1.length :: xs) (s1 ++ [.ins c []]))
theorem de_make {c : Str} {p : Pos} {np k j : Nat} {F : List D → Sto → Res D} (h : MkH X.prog X.w X.K X.mg X.base cA c np k F) (tk : Takes X W) (hr : Room j X.A) (hk : k + 1 ≤ j) (ha : DA X cA W (e :: es) ms) (hn : ∀ e s ds s1, ms e s = .ok ds s1 → ds.length + 1 = np)
    (hg : Gl X c := by rfl) (hdb : (c == ("__debug__" : Str)) = false := by decide) (he : starEach (e :: es) X.env = (false, eval e X.env) :: starEach es X.env := by rfl) (hpl : (backTo pos (starEach es X.env)).any (·.1) = false := by rfl) :
    DE X cA W (.Call (.Name c p) (e :: es) [] pos) (mMake c F ms) := by
  obtain ⟨f, fd, ps, hm, M, hb, F'⟩ := h
  obtain ⟨ta, p1, s1⟩ := ha
  refine ⟨_, pe_makeS M F' (hr.mono hk) hg hm hb (fun σ => passAt tk σ) p1 hdb he hpl, ⟨fun σ H env st loc Q er R h => ?_⟩⟩
  unfold mMake at h
  refine s1.run σ H env st loc _ er R ?_
  cases q : ms env st with
  | exc c s' => rw [q] at h; exact h
  | bad => rw [q] at h; exact h
  | ok ds s1 =>
    rw [q] at h
    have h : Post ⟨X.K, cA⟩ (rD ⟨X.K, cA⟩) st.length loc H Q (fun c H' => W (.ref (cA c)) none σ H') (noneTo (.ref s1.length) (F (.ref s1.length :: ds) (s1 ++ [.ins c []]))) := h
    intro loc1 H1 vs g1 R1 r x dx hx hdx hne
    have r : DRs X.K H1 s1.length loc1 ds vs := r
    have hdx1 : H1 dx = none := hdx
    have G1 : Grow s1.length loc1 H1 s1.length loc1 (upd H1 dx (.own x)) := Grow.new hdx _ _
    have R2 : Rel ⟨X.K, cA⟩ loc1 s1 (upd H1 dx (.own x)) := R1.new hdx
    have hx2 : (upd H1 dx (.own x)) x = none := by rw [upd_ne hne.symm]; exact hx
    have G2 : Grow s1.length loc1 (upd H1 dx (.own x)) (s1.length + 1) (put loc1 s1.length x) (upd (upd H1 dx (.own x)) x (.ins (cA c) dx [])) := Grow.lay hx2 _ _
    have R3 : Rel ⟨X.K, cA⟩ (put loc1 s1.length x) (s1 ++ [.ins c []]) (upd (upd H1 dx (.own x)) x (.ins (cA c) dx [])) := (R2.new hx2).adopt (R2.ne_new hx2) ⟨dx, [], upd_same, .nil⟩
    have e : (V.ref x) = .ref (put loc1 s1.length x s1.length) := by rw [put_same]
    have hlen : (s1 ++ [Ob.ins c []]).length = s1.length + 1 := by rw [List.length_append]; rfl
    refine ⟨by rw [List.length_cons, ← r.length]; exact hn _ _ _ _ q, put loc1 s1.length x, s1 ++ [.ins c []], .ref s1.length :: ds, R3, ?_, ?_⟩
    · rw [e]
      exact .cons (.ref (by rw [hlen]; omega)) (by rw [hlen]; exact (r.grow G1).grow G2)
    · have gg := (g1.trans G1).trans G2
      rw [← hlen] at gg
      have hlt : s1.length < (s1 ++ [Ob.ins c []]).length := by rw [hlen]; omega
      revert h
      cases F (.ref s1.length :: ds) (s1 ++ [.ins c []]) with
      | bad => exact fun h => h.elim
      | exc c' s' => exact fun h loc' H' g' R' => h loc' H' (gg.trans g') R'
      | ok d s' =>
        intro h
        cases d with
        | non =>
          intro loc' H' v g' R' rv
          cases rv
          refine ⟨rfl, ?_⟩
          have e2 : (V.ref x) = .ref (loc' s1.length) := by rw [g'.gloc _ hlt, put_same]
          rw [e2]
          exact h loc' H' _ (gg.trans g') R' (.ref (Nat.lt_of_lt_of_le hlt g'.gle))
        | _ => exact h.elim

/-! ### properties -/
structure PrH (P : Program) (w : World) (K : PySem.W.Frag) (mg : Str → Option Value) (base : Heap) (cA : Str → Addr) (c f : Str) (k : Nat) (F : List D → Sto → Res D) : Prop where
  ex : ∃ (p g : Addr) (fd : FuncData) (ps : List Str), PropOf K (cA c) f p g ∧ Binds K fd ps [] ∧ FnOk P w K mg base (L2.CX P w) k g fd ps (spM ⟨K, cA⟩ 1 F)
def noX : Res D → Res D
  | .ok d s => .ok d s
  | _ => .bad
def mProp (c : Str) (F : List D → Sto → Res D) (o : ME) : ME := fun e s => (o e s).bind fun x s1 => match insOf s1 c x with
  | some _ => noX (F [x] s1)
  | none => .bad
theorem de_prop {c f : Str} {k j : Nat} {F : List D → Sto → Res D} (hc : Cls X.K (cA c)) (h : PrH X.prog X.w X.K X.mg X.base cA c f k F) (hr : Room j X.A) (hk : k + 1 ≤ j) (ho : DE X cA W o mo) (hab : attributeBase o f X.env (eval o X.env) = eval o X.env := by rfl) :
    DE X cA W (.Attribute o f pos) (mProp c F mo) := by
  obtain ⟨p, g, fd, ps, hp, hb, F'⟩ := h
  obtain ⟨to, p0, s0⟩ := ho
  refine ⟨_, pe_prop (dvs := []) (ds := []) p0 hc hp F' (hr.mono hk) hb .nil passL hab, ⟨fun σ H env st loc Q er R h => ?_⟩⟩
  refine s0.run σ H env st loc _ er R (post_bind h fun x s1 loc1 H1 v g1 R1 d1 h1 => ?_)
  cases q : insOf s1 c x with
  | none => simp only [q] at h1; exact h1.elim
  | some pp =>
    obtain ⟨n, fs⟩ := pp
    simp only [q] at h1
    obtain ⟨rfl, rfl, hn, dx, gs, e, r⟩ := Rel.ins R1 d1 q
    refine ⟨_, dx, gs, rfl, e, rfl, loc1, s1, [.ref n], R1, .cons (.ref hn) .nil, ?_⟩
    revert h1
    cases F [.ref n] s1 with
    | ok d s2 => exact fun h => h
    | exc c s => exact fun h => h.elim
    | bad => exact fun h => h

/-! ### len(x) and x in y by the class's own methods -/
structure SpH (P : Program) (w : World) (K : PySem.W.Frag) (mg : Str → Option Value) (base : Heap) (cA : Str → Addr) (c m : Str) (np k : Nat) (F : List D → Sto → Res D) : Prop where
  ex : ∃ (f : Addr) (fd : FuncData) (ps : List Str), PySem.W.findIn K (.ref (cA c)) m = some (some (.ref f)) ∧ PySem.W.isFn K (.ref f) = true ∧ Binds K fd ps [] ∧ FnOk P w K mg base (L2.CX P w) k f fd ps (spM ⟨K, cA⟩ np F)
section
variable {C f a : Addr} {k : Nat} {fd : FuncData} {ps : List Str} {sp : Sp}
/-- a special method's run, somewhere below -/
theorem run_sp {pins : List (Addr × Obj)} {σ : L2.St} {H : Hp} {s : Shared} {us : List Value} {vs : List V} {Q : VK} {A : Around} (F : FnOk X.prog X.w X.K X.mg X.base (L2.CX X.prog X.w) k f fd ps sp) (hr : Room k A) (hA : A.frames = X.A.frames) (hb : Binds X.K fd ps [])
    (I : Inv X pins σ H s) (r : Vals vs us) (h : sp vs H Q E0) {E' : Value → Shared → Prop} : wpAny (model X.prog X.w) A (call (.ref f) us) (EP X pins σ Q) E' s := by
  have hl : us.length = ps.length := by rw [← r.length]; exact F.len _ _ _ _ h
  have b := hb s us I.kIn (by rw [List.append_nil]; exact hl)
  rw [List.append_nil] at b
  have e0 : Env0 X.prog X.w X.K X.mg X.base A X.stack s H := by
    have e := I.env0
    exact ⟨by rw [hA]; exact e.frames, e.mod, e.bs, e.bsz, e.funs, e.frf, e.hok, e.bare⟩
  apply wpAny_call
  apply codeAny_mono (F.run A X.stack s H ⟨us, []⟩ us vs Q E0 hr e0 b r h)
  intro rr s' hq
  match rr, hq with
  | .error er, hq => exact ((passL (X := X.nox) pins σ H s er s' (I.wish _) hq) : False).elim
  | .ok (.ret u), hq => exact I.after hq
  | .ok .next, hq => exact hq.elim
  | .ok .brk, hq => exact hq.elim
  | .ok .cont, hq => exact hq.elim
theorem call_lenO (hr : Room (k + 1) X.A) (hs : PySem.W.findIn X.K (.ref C) "__len__" = some (some (.ref f))) (hf : PySem.W.isFn X.K (.ref f) = true) (hb : Binds X.K fd ps []) (F : FnOk X.prog X.w X.K X.mg X.base (L2.CX X.prog X.w) k f fd ps sp) :
    CallR X (.builtin "len") (fun xs H Q => ∃ a dx fs, xs = [.ref a] ∧ H a = some (.ins C dx fs) ∧ sp [.ref a] H (fun v H' => ∃ n : Int, v = .int n ∧ (0 ≤ n ∧ n < 2 ^ 63) ∧ Q (.int n) H') E0) := by
  intro pins s σ H xs us Q I r h
  obtain ⟨a, dx, fs, rfl, ea, q⟩ := h
  obtain ⟨u, rfl, ru⟩ := vals1 r
  cases ru
  obtain ⟨mA, J, _⟩ := ins_get I.hok ea
  obtain ⟨od, J, _⟩ := J.look
  obtain ⟨m, hF⟩ := I.fr
  apply PySem.W.len_K hF I.ok.mod.kin J hs hf
  apply wpAny_mono (run_sp (A := X.A.in1) (us := [Value.ref a]) (vs := [V.ref a]) F hr.in1 rfl hb I (.cons (show RelV (.ref a) (.ref a) from rfl) .nil) q) ?_ fun _ _ x => x
  intro u' s' z
  obtain ⟨v, H', I', rv, n, ev, hn, q'⟩ := z
  subst ev
  obtain ⟨t, rfl⟩ := rv
  exact ⟨hn, .int n, H', I'.tok _, ⟨_, rfl⟩, q'⟩
/-- x in y, y an instance -/
theorem contains_K {M : Model} {A : Around} {E : Value → Shared → Prop} {s : Shared} {K : PySem.W.Frag} {y C f : Addr} {v : Value} {oy : Obj} {od : Option Obj} {Q : Bool → Shared → Prop} (KX : K.In s.heap) (J : PySem.W.InstAt s.heap y oy C od) (hs : PySem.W.findIn K (.ref C) "__contains__" = some (some (.ref f))) (hf : PySem.W.isFn K (.ref f) = true)
    (h : wpAny M A (call (.ref f) [.ref y, v]) (fun r s' => ∃ b, r = .bool b ∧ Q b s') E s) : wpAny M A (contains (.ref y) v) Q E s := by
  unfold contains
  apply wpAny_holding
  have e0 : stdlibNamesSay? (.ref y) v = none := rfl
  rw [e0]
  apply wpAny_bind
  unfold specialOf
  apply wpAny_bind
  apply J.type.here
  apply (PySem.W.looks_findIn KX hs).here
  rw [if_neg (by simp)]
  apply wpAny_bind
  unfold callSpecialUnlessNone?
  apply wpAny_bind
  unfold specialOf
  apply wpAny_bind
  apply J.type.here
  apply (PySem.W.looks_findIn KX hs).here
  apply wpAny_holding
  apply wpAny_bind
  apply (PySem.W.bind_fn KX _ (beq_iff_eq.mp hf)).here
  show wpAny M A (if (Value.ref f == Value.none) = true then _ else _) _ _ _
  rw [if_neg (by simp)]
  apply wpAny_bind
  apply wpAny_mono h ?_ fun _ _ x => x
  intro r s' q
  obtain ⟨b, rfl, q⟩ := q
  apply wpAny_pure
  exact wpAny_truthy_bool q
abbrev rOwnIn (C : Addr) (sp : Sp) (neg : Bool) : R2 := fun x y H Q => ∃ a dx fs, y = .ref a ∧ H a = some (.ins C dx fs) ∧ sp [.ref a, x] H (fun v H' => ∃ b : Bool, v = .bl b ∧ Q (.bl (if neg = true then !b else b)) H') E0
theorem op_ownIn (hr : Room k X.A) (hs : PySem.W.findIn X.K (.ref C) "__contains__" = some (some (.ref f))) (hf : PySem.W.isFn X.K (.ref f) = true) (hb : Binds X.K fd ps []) (F : FnOk X.prog X.w X.K X.mg X.base (L2.CX X.prog X.w) k f fd ps sp) :
    OpR X (compareOp .In) (rOwnIn C sp false) := by
  intro pins s σ H x y v u Q I rx ry h
  obtain ⟨a, dx, fs, rfl, ea, q⟩ := h
  cases ry
  obtain ⟨mA, J, _⟩ := ins_get I.hok ea
  obtain ⟨od, J, _⟩ := J.look
  show wpAny _ _ (contains (.ref a) v >>= fun b => pure (Value.bool b)) _ _ _
  apply wpAny_bind
  apply contains_K I.kIn J hs hf
  apply wpAny_mono (run_sp (A := X.A) (us := [Value.ref a, v]) (vs := [V.ref a, x]) F hr rfl hb I (.cons (show RelV (.ref a) (.ref a) from rfl) (.cons rx .nil)) q) ?_ fun _ _ x => x
  intro u' s' z
  obtain ⟨w, H', I', rv, b, ev, q'⟩ := z
  subst ev
  cases rv
  exact ⟨b, rfl, wpAny_pure ⟨.bl b, H', I', rfl, q'⟩⟩
theorem op_ownNotIn (hr : Room k X.A) (hs : PySem.W.findIn X.K (.ref C) "__contains__" = some (some (.ref f))) (hf : PySem.W.isFn X.K (.ref f) = true) (hb : Binds X.K fd ps []) (F : FnOk X.prog X.w X.K X.mg X.base (L2.CX X.prog X.w) k f fd ps sp) :
    OpR X (compareOp .NotIn) (rOwnIn C sp true) := by
  intro pins s σ H x y v u Q I rx ry h
  obtain ⟨a, dx, fs, rfl, ea, q⟩ := h
  cases ry
  obtain ⟨mA, J, _⟩ := ins_get I.hok ea
  obtain ⟨od, J, _⟩ := J.look
  show wpAny _ _ (contains (.ref a) v >>= fun b => pure (Value.bool (!b))) _ _ _
  apply wpAny_bind
  apply contains_K I.kIn J hs hf
  apply wpAny_mono (run_sp (A := X.A) (us := [Value.ref a, v]) (vs := [V.ref a, x]) F hr rfl hb I (.cons (show RelV (.ref a) (.ref a) from rfl) (.cons rx .nil)) q) ?_ fun _ _ x => x
  intro u' s' z
  obtain ⟨w, H', I', rv, b, ev, q'⟩ := z
  subst ev
  cases rv
  exact ⟨b, rfl, wpAny_pure ⟨.bl (!b), H', I', rfl, q'⟩⟩
end
/-- x in y: y an instance of the class c, or a list -/
def fInO (c : Str) (neg : Bool) (F : List D → Sto → Res D) : F2 := fun x y s => match insOf s c y with
  | some _ => match F [y, x] s with
    | .ok (.bl b) s1 => some (.bl (if neg = true then !b else b), s1)
    | _ => none
  | none => none
theorem s2_inO {c : Str} {neg : Bool} {F : List D → Sto → Res D} : Snd2 P (rOwnIn (P.cA c) (spM P 2 F) neg) (fInO c neg F) := by
  refine ⟨fun H st loc x y vx vy d st' Q R rx ry h k => ?_⟩
  unfold fInO at h
  cases q : insOf st c y with
  | none => simp only [q] at h; cases h
  | some pp =>
    obtain ⟨n, fs⟩ := pp
    simp only [q] at h
    obtain ⟨rfl, rfl, hn, dx, gs, e, r⟩ := Rel.ins R ry q
    refine ⟨_, dx, gs, rfl, e, rfl, loc, st, [.ref n, x], R, .cons ry (.cons rx .nil), ?_⟩
    cases q2 : F [.ref n, x] st with
    | exc c s => simp only [q2] at h; cases h
    | bad => simp only [q2] at h; cases h
    | ok d2 s2 =>
      simp only [q2] at h
      cases d2 with
      | bl b =>
        cases h
        intro loc' H' v g R' rv
        cases rv
        exact ⟨b, rfl, k loc' H' _ g R' (.bl _)⟩
      | _ => cases h
theorem de_inO {c : Str} {k j : Nat} {F : List D → Sto → Res D} {a b : Expr} {ma mb : ME} (h : SpH X.prog X.w X.K X.mg X.base cA c "__contains__" 2 k F) (hr : Room j X.A) (hk : k ≤ j) (ha : DE X cA W a ma) (hb : DE X cA W b mb) (hm : behindInMarks .In b = false := by rfl) : DE X cA W (.Compare a [.In] [b] pos) (mOp (fInO c false F) ma mb) := by
  obtain ⟨f, fd, ps, hs, hf, hb', F'⟩ := h
  exact de_cmp (op_ownIn (hr.mono hk) hs hf hb' F') s2_inO ha hb hm
theorem de_notInO {c : Str} {k j : Nat} {F : List D → Sto → Res D} {a b : Expr} {ma mb : ME} (h : SpH X.prog X.w X.K X.mg X.base cA c "__contains__" 2 k F) (hr : Room j X.A) (hk : k ≤ j) (ha : DE X cA W a ma) (hb : DE X cA W b mb) (hm : behindInMarks .NotIn b = false := by rfl) : DE X cA W (.Compare a [.NotIn] [b] pos) (mOp (fInO c true F) ma mb) := by
  obtain ⟨f, fd, ps, hs, hf, hb', F'⟩ := h
  exact de_cmp (op_ownNotIn (hr.mono hk) hs hf hb' F') s2_inO ha hb hm
theorem dt_inO {c : Str} {k j : Nat} {F : List D → Sto → Res D} {a b : Expr} {ma mb : ME} (h : SpH X.prog X.w X.K X.mg X.base cA c "__contains__" 2 k F) (hr : Room j X.A) (hk : k ≤ j) (ha : DE X cA W a ma) (hb : DE X cA W b mb) (hm : behindInMarks .In b = false := by rfl) : DT X cA W (.Compare a [.In] [b] pos) (mB (mOp (fInO c false F) ma mb)) := by
  obtain ⟨f, fd, ps, hs, hf, hb', F'⟩ := h
  exact dt_cmp (op_ownIn (hr.mono hk) hs hf hb' F') s2_inO ha hb hm
theorem dt_notInO {c : Str} {k j : Nat} {F : List D → Sto → Res D} {a b : Expr} {ma mb : ME} (h : SpH X.prog X.w X.K X.mg X.base cA c "__contains__" 2 k F) (hr : Room j X.A) (hk : k ≤ j) (ha : DE X cA W a ma) (hb : DE X cA W b mb) (hm : behindInMarks .NotIn b = false := by rfl) : DT X cA W (.Compare a [.NotIn] [b] pos) (mB (mOp (fInO c true F) ma mb)) := by
  obtain ⟨f, fd, ps, hs, hf, hb', F'⟩ := h
  exact dt_cmp (op_ownNotIn (hr.mono hk) hs hf hb' F') s2_inO ha hb hm
/-- len(x), x an instance of the class c -/
def fLenO (c : Str) (F : List D → Sto → Res D) : FL := fun xs s => match xs with
  | [x] => match insOf s c x with
    | some _ => match F [x] s with
      | .ok (.int n) s1 => if 0 ≤ n ∧ n < 2 ^ 63 then some (.int n, s1) else none
      | _ => none
    | none => none
  | _ => none
theorem sl_lenO {c : Str} {F : List D → Sto → Res D} : SndL P (fun xs H Q => ∃ a dx fs, xs = [.ref a] ∧ H a = some (.ins (P.cA c) dx fs) ∧ spM P 1 F [.ref a] H (fun v H' => ∃ n : Int, v = .int n ∧ (0 ≤ n ∧ n < 2 ^ 63) ∧ Q (.int n) H') E0) (fLenO c F) := by
  refine ⟨fun H st loc xs vs d st' Q R r h k => ?_⟩
  unfold fLenO at h
  split at h
  · rename_i x
    obtain ⟨v, rfl, rv⟩ := drs1 r
    cases q : insOf st c x with
    | none => simp only [q] at h; cases h
    | some pp =>
      obtain ⟨n, fs⟩ := pp
      simp only [q] at h
      obtain ⟨rfl, rfl, hn, dx, gs, e, r⟩ := Rel.ins R rv q
      refine ⟨_, dx, gs, rfl, e, rfl, loc, st, [.ref n], R, .cons rv .nil, ?_⟩
      cases q2 : F [.ref n] st with
      | exc c s => simp only [q2] at h; cases h
      | bad => simp only [q2] at h; cases h
      | ok d2 s2 =>
        simp only [q2] at h
        cases d2 with
        | int m =>
          simp only at h
          split at h
          · rename_i hm
            cases h
            intro loc' H' v g R' rv
            cases rv
            exact ⟨m, rfl, hm, k loc' H' _ g R' (.int _)⟩
          · cases h
        | _ => cases h
  · cases h
theorem de_lenO {c : Str} {k j : Nat} {F : List D → Sto → Res D} {p : Pos} (h : SpH X.prog X.w X.K X.mg X.base cA c "__len__" 1 k F) (hr : Room j X.A) (hk : k + 1 ≤ j) (hm : X.mg "len" = none) (ha : DA X cA W (e :: es) ms) (hg : Gl X "len" := by rfl)
    (he : starEach (e :: es) X.env = (false, eval e X.env) :: starEach es X.env := by rfl) (hpl : (backTo pos (starEach es X.env)).any (·.1) = false := by rfl) :
    DE X cA W (.Call (.Name "len" p) (e :: es) [] pos) (mFn (fLenO c F) ms) := by
  obtain ⟨f, fd, ps, hs, hf, hb', F'⟩ := h
  exact de_fn (call_lenO (hr.mono hk) hs hf hb' F') sl_lenO hm ha PySem.boot_len hg (by decide) (by decide) he hpl
end
end Dn
set_option maxRecDepth 100000
namespace Dn
open PySem PySem.Spec PyProof.Rows L2

/-! ### enumerate(list, start=k) -/
/-- items in new pairs, counted from k -/
def IteS (K : PySem.W.Frag) (a : Addr) (k : Int) : It where
  go := fun i H => ∃ (xs : List V) (x : V), SqL K H a xs ∧ xs[i]? = some x
  yld := fun i H v H' => ∃ T x, v = .ref T ∧ H T = none ∧ H' = upd H T (.tup [.int (k + (i : Nat)), x]) ∧ ∀ xs, SqL K H a xs → xs[i]? = some x
  stop := fun i H => ∃ xs : List V, SqL K H a xs ∧ xs.length = i
theorem apart3 {h : Heap} {e it a : Addr} {c : Int} {i : Nat} {old : Value} {items : Array Value} (he : IsEnum h e it c old) (hit : h.IsListIter it a i) (hl : h.IsList a items) : a ≠ it ∧ e ≠ a := by
  obtain ⟨o, ho, hc, _⟩ := hit
  obtain ⟨u, hu, hd, _⟩ := hl
  refine ⟨fun z => ?_, fun z => ?_⟩
  · subst z
    rw [ho] at hu; cases hu
    exact absurd (hd.symm.trans hc) (by simp)
  · subst z
    have he' : h.get? e = some _ := he
    rw [he'] at hu; cases hu
    exact absurd hd (by simp)
theorem turn_enumS {P : Program} {w : World} {K : PySem.W.Frag} {elts : List Expr} {kk : Nat} {tpos : Pos} (a e it : Addr) (k : Int) :
    Turn P w K (.Tuple elts kk tpos) (IteS K a k) [e, it] e (fun i h => (∃ old, IsEnum h e it (k + ((i : Nat) : Int)) old) ∧ h.IsListIter it a i ∧ e ≠ it) := by
  constructor
  · simp
  · intro i h st b hb
    obtain ⟨⟨old, he⟩, ⟨o, ho, hc, hd⟩, _⟩ := st
    rcases (show b = e ∨ b = it by simpa using hb) with z | z
    · exact z ▸ ⟨_, he, fun v q => nomatch q⟩
    · exact z ▸ ⟨o, ho, fun v q => by rw [hd] at q; cases q⟩
  · intro i h h' st kp
    obtain ⟨⟨old, he⟩, hi, hne⟩ := st
    exact ⟨⟨old, kp e (by simp) _ he⟩, hi.at fun o q => kp it (by simp) o q, hne⟩
  · intro X hP hw hK hc i pins s σ H E I hf st hg
    subst hP hw hK
    obtain ⟨⟨old, he⟩, hit, hne⟩ := st
    obtain ⟨xs, x, hq, hx⟩ := hg
    obtain ⟨its, rv, p, hz⟩ := I.list hq
    obtain ⟨u, hu, ru⟩ := rv.get hx
    have hel : e < s.heap.objs.size := Heap.lt_size he
    have hil : it < s.heap.objs.size := by obtain ⟨_, q, _⟩ := hit; exact Heap.lt_size q
    obtain ⟨hai, hae⟩ := apart3 he hit p.isList
    have dr := Draws.list (prog := X.prog) (w := X.w) (A := X.A.in1) (I.ok.hd hc) it a hai its.toArray
    apply wpAny_pyNext_enum_itemC (i := i) dr he ⟨hit, p.isList⟩ (by simpa using (List.getElem?_eq_some_iff.mp hu).1) hne (by simp [hne, hae])
    intro u' h' tk hu' ho hst' hT hsz hk
    have euu : u' = u := by
      have q : its.toArray[i]? = some u := by simpa using hu
      exact Option.some.inj (hu'.symm.trans q)
    subst euu
    have hit' := hst'.1
    refine ⟨_, rfl, ?_⟩
    apply wpAny_letOwnedTupleGo_enum (s := { s with heap := h', toks := tk + 1 }) ho
    intro h'' he' sb
    have hT2 : h''.get? s.heap.objs.size = some { cls := .type "tuple", data := .seq #[.int (k + (i : Nat)) tk, u'] } := (sb.2 _ (Nat.ne_of_gt hel)).trans hT
    have new : ObjOk X.prog X.w (upd H s.heap.objs.size (.tup [.int (k + (i : Nat)), x])) h'' s.heap.objs.size (.tup [.int (k + (i : Nat)), x]) :=
      ⟨by show 2 ≤ sizeLine; decide, [.int (k + (i : Nat)) tk, u'], .cons ⟨_, rfl⟩ (.cons ru .nil), ⟨_, hT2, rfl, _, rfl⟩⟩
    have I1 : Inv X pins σ (upd H s.heap.objs.size (.tup [.int (k + (i : Nat)), x])) { s with heap := h'', toks := tk + 1 } :=
      I.turnedNew (ch := [e, it]) (fun b ob hb q => (sb.2 b (fun z => hb (by simp [z]))).trans (hk b ob (fun z => hb (by simp [z])) (fun z => hb (by simp [z])) q)) hf (Nat.le_refl _) new
    refine ⟨.ref s.heap.objs.size, _, I1, rfl, ⟨_, x, rfl, I.hok.fresh (Nat.le_refl _), rfl, fun ys hy => by rw [I.list_inj hy hq]; exact hx⟩, ⟨⟨u', ?_⟩, hit'.at fun o q => (sb.2 it (Ne.symm hne)).trans q, hne⟩, fun b hb => ?_⟩
    · have e1 : k + ((i + 1 : Nat) : Int) = k + (i : Int) + 1 := by omega
      rw [e1]; exact he'
    · have hb' : b < s.heap.objs.size := by
        rcases (show b = e ∨ b = it by simpa using hb) with z | z
        · exact z ▸ hel
        · exact z ▸ hil
      rw [upd_ne (Nat.ne_of_lt hb')]
      exact (hf b hb).1
  · intro X hP hw hK hc i pins s σ H E I hf st hg
    subst hP hw hK
    obtain ⟨⟨old, he⟩, hit, hne⟩ := st
    obtain ⟨xs, hq, hx⟩ := hg
    obtain ⟨its, rv, p, hz⟩ := I.list hq
    obtain ⟨f0, f1, f2, f3, f4, f5⟩ := hf it (by simp)
    have hl := rv.length
    obtain ⟨hai, hae⟩ := apart3 he hit p.isList
    have dr := Draws.list (prog := X.prog) (w := X.w) (A := X.A.in1) (I.ok.hd hc) it a hai its.toArray
    have hsz : its.toArray.size = i := by
      rw [List.size_toArray, ← hl]
      exact hx
    exact wpAny_pyNext_enum_endD dr he (by rw [hsz]; exact ⟨hit, p.isList⟩) fun h' eb => ⟨rfl, I.turned (t' := s.toks) (fun b o hb q => eb b o hb q) f0 f1 f3 f4 f5⟩
  · intro A i s Q E st h
    obtain ⟨⟨_, he⟩, _⟩ := st
    exact wpAny_pyIter_enum he h
theorem callWith_type_kw {M : Model} {A : Around} {E : Value → Shared → Prop} {s : Shared} {env : Env} {pos : Pos} {T : String} {e : Expr} {rest : List Expr} {kws : List Keyword} {Q : Value → Shared → Prop}
    (h : wpAny M A (spliced (backTo pos (starEach (e :: rest) env))) (fun vs s₁ => wpAny M A (evalAll ((backToKw pos (keywordEach kws env)).map (·.2)))
      (fun kvs s₂ => wpAny M A (call (.type T) vs (((backToKw pos (keywordEach kws env)).filterMap (·.1)).zip kvs)) Q E s₂) E s₁) E s)
    (he : backTo pos (starEach (e :: rest) env) = (false, eval e env) :: backTo pos (starEach rest env))
    (hplain : (backTo pos (starEach (e :: rest) env)).any (·.1) = false)
    (hall : (backToKw pos (keywordEach kws env)).all (·.1.isSome) = true)
    (hkw : (backToKw pos (keywordEach kws env)).any (·.1.isNone) = false) :
    wpAny M A (callWith pos (.type T) [] (backTo pos (starEach (e :: rest) env)) (backToKw pos (keywordEach kws env))) Q E s := by
  have k : wpAny M A (evalArgs (.type T) true (backTo pos (starEach (e :: rest) env)) (backToKw pos (keywordEach kws env))) (fun a s₁ => wpAny M A (call (.type T) ([] ++ a.pos) a.kw) Q E s₁) E s := by
    rw [he] at h ⊢
    exact evalArgs_kwB hall h
  unfold callWith
  apply wpAny_bind
  apply wpAny_holding
  apply wpAny_mono k ?_ fun _ _ x => x
  intro a s₁ h₁
  apply wpAny_bind
  apply wpAny_standAt
  simp only [hplain, hkw, Bool.or_false]
  apply wpAny_bind
  apply wpAny_pure
  apply wpAny_bind
  apply wpAny_mono h₁ ?_ fun _ _ x => x
  intro r s₂ hr
  exact wpAny_bind (wpAny_holding (wpAny_point (wpAny_pure hr)))
theorem PostI.shift {P : Pm} {N N1 : Nat} {loc loc1 : Nat → Addr} {H H1 : Hp} {R : It → Hp → Prop} {X : Str → Hp → Prop} {r : Res (List D × Chk)} (g : Grow N loc H N1 loc1 H1) (h : PostI P N loc H R X r) : PostI P N1 loc1 H1 R X r := by
  cases r with
  | ok a s =>
    obtain ⟨xs, c⟩ := a
    exact fun loc' H' g' R' J v' => h loc' H' (g.trans g') R' J v'
  | exc c s => exact fun loc' H' g' R' => h loc' H' (g.trans g') R'
  | bad => exact h
theorem post_bindI {P : Pm} {N : Nat} {loc : Nat → Addr} {H : Hp} {R : It → Hp → Prop} {X : Str → Hp → Prop} {m : Res D} {f : D → Sto → Res (List D × Chk)} {Q : VK} (h : PostI P N loc H R X (m.bind f))
    (k : ∀ a s loc1 H1 v, Grow N loc H s.length loc1 H1 → Rel P loc1 s H1 → DR P.K H1 s.length loc1 a v → PostI P s.length loc1 H1 R X (f a s) → Q v H1) : Post P (rD P) N loc H Q X m := by
  cases m with
  | ok a s => exact fun loc' H' v g R' v' => k a s loc' H' v g R' v' (PostI.shift (r := f a s) g h)
  | exc c s => exact h
  | bad => exact h
section
variable {X : Cx} {cA : Str → Addr} {W : WX} {e : Expr} {m : ME}
def iEnumS (K : PySem.W.Frag) (ta : TE) (tk : TE) : TI := fun σ H R => (tCons ta tNil) σ H fun vs H1 => (tCons tk tNil) σ H1 fun ws H2 => ∃ a xs k, vs = [.ref a] ∧ ws = [.int k] ∧ (-(2 ^ 63) ≤ k ∧ k < 2 ^ 63) ∧ SqL K H2 a xs ∧ R (IteS K a k) H2
theorem pi_enumS {e2 : Expr} {ta tk : TE} {p pos tpos kp : Pos} {elts : List Expr} {kk : Nat} (hg : Gl X "enumerate") (hm : X.mg "enumerate" = none) (ha : PE X e ta) (hk : PE X e2 tk)
    (hs : starEach [e] X.env = (false, eval e X.env) :: starEach [] X.env) (he : backTo pos (starEach [e] X.env) = (false, eval e X.env) :: backTo pos (starEach [] X.env))
    (hpl : (backTo pos (starEach [e] X.env)).any (·.1) = false) (hall : (backToKw pos (keywordEach [⟨some (Str.ofString "start"), e2, kp⟩] X.env)).all (·.1.isSome) = true)
    (hkw : (backToKw pos (keywordEach [⟨some (Str.ofString "start"), e2, kp⟩] X.env)).any (·.1.isNone) = false) (hks : (backToKw pos (keywordEach [⟨some (Str.ofString "start"), e2, kp⟩] X.env)).filterMap (·.1) = [Str.ofString "start"]) :
    PI X (.Tuple elts kk tpos) (.Call (.Name "enumerate" p) [e] [⟨some (Str.ofString "start"), e2, kp⟩] pos) (iEnumS X.K ta tk) := by
  constructor
  intro pins s σ H R I h
  apply wpAny_Call_Name_kw (ld_blt I hg hm boot_enumerate ?_)
  apply callWith_type_kw ?_ he hpl hall hkw
  have hA : PA X [e] (tCons ta tNil) := pa_cons ha pa_nil hs
  have hK : PK X [⟨some (Str.ofString "start"), e2, kp⟩] (tCons tk tNil) := pk_cons hk pk_nil
  apply thn (hA.run pos pins s σ H _ I h)
  intro us s1 q1
  obtain ⟨vs, H1, I1, r1, q1⟩ := q1
  apply thn (hK.run pos pins s1 σ H1 _ I1 q1)
  intro ws s2 q2
  obtain ⟨zs, H2, I2, r2, a, xs, k, ev, ez, hb, hq, q⟩ := q2
  subst ev; subst ez
  rw [hks]
  cases r1 with
  | cons r rr =>
    cases rr
    cases r
    cases r2 with
    | cons r' rr =>
      cases rr
      obtain ⟨t, rfl⟩ := r'
      obtain ⟨its, rv, p', hz⟩ := I2.list hq
      show wpAny _ _ (call (.type "enumerate") [.ref a] [(Str.ofString "start", .int k t)]) _ _ _
      apply enum_begins_start (begins_list a its.toArray) p'.isList hb.1 hb.2
      intro hh he' hit hsz hkp
      apply wpAny_pyIter_enum he'
      have I3 : Inv X pins σ H2 { s2 with heap := hh } := I2.kept (t' := s2.toks) hkp
      refine ⟨s2.heap.objs.size + 1, [s2.heap.objs.size + 1, s2.heap.objs.size], _, _, H2, rfl, I3, turn_enumS a (s2.heap.objs.size + 1) s2.heap.objs.size k, ⟨⟨.none, ?_⟩, ⟨_, hit, rfl, rfl⟩, Nat.succ_ne_self _⟩, fun b hb => ?_, q⟩
      · have e0 : k + ((0 : Nat) : Int) = k := by simp
        rw [e0]; exact he'
      · have hle : s2.heap.objs.size ≤ b := by
          rcases (show b = s2.heap.objs.size + 1 ∨ b = s2.heap.objs.size by simpa using hb) with z | z
          · rw [z]; exact Nat.le_add_right _ _
          · rw [z]; exact Nat.le_refl _
        exact I2.fpOk hle (I2.hok.fresh hle)
/-- (k, first), (k + 1, second), .. -/
def enumD (k : Int) : List D → List D
  | [] => []
  | d :: r => .tup [.int k, d] :: enumD (k + 1) r
theorem enumD_length : ∀ (k : Int) (xs : List D), (enumD k xs).length = xs.length
  | _, [] => rfl
  | k, _ :: r => by simp [enumD, enumD_length (k + 1) r]
theorem enumD_get : ∀ (k : Int) (xs : List D) (i : Nat) (d : D), xs[i]? = some d → (enumD k xs)[i]? = some (.tup [.int (k + (i : Nat)), d])
  | _, [], i, d, h => by simp at h
  | k, x :: r, 0, d, h => by
    simp at h
    subst h
    simp [enumD]
  | k, x :: r, i + 1, d, h => by
    have ih := enumD_get (k + 1) r i d (by simpa using h)
    simp only [enumD, List.getElem?_cons_succ]
    rw [ih]
    have e : k + 1 + (i : Int) = k + ((i + 1 : Nat) : Int) := by omega
    rw [e]
def mEnum (k m : ME) : MI := fun e s => (m e s).bind fun x s1 => (k e s1).bind fun y s2 => match x, y with
  | .ref n, .int j => if -(2 ^ 63) ≤ j ∧ j < 2 ^ 63 then (match rdL s2 n with
    | some xs => .ok (enumD j xs, [(n, xs)]) s2
    | none => .bad) else .bad
  | _, _ => .bad
theorem itr_enum {P : Pm} {n : Nat} {xs : List D} {k : Int} {N : Nat} {loc : Nat → Addr} {H : Hp} (hn : n < N) : ItR P (IteS P.K (loc n) k) (enumD k xs) [(n, xs)] N loc H := by
  intro st loc1 H1 g R hs
  have hs : rdL st n = some xs := hs (n, xs) (by simp)
  obtain ⟨h1, vs, e, r⟩ := R.list hs
  rw [g.gloc n hn] at e
  have sq : SqL P.K H1 (loc n) vs := SqL.of e
  refine ⟨fun i hi => ?_, ⟨vs, sq, by rw [enumD_length, r.length]⟩⟩
  rw [enumD_length] at hi
  refine ⟨⟨vs, vs[i]'(by rw [← r.length]; exact hi), sq, List.getElem?_eq_getElem _⟩, fun x H2 y => ?_⟩
  obtain ⟨T, v, rfl, hT, rfl, f⟩ := y
  obtain ⟨d, hd, rd⟩ := r.getV (f vs sq)
  have G : Grow st.length loc1 H1 st.length loc1 (upd H1 T (.tup [.int (k + (i : Nat)), v])) := Grow.new hT _ _
  exact ⟨G, R.new hT, _, enumD_get k xs i d hd, .tup (SqT.of upd_same) (.cons (.int _) (.cons (rd.grow G) .nil))⟩
theorem di_enumS {e2 : Expr} {mk : ME} {p pos tpos kp : Pos} {elts : List Expr} {kk : Nat} (hm : X.mg "enumerate" = none) (ha : DE X cA W e m) (hk : DE X cA W e2 mk) (hg : Gl X "enumerate" := by rfl)
    (hs : starEach [e] X.env = (false, eval e X.env) :: starEach [] X.env := by rfl) (he : backTo pos (starEach [e] X.env) = (false, eval e X.env) :: backTo pos (starEach [] X.env) := by rfl)
    (hpl : (backTo pos (starEach [e] X.env)).any (·.1) = false := by rfl) (hall : (backToKw pos (keywordEach [⟨some (Str.ofString "start"), e2, kp⟩] X.env)).all (·.1.isSome) = true := by rfl)
    (hkw : (backToKw pos (keywordEach [⟨some (Str.ofString "start"), e2, kp⟩] X.env)).any (·.1.isNone) = false := by rfl) (hks : (backToKw pos (keywordEach [⟨some (Str.ofString "start"), e2, kp⟩] X.env)).filterMap (·.1) = [Str.ofString "start"] := by rfl) :
    DI X cA W (.Tuple elts kk tpos) (.Call (.Name "enumerate" p) [e] [⟨some (Str.ofString "start"), e2, kp⟩] pos) (mEnum mk m) := by
  obtain ⟨te, p1, s1⟩ := ha
  obtain ⟨tk, p2, s2⟩ := hk
  refine ⟨_, pi_enumS hg hm p1 p2 hs he hpl hall hkw hks, ⟨fun σ H env st loc Q er R h => ?_⟩⟩
  refine s1.run σ H env st loc _ er R (post_bindI h fun x s1' loc1 H1 v g1 R1 r1 h1 => ?_)
  refine s2.run σ H1 env s1' loc1 _ (er.grow g1) R1 (post_bindI h1 fun y s2' loc2 H2 u g2 R2 r2 h2 => ?_)
  split at h2
  · rename_i n j
    split at h2
    · rename_i hj
      cases q : rdL s2' n with
      | none => simp only [q] at h2; exact h2.elim
      | some xs =>
        simp only [q] at h2
        have r1 : DR X.K H2 s2'.length loc2 (.ref n) v := DR.grow g2 r1
        have r2 : DR X.K H2 s2'.length loc2 (.int j) u := r2
        cases r1 with
        | ref hn =>
          cases r2
          obtain ⟨_, vs, e, _⟩ := R2.list q
          exact ⟨_, vs, j, rfl, rfl, hj, SqL.of e, h2 loc2 H2 (Grow.refl _ _ _) R2 _ (itr_enum hn)⟩
    · exact h2.elim
  · exact h2.elim
end
end Dn
set_option maxRecDepth 100000
namespace Dn
open PySem PySem.Spec PyProof.Rows L2
theorem units65 {k : Nat} {A : Around} (hr : Room k A) : A.units + 65 < cLine := by
  have := hr.un
  omega
/-- the most turns of a while -/
def kw : Nat := 1000000
section
variable {X : Cx} {cA : Str → Addr} {W : WX} {a b c : Expr} {ma mb mc : ME} {pos : Pos}
def mChain (f g : F2) (a b c : ME) : ME := fun e s => (a e s).bind fun x s1 => (b e s1).bind fun y s2 => match f x y s2 with
  | some (.bl true, s3) => (c e s3).bind fun z s4 => up (g y z s4)
  | some (.bl false, s3) => .ok (.bl false) s3
  | _ => .bad
theorem snd_chain {P : Pm} {r r' : R2} {f g : F2} {ta tb tc : TE} (hf : Snd2 P r f) (hg : Snd2 P r' g) (ha : SndE P W ta ma) (hb : SndE P W tb mb) (hc : SndE P W tc mc) : SndE P W (tChain r r' ta tb tc) (mChain f g ma mb mc) := by
  refine ⟨fun σ H env st loc Q er R h => ?_⟩
  refine ha.run σ H env st loc _ er R (post_bind h fun x s1 loc1 H1 v g1 R1 d1 h1 => ?_)
  refine hb.run σ H1 env s1 loc1 _ (er.grow g1) R1 (post_bind h1 fun y s2 loc2 H2 u g2 R2 d2 h2 => ?_)
  cases q : f x y s2 with
  | none => simp only [q] at h2; exact h2.elim
  | some p =>
    obtain ⟨d, s3⟩ := p
    simp only [q] at h2
    refine hf.run H2 s2 loc2 x y v u d s3 _ R2 (DR.grow g2 d1) d2 q fun loc3 H3 z g3 R3 d3 => ?_
    have h3 := Post.shift g3 h2
    cases d with
    | bl k =>
      have d3 : DR P.K H3 s3.length loc3 (.bl k) z := d3
      cases d3
      refine ⟨k, rfl, ?_⟩
      cases k with
      | true =>
        rw [if_pos rfl]
        have h3 : Post P (rD P) s3.length loc3 H3 Q _ ((mc env s3).bind fun z s4 => up (g y z s4)) := h3
        refine hc.run σ H3 env s3 loc3 _ (((er.grow g1).grow g2).grow g3) R3 (post_bind h3 fun z s4 loc4 H4 w' g4 R4 d4 h4 => ?_)
        cases q2 : g y z s4 with
        | none => rw [q2] at h4; exact h4.elim
        | some p =>
          obtain ⟨d', s5⟩ := p
          rw [q2] at h4
          exact hg.run H4 s4 loc4 y z u w' d' s5 _ R4 (DR.grow g4 (DR.grow g3 d2)) d4 q2 h4
      | false =>
        rw [if_neg Bool.false_ne_true]
        exact h3 loc3 H3 _ (Grow.refl _ _ _) R3 (.bl false)
    | _ => exact h3.elim
theorem de_chain {op op' : CmpOp} {r r' : R2} {f g : F2} (ho : OpR X (compareOp op) r) (ho' : OpR X (compareOp op') r') (hf : Snd2 ⟨X.K, cA⟩ r f) (hg : Snd2 ⟨X.K, cA⟩ r' g) (ha : DE X cA W a ma) (hb : DE X cA W b mb) (hc : DE X cA W c mc)
    (hm : lastMarks [op, op'] [b, c] = false := by with_unfolding_all rfl) : DE X cA W (.Compare a [op, op'] [b, c] pos) (mChain f g ma mb mc) := by
  obtain ⟨ta, p1, s1⟩ := ha
  obtain ⟨tb, p2, s2⟩ := hb
  obtain ⟨tc, p3, s3⟩ := hc
  exact ⟨_, pe_chain ho ho' p1 p2 p3 hm, snd_chain hf hg s1 s2 s3⟩
theorem dt_chain {op op' : CmpOp} {r r' : R2} {f g : F2} (ho : OpR X (compareOp op) r) (ho' : OpR X (compareOp op') r') (hf : Snd2 ⟨X.K, cA⟩ r f) (hg : Snd2 ⟨X.K, cA⟩ r' g) (ha : DE X cA W a ma) (hb : DE X cA W b mb) (hc : DE X cA W c mc)
    (hm : lastMarks [op, op'] [b, c] = false := by with_unfolding_all rfl) : DT X cA W (.Compare a [op, op'] [b, c] pos) (mB (mChain f g ma mb mc)) := by
  obtain ⟨ta, p1, s1⟩ := ha
  obtain ⟨tb, p2, s2⟩ := hb
  obtain ⟨tc, p3, s3⟩ := hc
  exact ⟨_, pt_chain ho ho' p1 p2 p3 hm, snd_b (snd_chain hf hg s1 s2 s3)⟩
end
end Dn
set_option maxRecDepth 100000
namespace Dn
open PySem PySem.Spec PyProof.Rows L2

/-! ### mirrors by what they say -/
open Classical in
noncomputable def ofS (S : Res D → Prop) : Res D := if h : ∃ r, S r then Classical.choose h else .bad
theorem ofS_eq {S : Res D → Prop} {x : Res D} (h : S x) (hu : ∀ r, S r → r = x) : ofS S = x := by
  have hh : ∃ r, S r := ⟨x, h⟩
  unfold ofS
  rw [dif_pos hh]
  exact hu _ (Classical.choose_spec hh)
theorem fin_of {b : Nat} {r0 : Res D} {S : Res D → Prop} (h : ∀ r, S r → Fin b r0 r) : Fin b r0 (ofS S) := by
  unfold ofS
  split
  · rename_i hh
    exact h _ (Classical.choose_spec hh)
  · cases r0 <;> trivial
/-! ### the body's end and the mirror's -/
theorem renD_id {ρ : Nat → Nat} : ∀ {N : Nat} (d : D), wfD N d → (∀ n, n < N → ρ n = n) → renD ρ d = d
  | _, .non, _, _ => rfl
  | _, .bl _, _, _ => rfl
  | _, .int _, _, _ => rfl
  | _, .str _, _, _ => rfl
  | N, .tup ds, w, h => by
    simp only [renD]
    simp only [wfD] at w
    rw [go ds w h]
  | N, .fz ds, w, h => by
    simp only [renD]
    simp only [wfD] at w
    rw [go ds w h]
  | _, .ref n, w, h => by
    simp only [renD]
    simp only [wfD] at w
    rw [h n w]
where go {ρ : Nat → Nat} : ∀ {N : Nat} (ds : List D), wfD.wfDs N ds → (∀ n, n < N → ρ n = n) → renD.renDs ρ ds = ds
  | _, [], _, _ => rfl
  | N, d :: ds, w, h => by
    simp only [renD.renDs]
    simp only [wfD.wfDs] at w
    rw [renD_id d w.1 h, go ds w.2 h]
theorem renF_id {κ : Type} {ρ : Nat → Nat} {N : Nat} : ∀ (fs : List (κ × D)), wfF N fs → (∀ n, n < N → ρ n = n) → renF ρ fs = fs
  | [], _, _ => rfl
  | (f, d) :: r, w, h => by
    simp only [renF]
    simp only [wfF] at w
    rw [renD_id d w.1 h, renF_id r w.2 h]
theorem renO_id {ρ : Nat → Nat} {N : Nat} (o : Ob) (w : wfO N o) (h : ∀ n, n < N → ρ n = n) : renO ρ o = o := by
  cases o with
  | lst xs =>
    simp only [renO]
    simp only [wfO] at w
    rw [renD_id.go xs w h]
  | ins c fs =>
    simp only [renO]
    simp only [wfO] at w
    rw [renF_id fs w h]
  | dk fs =>
    simp only [renO]
    simp only [wfO] at w
    rw [renF_id fs w h]
  | dt fs =>
    simp only [renO]
    simp only [wfO] at w
    rw [renF_id fs w h]
  | ex c => rfl
theorem wfD_mono {N M : Nat} (hNM : N ≤ M) : ∀ (d : D), wfD N d → wfD M d
  | .non, _ => trivial
  | .bl _, _ => trivial
  | .int _, _ => trivial
  | .str _, _ => trivial
  | .tup ds, w => by simp only [wfD] at w ⊢; exact go ds w
  | .fz ds, w => by simp only [wfD] at w ⊢; exact go ds w
  | .ref n, w => by simp only [wfD] at w ⊢; omega
where go : ∀ (ds : List D), wfD.wfDs N ds → wfD.wfDs M ds
  | [], _ => trivial
  | d :: ds, w => by simp only [wfD.wfDs] at w ⊢; exact ⟨wfD_mono hNM d w.1, go ds w.2⟩
theorem wfF_mono {κ : Type} {N M : Nat} (hNM : N ≤ M) : ∀ (d : List (κ × D)), wfF N d → wfF M d
  | [], _ => trivial
  | (f, d) :: r, w => by simp only [wfF] at w ⊢; exact ⟨wfD_mono hNM d w.1, wfF_mono hNM r w.2⟩
theorem wfO_mono {N M : Nat} (hNM : N ≤ M) (o : Ob) (w : wfO N o) : wfO M o := by
  cases o with
  | lst xs => simp only [wfO] at w ⊢; exact wfD_mono.go hNM xs w
  | ins c fs => simp only [wfO] at w ⊢; exact wfF_mono hNM fs w
  | dk fs => simp only [wfO] at w ⊢; exact wfF_mono hNM fs w
  | dt fs => simp only [wfO] at w ⊢; exact wfF_mono hNM fs w
  | ex c => trivial
/-- all objects of a store lean on the first N alone -/
def wfN (N : Nat) (s : Sto) : Prop := ∀ o ∈ s, wfO N o
theorem wfS_N {s : Sto} (h : wfS s) : wfN s.length s := fun o ho => by
  obtain ⟨n, hn, e⟩ := List.getElem_of_mem ho
  exact h n o (by rw [List.getElem?_eq_getElem hn, e])
theorem wfN_S {s : Sto} (h : wfN s.length s) : wfS s := fun n o e => h o (List.mem_of_getElem? e)
theorem wfN_set {N : Nat} {s : Sto} {n : Nat} {o : Ob} (h : wfN N s) (w : wfO N o) : wfN N (s.set n o) := fun u hu => by
  rcases List.mem_or_eq_of_mem_set hu with q | q
  · exact h u q
  · exact q ▸ w
theorem wfN_app {N : Nat} {s t : Sto} (h : wfN N s) (w : wfN N t) : wfN N (s ++ t) := fun u hu => by
  rcases List.mem_append.mp hu with q | q
  · exact h u q
  · exact w u q
theorem wfN_mono {N M : Nat} (hNM : N ≤ M) {s : Sto} (h : wfN N s) : wfN M s := fun u hu => wfO_mono hNM u (h u hu)
/-- the objects kept: those of s, where s0 is s with more behind -/
theorem ren_pre {b : Nat} {s g : Sto} (hb : b ≤ s.length) (w : wfN s.length s) : Ren b (s ++ g) s id where
  le := hb
  lo := fun _ _ => rfl
  hi := fun _ h _ => h
  lt := fun n hn => by rw [List.length_append]; show n < _; omega
  inj := fun _ _ _ _ h => h
  ob := fun n o e => by
    have hn := (List.getElem?_eq_some_iff.mp e).1
    have ww := w o (List.mem_of_getElem? e)
    refine ⟨?_, ww⟩
    rw [show id n = n from rfl, List.getElem?_append_left hn, e, renO_id (ρ := id) o ww fun _ _ => rfl]
/-- new things forgotten -/
theorem fin_drop {b : Nat} {d : D} {s g : Sto} {s0 : Sto} (e : s0 = s ++ g) (hb : b ≤ s.length) (w : wfN s.length s) (wd : wfD s.length d) : Fin b (.ok d s0) (.ok d s) :=
  ⟨s0, id, by rw [e]; exact ren_pre hb w, by rw [renD_id (ρ := id) d wd fun _ _ => rfl], wd⟩
theorem fin_exc {b : Nat} {c : Str} {s g : Sto} {s0 : Sto} (e : s0 = s ++ g) (hb : b ≤ s.length) (w : wfN s.length s) : Fin b (.exc c s0) (.exc c s) :=
  ⟨s0, id, by rw [e]; exact ren_pre hb w, rfl⟩
theorem fin_same {b : Nat} {d : D} {s : Sto} (hb : b ≤ s.length) (w : wfN s.length s) (wd : wfD s.length d) : Fin b (.ok d s) (.ok d s) := fin_drop (g := []) (by simp) hb w wd
/-- one new object kept of those behind: it moves to the first place -/
def mv1 (b m : Nat) : Nat → Nat := fun n => if n = b then m else n
theorem ren_one {s g : Sto} {m : Nat} {o : Ob} (w : wfN s.length s) (wo : wfO s.length o) (hm : g[m]? = some o) : Ren s.length (s ++ g) (s ++ [o]) (mv1 s.length (s.length + m)) where
  le := by rw [List.length_append]; omega
  lo := fun n hn => if_neg (by omega)
  hi := fun n h1 h2 => by
    rw [List.length_append] at h2
    simp at h2
    have e : n = s.length := by omega
    unfold mv1
    rw [if_pos e]
    omega
  lt := fun n h2 => by
    rw [List.length_append] at h2 ⊢
    simp at h2
    have := (List.getElem?_eq_some_iff.mp hm).1
    unfold mv1
    split <;> omega
  inj := fun n k h1 h2 z => by
    rw [List.length_append] at h1 h2
    simp at h1 h2
    unfold mv1 at z
    split at z <;> split at z <;> omega
  ob := fun n u e => by
    rw [List.length_append]
    have idl : ∀ n, n < s.length → mv1 s.length (s.length + m) n = n := fun n hn => if_neg (by omega)
    by_cases hn : n < s.length
    · rw [List.getElem?_append_left hn] at e
      have ww := w u (List.mem_of_getElem? e)
      refine ⟨?_, wfO_mono (by omega) u ww⟩
      rw [idl n hn, List.getElem?_append_left hn, e, renO_id u ww idl]
    · have hl := (List.getElem?_eq_some_iff.mp e).1
      rw [List.length_append] at hl
      simp at hl
      have en : n = s.length := by omega
      subst en
      rw [List.getElem?_append_right (Nat.le_refl _)] at e
      simp at e
      subst e
      refine ⟨?_, wfO_mono (by omega) _ wo⟩
      rw [renO_id o wo idl, show mv1 s.length (s.length + m) s.length = s.length + m from if_pos rfl, List.getElem?_append_right (by omega), Nat.add_sub_cancel_left, hm]
/-- a new list given back, all else that is new forgotten -/
theorem fin_one {d : D} {s g s0 : Sto} {m : Nat} {o : Ob} (e : s0 = s ++ g) (w : wfN s.length s) (wo : wfO s.length o) (hm : g[m]? = some o) (hd : d = .ref (s.length + m)) : Fin s.length (.ok d s0) (.ok (.ref s.length) (s ++ [o])) := by
  refine ⟨s0, mv1 s.length (s.length + m), by rw [e]; exact ren_one w wo hm, ?_, ?_⟩
  · simp only [renD]
    unfold mv1
    rw [if_pos rfl, hd]
  · simp only [wfD]
    rw [List.length_append]
    simp
theorem fin_one' {b : Nat} {d : D} {s g s0 : Sto} {m : Nat} {o : Ob} (hb : b = s.length) (e : s0 = s ++ g) (w : wfN s.length s) (wo : wfO s.length o) (hm : g[m]? = some o) (hd : d = .ref (s.length + m)) : Fin b (.ok d s0) (.ok (.ref s.length) (s ++ [o])) := by
  subst hb
  exact fin_one e w wo hm hd
/-! ### reading stores -/
theorem rdL_get {s : Sto} {n : Nat} {xs : List D} (h : s[n]? = some (.lst xs)) : rdL s n = some xs := by unfold rdL; rw [h]
theorem rdL_set_same {s : Sto} {n : Nat} {xs : List D} (h : n < s.length) : rdL (s.set n (.lst xs)) n = some xs := rdL_get (List.getElem?_set_self h)
theorem rdL_set_ne {s : Sto} {n m : Nat} {o : Ob} (h : n ≠ m) : rdL (s.set n o) m = rdL s m := by unfold rdL; rw [List.getElem?_set_ne h]
theorem rdL_app {s t : Sto} {n : Nat} (h : n < s.length) : rdL (s ++ t) n = rdL s n := by unfold rdL; rw [List.getElem?_append_left h]
theorem rdL_lt {s : Sto} {n : Nat} {xs : List D} (h : rdL s n = some xs) : n < s.length := (List.getElem?_eq_some_iff.mp (rdL_some h)).1
theorem rdL_app' {s t : Sto} {n : Nat} {xs : List D} (h : rdL s n = some xs) : rdL (s ++ t) n = some xs := by rw [rdL_app (rdL_lt h)]; exact h
theorem rdL_new {s : Sto} {xs : List D} {t : Sto} : rdL (s ++ .lst xs :: t) s.length = some xs := rdL_get (by simp)
theorem set_app {s t : Sto} {n : Nat} {o : Ob} (h : n < s.length) : (s ++ t).set n o = s.set n o ++ t := by rw [List.set_append_left _ _ h]
theorem stays_nil {s : Sto} : Stays [] s := fun _ h => by cases h
theorem stays_one {s : Sto} {n : Nat} {xs : List D} (h : rdL s n = some xs) : Stays [(n, xs)] s := fun p hp => by
  have e : p = (n, xs) := by simpa using hp
  subst e
  exact h
theorem wf_ints {N : Nat} : ∀ {ns : List Int}, wfD.wfDs N (ns.map D.int)
  | [] => trivial
  | _ :: r => ⟨trivial, wf_ints (ns := r)⟩
end Dn
set_option maxRecDepth 100000
namespace Dn
open PySem PySem.Spec PyProof.Rows L2
/-- what the law promises: of every script of ints it gives True -/
def spL (n : Nat) (K : PySem.W.Frag) : Sp := fun vs H Q _ => ∃ (a : Addr) (ns : List Int), vs = [.ref a] ∧ ns.length ≤ n ∧ Only H ∧ SqL K H a (ns.map V.int) ∧ ∀ H', Q (.bl true) H'
/-- from what its mirror says of every script -/
theorem law_imp {P : Program} {w : World} {K : PySem.W.Frag} {mg : Str → Option Value} {base : Heap} {CX : CXT} {k : Nat} {f : Addr} {fd : FuncData} {ps : List Str} {F : List D → Sto → Res D} {n : Nat} {cA : Str → Addr} (h : FnOk P w K mg base CX k f fd ps (spM ⟨K, cA⟩ 1 F))
    (hF : ∀ ns : List Int, ns.length ≤ n → ∃ st, F [.fz (ns.map .int)] [] = .ok (.bl true) st) : FnOk P w K mg base CX k f fd ps (spL n K) := by
  apply h.imp
  rintro vs H Q E ⟨a, ns, rfl, hl, hO, hS, q⟩
  obtain ⟨st, e⟩ := hF ns hl
  have hf : SqF K H a (ns.map V.int) := by
    rcases hS with (h | ⟨o, h⟩) | h
    · rcases hO a with z | ⟨o, xs, z⟩
      · rw [z] at h; cases h
      · rw [z] at h; cases h
    · exact .inl ⟨o, h⟩
    · exact .inr h
  refine ⟨rfl, fun _ => 0, [], [.fz (ns.map .int)], ⟨fun n o h => by simp at h, fun n m h => by simp at h⟩, .cons (.fz hf .ints) .nil, ?_⟩
  rw [e]
  intro loc' H' v g R r
  cases r
  exact q H'
theorem cx_false {P : Program} {w : World} {H : Hp} {s : Shared} {e : Value} {s' : Shared} (h : L2.CX P w [] H s (fun _ _ _ => False) e s') : False := by
  obtain ⟨_, _, _, _, _, _, _, _, _, _, _, _, z⟩ := h
  exact z.elim
end Dn
set_option maxRecDepth 100000
namespace Dn
open PySem PySem.Spec PyProof.Rows L2

/-! ### how a reading is reckoned -/
section
variable {α β : Type} {a : α} {s s1 : Sto} {c : Str} {e : En} {d : D} {i j n : Nat} {f : F2} {x y z m : ME} {t u : MT} {p q : MS} {g : MG} {ms : MA}
@[simp] theorem bind_ok {k : α → Sto → Res β} : (Res.ok a s).bind k = k a s := rfl
@[simp] theorem bind_exc {k : α → Sto → Res β} : (Res.exc c s : Res α).bind k = .exc c s := rfl
@[simp] theorem bind_bad {k : α → Sto → Res β} : (Res.bad : Res α).bind k = .bad := rfl
@[simp] theorem bindS_ok {k : α → Sto → SR} : bindS (.ok a s) e k = k a s := rfl
@[simp] theorem bindS_exc {k : α → Sto → SR} : bindS (.exc c s : Res α) e k = .exc c e s := rfl
@[simp] theorem bindS_bad {k : α → Sto → SR} : bindS (.bad : Res α) e k = .bad := rfl
@[simp] theorem seqS_nx {k : En → Sto → SR} : seqS (.nx e s) k = k e s := rfl
@[simp] theorem seqS_ret {k : En → Sto → SR} : seqS (.ret d s) k = .ret d s := rfl
@[simp] theorem seqS_brk {k : En → Sto → SR} : seqS (.brk e s) k = .brk e s := rfl
@[simp] theorem seqS_cnt {k : En → Sto → SR} : seqS (.cnt e s) k = .cnt e s := rfl
@[simp] theorem seqS_exc {k : En → Sto → SR} : seqS (.exc c e s) k = .exc c e s := rfl
@[simp] theorem up_some : up (some (a, s)) = .ok a s := rfl
@[simp] theorem up_none : up (none : Option (α × Sto)) = .bad := rfl
@[simp] theorem ev_c : mC d e s = .ok d s := rfl
@[simp] theorem ev_var : mVar i e s = match e[i]? with
  | some (some d) => .ok d s
  | _ => .bad := rfl
@[simp] theorem ev_op : mOp f x y e s = (x e s).bind fun a s1 => (y e s1).bind fun b s2 => up (f a b s2) := rfl
@[simp] theorem ev_un {f : F1} : mUn f x e s = (x e s).bind fun a s1 => up (f a s1) := rfl
@[simp] theorem ev_b : mB x e s = asB (x e s) := rfl
@[simp] theorem asB_ok {b : Bool} : asB (.ok (.bl b) s) = .ok b s := rfl
@[simp] theorem asB_exc : asB (.exc c s) = .exc c s := rfl
@[simp] theorem ev_and : mAnd t u e s = (t e s).bind fun b s1 => if b = true then u e s1 else .ok false s1 := rfl
@[simp] theorem ev_or : mOr t u e s = (t e s).bind fun b s1 => if b = true then .ok true s1 else u e s1 := rfl
@[simp] theorem ev_not : mNot t e s = (t e s).bind fun b s1 => .ok (!b) s1 := rfl
@[simp] theorem ev_andV : mAndV x y e s = (asB (x e s)).bind fun b s1 => if b = true then y e s1 else .ok (.bl false) s1 := rfl
@[simp] theorem ev_orV : mOrV x y e s = (asB (x e s)).bind fun b s1 => if b = true then .ok (.bl true) s1 else y e s1 := rfl
@[simp] theorem ev_notV : mNotV x e s = (asB (x e s)).bind fun b s1 => .ok (.bl (!b)) s1 := rfl
@[simp] theorem ev_if : mIf t x y e s = (t e s).bind fun b s1 => if b = true then x e s1 else y e s1 := rfl
@[simp] theorem ev_nil : mNil e s = .ok [] s := rfl
@[simp] theorem ev_cons : mCons x ms e s = (x e s).bind fun a s1 => (ms e s1).bind fun as s2 => .ok (a :: as) s2 := rfl
@[simp] theorem ev_tup : mTup ms e s = (ms e s).bind fun xs s1 => if xs.length ≤ 100000 then .ok (.tup xs) s1 else .bad := rfl
@[simp] theorem ev_lst : mLst ms e s = (ms e s).bind fun xs s1 => if xs.length ≤ 100000 then .ok (.ref s1.length) (s1 ++ [.lst xs]) else .bad := rfl
@[simp] theorem ev_next : mNext e s = .nx e s := rfl
@[simp] theorem ev_seq : mSeq p q e s = seqS (p e s) q := rfl
@[simp] theorem ev_set : mSet i m e s = bindS (m e s) e fun d s1 => .nx (e.set i (some d)) s1 := rfl
@[simp] theorem ev_asg : mAsg m g e s = bindS (m e s) e fun d s1 => match g d e s1 with
  | .nx e1 s2 => .nx e1 s2
  | _ => .bad := rfl
@[simp] theorem ev_drop : mDrop m e s = bindS (m e s) e fun _ s1 => .nx e s1 := rfl
@[simp] theorem ev_ret : mRet m e s = bindS (m e s) e fun d s1 => .ret d s1 := rfl
@[simp] theorem ev_retN : mRetN e s = .ret .non s := rfl
@[simp] theorem ev_raise : mRaise c e s = .exc c e s := rfl
@[simp] theorem ev_ifS : mIfS t p q e s = bindS (t e s) e fun b s1 => if b = true then p e s1 else q e s1 := rfl
@[simp] theorem ev_par : mPar i j x y e s = bindS (x e s) e fun a s1 => bindS (y e s1) e fun b s2 => .nx ((e.set i (some a)).set j (some b)) s2 := rfl
@[simp] theorem ev_gN : gN i d e s = .nx (e.set i (some d)) s := rfl
@[simp] theorem ev_gT {r : List D → En → Sto → SR} {ds : List D} : gT n r (.tup ds) e s = if ds.length = n then r ds e s else .bad := rfl
@[simp] theorem ev_gNil : gNilM [] e s = .nx e s := rfl
@[simp] theorem ev_gCons {r : List D → En → Sto → SR} {ds : List D} : gConsM g r (d :: ds) e s = match g d e s with
  | .nx e1 s1 => r ds e1 s1
  | _ => .bad := rfl
@[simp] theorem ev_gSub {f : F3} : gSubM f x y d e s = match x e s with
  | .ok a s1 => match y e s1 with
    | .ok b s2 => match f a b d s2 with
      | some s3 => .nx e s3
      | none => .bad
    | _ => .bad
  | _ => .bad := rfl
@[simp] theorem ev_call {F : List D → Sto → Res D} : mCall F ms e s = (ms e s).bind fun ds s1 => F ds s1 := rfl
@[simp] theorem ev_fn {f : FL} : mFn f ms e s = (ms e s).bind fun xs s1 => up (f xs s1) := rfl
@[simp] theorem ev_meth {f : FM} : mMeth f x ms e s = (x e s).bind fun a s1 => if isLst s1 a = true then (ms e s1).bind fun xs s2 => up (f a xs s2) else .bad := rfl
@[simp] theorem ev_yes : mYes e s = .ok true s := rfl
@[simp] theorem isLst_ref : isLst s (.ref n) = (rdL s n).isSome := rfl
/-- a body's end within a loop -/
def loopS (r : SR) (k : En → Sto → SR) : SR := match r with
  | .nx e s => k e s
  | .cnt e s => k e s
  | .brk e s => .nx e s
  | .ret d s => .ret d s
  | .exc c e s => .exc c e s
  | .bad => .bad
@[simp] theorem loopS_nx {k : En → Sto → SR} : loopS (.nx e s) k = k e s := rfl
@[simp] theorem loopS_cnt {k : En → Sto → SR} : loopS (.cnt e s) k = k e s := rfl
@[simp] theorem loopS_brk {k : En → Sto → SR} : loopS (.brk e s) k = .nx e s := rfl
@[simp] theorem loopS_ret {k : En → Sto → SR} : loopS (.ret d s) k = .ret d s := rfl
@[simp] theorem loopS_exc {k : En → Sto → SR} : loopS (.exc c e s) k = .exc c e s := rfl
theorem for_nil {ck : Chk} (h : Stays ck s) : forS ck g p [] e s = .nx e s := by
  unfold forS
  rw [if_pos h]
theorem for_cons {ck : Chk} {r : List D} (h : Stays ck s) : forS ck g p (d :: r) e s = match g d e s with
    | .nx e1 s1 => loopS (p e1 s1) fun e2 s2 => forS ck g p r e2 s2
    | _ => .bad := by
  rw [forS]
  rw [if_pos h]
  cases g d e s with
  | nx e1 s1 =>
    simp only
    cases p e1 s1 <;> rfl
  | _ => rfl
@[simp] theorem for_nil0 : forS [] g p [] e s = .nx e s := for_nil stays_nil
@[simp] theorem for_cons0 {r : List D} : forS [] g p (d :: r) e s = match g d e s with
    | .nx e1 s1 => loopS (p e1 s1) fun e2 s2 => forS [] g p r e2 s2
    | _ => .bad := for_cons stays_nil
@[simp] theorem ev_for {mi : MI} : mFor mi g p e s = bindS (mi e s) e fun q s1 => forS q.2 g p q.1 e s1 := rfl
theorem ev_while {k : Nat} : mWhile (k + 1) t p e s = bindS (t e s) e fun b s1 => if b = true then loopS (p e s1) (fun e2 s2 => mWhile k t p e2 s2) else .nx e s1 := by
  unfold mWhile
  rw [whileS]
  cases t e s with
  | ok b s1 =>
    simp only [bindS_ok]
    by_cases hb : b = true
    · simp only [if_pos hb]
      cases p e s1 <;> rfl
    · simp only [if_neg hb]
  | exc c s => rfl
  | bad => rfl
theorem lc_nil {ck : Chk} {vs : List Nat} {acc : List D} (h : Stays ck s) : lcS ck vs g t m e [] acc s = .ok acc s := by
  unfold lcS
  rw [if_pos h]
theorem lc_cons {ck : Chk} {vs : List Nat} {acc r : List D} (h : Stays ck s) : lcS ck vs g t m e (d :: r) acc s = match g d (wipeE e vs) s with
    | .nx e1 s1 => (match t e1 s1 with
        | .ok b s2 => if b = true then (match m e1 s2 with
            | .ok y s3 => lcS ck vs g t m e r (acc ++ [y]) s3
            | _ => .bad) else lcS ck vs g t m e r acc s2
        | _ => .bad)
    | _ => .bad := by
  rw [lcS]
  rw [if_pos h]
  all_goals
    (cases g d (wipeE e vs) s with
    | nx e1 s1 =>
      simp only []
      all_goals
        (cases t e1 s1 with
        | ok b s2 =>
          simp only []
          all_goals
            (by_cases hb : b = true
             · simp only [if_pos hb]
               all_goals (cases m e1 s2 <;> rfl)
             · simp only [if_neg hb])
        | exc c s2 => rfl
        | bad => rfl)
    | _ => rfl)
@[simp] theorem lc_nil0 {vs : List Nat} {acc : List D} : lcS [] vs g t m e [] acc s = .ok acc s := lc_nil stays_nil
@[simp] theorem ev_lc {vs : List Nat} {mi : MI} : mLc vs mi g t m e s = (mi e s).bind fun p s1 => if p.1.length ≤ 100000 then (lcS p.2 vs g t m e p.1 [] s1).bind fun acc s2 => .ok (.ref s2.length) (s2 ++ [.lst acc]) else .bad := rfl
@[simp] theorem ev_iter : mIter m e s = (m e s).bind fun d s1 => up (fIter d s1) := rfl
@[simp] theorem ev_rng : mRng ms e s = (ms e s).bind fun ds s1 => up (fRng ds s1) := rfl
@[simp] theorem ev_slice {lo hi : MO} : mSlice x lo hi e s = (x e s).bind fun a s1 => (lo e s1).bind fun l s2 => (hi e s2).bind fun u s3 => match a with
  | .ref n => match rdL s3 n with
    | some xs => .ok (.ref s3.length) (s3 ++ [.lst (cutD xs l u)])
    | none => .bad
  | .fz xs => .ok (.ref s3.length) (s3 ++ [.lst (cutD xs l u)])
  | _ => .bad := rfl
@[simp] theorem ev_noP : mNoP e s = .ok none s := rfl
@[simp] theorem ev_part : mPart m e s = match m e s with
  | .ok (.int i) s1 => .ok (some i) s1
  | .exc c s1 => .exc c s1
  | _ => .bad := rfl
@[simp] theorem ev_rev : mRev x e s = (x e s).bind fun a s1 => match a with
  | .ref n => match rdL s1 n with
    | some xs => .ok (.ref s1.length) (s1 ++ [.lst xs.reverse])
    | none => .bad
  | _ => .bad := rfl
@[simp] theorem ev_isi {T : String} : mIsi T x e s = (x e s).bind fun a s1 => match tyD s1 a with
  | some t => match kitB t T with
    | some b => .ok (.bl b) s1
    | none => .bad
  | none => .bad := rfl
@[simp] theorem ev_fld {c f : Str} : mFld c f x e s = (x e s).bind fun a s1 => match insOf s1 c a with
  | some (_, fs) => match fs.lookup f with
    | some d => .ok d s1
    | none => .bad
  | none => .bad := rfl
@[simp] theorem ev_setF {c f : Str} : mSetF c f x y e s = bindS (y e s) e fun d s1 => bindS (x e s1) e fun a s2 => match insOf s2 c a with
  | some (n, fs) => if fs.length < 1000 then .nx e (s2.set n (.ins c (putD f d fs))) else .bad
  | none => .bad := rfl
@[simp] theorem ev_methO {c m : Str} {F : List D → Sto → Res D} : mMethO c m F x ms e s = (x e s).bind fun a s1 => match insOf s1 c a with
  | some (_, fs) => if (fs.lookup m).isNone = true then (ms e s1).bind fun xs s2 => F (a :: xs) s2 else .bad
  | none => .bad := rfl
@[simp] theorem ev_make {c : Str} {F : List D → Sto → Res D} : mMake c F ms e s = (ms e s).bind fun xs s1 => noneTo (.ref s1.length) (F (.ref s1.length :: xs) (s1 ++ [.ins c []])) := rfl
@[simp] theorem noneTo_ok : noneTo d (.ok .non s) = .ok d s := rfl
@[simp] theorem noneTo_exc : noneTo d (.exc c s) = .exc c s := rfl
@[simp] theorem ev_prop {c : Str} {F : List D → Sto → Res D} : mProp c F x e s = (x e s).bind fun a s1 => match insOf s1 c a with
  | some _ => noX (F [a] s1)
  | none => .bad := rfl
@[simp] theorem noX_ok : noX (.ok d s) = .ok d s := rfl
@[simp] theorem ev_chain {f g : F2} : mChain f g x y z e s = (x e s).bind fun a s1 => (y e s1).bind fun b s2 => match f a b s2 with
  | some (.bl true, s3) => (z e s3).bind fun c s4 => up (g b c s4)
  | some (.bl false, s3) => .ok (.bl false) s3
  | _ => .bad := rfl
@[simp] theorem ret_nx : retR (.nx e s) = .ok .non s := rfl
@[simp] theorem ret_ret : retR (.ret d s) = .ok d s := rfl
@[simp] theorem ret_exc : retR (.exc c e s) = .exc c s := rfl
/-! operators on what is known -/
@[simp] theorem add_int {i j : Int} : fAdd (.int i) (.int j) s = some (.int (i + j), s) := rfl
@[simp] theorem sub_int {i j : Int} : fSub (.int i) (.int j) s = some (.int (i - j), s) := rfl
@[simp] theorem cmp_int {p : Int → Int → Bool} {i j : Int} : fCmp p (.int i) (.int j) s = some (.bl (p i j), s) := rfl
@[simp] theorem neg_int' {i : Int} : fNeg (.int i) s = some (.int (-i), s) := rfl
@[simp] theorem int_int {i : Int} : fInt [.int i] s = some (.int i, s) := rfl
theorem mod_int {i j : Int} (h : 0 < j) : fMod (.int i) (.int j) s = some (.int (i % j), s) := if_pos h
theorem div_int {i j : Int} (h : 0 < j) (h2 : j < 1073741824) : fDiv (.int i) (.int j) s = some (.int (i / j), s) := if_pos ⟨h, h2⟩
theorem mul_int' {i j : Int} (h : (-(2 ^ 64) < i ∧ i < 2 ^ 64) ∨ (-(2 ^ 64) < j ∧ j < 2 ^ 64)) : fMul (.int i) (.int j) s = some (.int (i * j), s) := if_pos h
@[simp] theorem eqD_int {i j : Int} : eqD s (.int i) (.int j) = some (i == j) := by
  simp [eqD, toPy, SeqAt.shaped, PyData.canLay0, PyData.depth, PyData.eqv]
@[simp] theorem eq_int' {i j : Int} : fEq (.int i) (.int j) s = some (.bl (i == j), s) := by
  simp [fEq]
@[simp] theorem ne_int' {i j : Int} : fNe (.int i) (.int j) s = some (.bl (!(i == j)), s) := by
  simp [fNe]
theorem idx_some {xs : List D} {i : Int} {x : D} (h : seqD s x = some xs) (h2 : atI xs i = some d) : fIdx x (.int i) s = some (d, s) := by
  simp [fIdx, h, h2]
theorem idx_ref {xs : List D} {i : Int} (h : rdL s n = some xs) (h2 : atI xs i = some d) : fIdx (.ref n) (.int i) s = some (d, s) := idx_some (x := .ref n) h h2
theorem idx_tup {xs : List D} {i : Int} (h2 : atI xs i = some d) : fIdx (.tup xs) (.int i) s = some (d, s) := idx_some (x := .tup xs) rfl h2
theorem len_ref {xs : List D} (h : rdL s n = some xs) : fLen [.ref n] s = some (.int xs.length, s) := by
  simp [fLen, seqD, h]
theorem append_ref {xs : List D} (h : rdL s n = some xs) (h2 : xs.length < 100000) : fAppend (.ref n) [d] s = some (.non, s.set n (.lst (xs ++ [d]))) := by
  simp [fAppend, h, h2]
theorem setI_ref {xs : List D} {i : Int} (h : rdL s n = some xs) (h2 : ixN xs.length i = some j) : fSetI (.ref n) (.int i) d s = some (s.set n (.lst (xs.set j d))) := by
  simp [fSetI, h, h2]
theorem rng_nil {lo : Int} : rng lo 0 = [] := rfl
theorem rng_cons {lo : Int} {k : Nat} : rng lo (k + 1) = .int lo :: rng (lo + 1) k := by
  unfold rng
  rw [List.range_succ_eq_map, List.map_cons, List.map_map]
  congr 1
  · simp
  · apply List.map_congr_left
    intro i _
    show D.int (lo + ((i + 1 : Nat) : Int)) = D.int (lo + 1 + (i : Int))
    congr 1
    omega
theorem rng_len {lo : Int} {k : Nat} : (rng lo k).length = k := by
  unfold rng
  simp
theorem atI_nat' {α : Type} {xs : List α} {i : Int} {x : α} (h0 : 0 ≤ i) (h : xs[i.toNat]? = some x) : atI xs i = some x := by
  have hl := (List.getElem?_eq_some_iff.mp h).1
  unfold atI ixN
  rw [if_pos h0, if_pos (by omega)]
  exact h
end
end Dn
set_option maxRecDepth 100000
namespace Dn
open PySem PySem.Spec PyProof.Rows L2
/-! ### operators, by what the store holds -/
section
variable {s : Sto} {n m j : Nat} {i k : Int} {d x : D} {xs ys : List D}
theorem fin_bad {b : Nat} {r : Res D} : Fin b r .bad := by cases r <;> trivial
@[simp] theorem seqD_ref : seqD s (.ref n) = rdL s n := rfl
@[simp] theorem seqD_tup : seqD s (.tup xs) = some xs := rfl
@[simp] theorem seqD_fz : seqD s (.fz xs) = some xs := rfl
@[simp] theorem ix_ref : fIdx (.ref n) (.int i) s = match rdL s n with
  | some xs => (atI xs i).map fun d => (d, s)
  | none => none := rfl
@[simp] theorem ix_tup : fIdx (.tup xs) (.int i) s = (atI xs i).map fun d => (d, s) := rfl
@[simp] theorem ix_fz : fIdx (.fz xs) (.int i) s = (atI xs i).map fun d => (d, s) := rfl
@[simp] theorem ln_ref : fLen [.ref n] s = (rdL s n).map fun ys => (.int ys.length, s) := rfl
@[simp] theorem ln_tup : fLen [.tup xs] s = some (.int xs.length, s) := rfl
@[simp] theorem ln_fz : fLen [.fz xs] s = some (.int xs.length, s) := rfl
@[simp] theorem ap_ref : fAppend (.ref n) [d] s = match rdL s n with
  | some ys => if ys.length < 100000 then some (.non, s.set n (.lst (ys ++ [d]))) else none
  | none => none := rfl
@[simp] theorem pp_ref : fPop (.ref n) [] s = match rdL s n with
  | some ys => match ys[ys.length - 1]? with
    | some d => some (d, s.set n (.lst ys.dropLast))
    | none => none
  | none => none := rfl
@[simp] theorem st_ref : fSetI (.ref n) (.int k) d s = match rdL s n with
  | some xs => match ixN xs.length k with
    | some j => some (s.set n (.lst (xs.set j d)))
    | none => none
  | none => none := rfl
@[simp] theorem it_ref : fIter (.ref n) s = (rdL s n).map fun xs => ((xs, [(n, xs)]), s) := rfl
@[simp] theorem it_tup : fIter (.tup xs) s = some ((xs, []), s) := rfl
@[simp] theorem it_fz : fIter (.fz xs) s = some ((xs, []), s) := rfl
@[simp] theorem lsF_ref : fList [.ref n] s = (rdL s n).map fun ys => (.ref s.length, s ++ [.lst ys]) := rfl
@[simp] theorem tpF_ref : fTuple [.ref n] s = (rdL s n).map fun ys => (.tup ys, s) := rfl
@[simp] theorem mod_ii : fMod (.int i) (.int k) s = if 0 < k then some (.int (i % k), s) else none := rfl
@[simp] theorem div_ii : fDiv (.int i) (.int k) s = if 0 < k ∧ k < 1073741824 then some (.int (i / k), s) else none := rfl
@[simp] theorem mul_ii : fMul (.int i) (.int k) s = if (-(2 ^ 64) < i ∧ i < 2 ^ 64) ∨ (-(2 ^ 64) < k ∧ k < 2 ^ 64) then some (.int (i * k), s) else none := rfl
@[simp] theorem pow_ii : fPow (.int i) (.int k) s = if 0 ≤ k ∧ k ≤ 1000000 ∧ i.natAbs < 2 ^ 64 then some (.int (i ^ k.toNat), s) else none := rfl
@[simp] theorem add_rr : fAdd (.ref n) (.ref m) s = match rdL s n, rdL s m with
  | some xs, some ys => if xs.length + ys.length ≤ 100000 then some (.ref s.length, s ++ [.lst (xs ++ ys)]) else none
  | _, _ => none := rfl
theorem atI_at {α : Type} {xs : List α} {i : Int} {j : Nat} (h : ixN xs.length i = some j) : atI xs i = xs[j]? := by
  unfold atI
  rw [h]
  rfl
@[simp] theorem atI_zero {α : Type} {x : α} {r : List α} : atI (x :: r) 0 = some x := by
  rw [atI_at (j := 0) (by unfold ixN; simp)]
  rfl
@[simp] theorem atI_one {α : Type} {x y : α} {r : List α} : atI (x :: y :: r) 1 = some y := by
  rw [atI_at (j := 1) (by unfold ixN; simp; omega)]
  rfl
@[simp] theorem ixN_zero {N : Nat} : ixN (N + 1) 0 = some 0 := by
  unfold ixN
  simp
theorem ixN_in {N : Nat} {i : Int} (h0 : 0 ≤ i) (h1 : i < N) : ixN N i = some i.toNat := by
  unfold ixN
  rw [if_pos h0, if_pos (by omega)]
theorem rdL_ref {h : s[n]? = some (.lst xs)} : rdL s n = some xs := rdL_get h
theorem set_id {o : Ob} (h : s[n]? = some o) : s.set n o = s := by
  apply List.ext_getElem?
  intro i
  rw [List.getElem?_set]
  split
  · rename_i q
    subst q
    split
    · exact h.symm
    · rename_i w
      exact absurd (List.getElem?_eq_some_iff.mp h).1 w
  · rfl
theorem set_idL (h : rdL s n = some xs) : s.set n (.lst xs) = s := set_id (rdL_some h)
theorem rdL_set {o : Ob} : rdL (s.set n o) m = if n = m then (if m < s.length then (match o with | .lst xs => some xs | _ => none) else none) else rdL s m := by
  split
  · rename_i q
    subst q
    unfold rdL
    rw [List.getElem?_set]
    simp only [if_true]
    split
    · cases o <;> simp_all
    · simp_all
  · rename_i q
    exact rdL_set_ne q
theorem rdL_append {t : Sto} : rdL (s ++ t) n = if n < s.length then rdL s n else rdL t (n - s.length) := by
  unfold rdL
  rw [List.getElem?_append]
  by_cases h : n < s.length <;> simp only [h, if_true, if_false]
@[simp] theorem rdL_zero {t : Sto} : rdL (.lst xs :: t) 0 = some xs := rfl
@[simp] theorem rdL_succ {o : Ob} {t : Sto} : rdL (o :: t) (n + 1) = rdL t n := rfl
@[simp] theorem intsD_ints : ∀ {ns : List Int}, intsD (ns.map D.int) = some ns
  | [] => rfl
  | i :: r => by simp [intsD, intsD_ints (ns := r)]
@[simp] theorem add_lt_no {n k : Nat} : (n + k < n) = False := by
  apply propext
  constructor
  · omega
  · exact False.elim
theorem argInts_ref : argInts [.ref n] s = match rdL s n with
  | some xs => intsD xs
  | none => none := by
  show (rdL s n).bind intsD = _
  cases rdL s n <;> rfl
@[simp] theorem sum_ref : fSum [.ref n] s = match rdL s n with
  | some xs => (intsD xs).map fun ns => (.int ns.sum, s)
  | none => none := by
  unfold fSum
  rw [argInts_ref]
  cases rdL s n <;> rfl
@[simp] theorem max_ref : fMax [.ref n] s = match rdL s n with
  | some xs => (intsD xs).bind fun ns => if ns ≠ [] then some (.int (greatI ns), s) else none
  | none => none := by
  show (argInts [.ref n] s).bind _ = _
  rw [argInts_ref]
  cases rdL s n <;> rfl
@[simp] theorem min_ref : fMin [.ref n] s = match rdL s n with
  | some xs => (intsD xs).bind fun ns => if ns ≠ [] then some (.int (leastI ns), s) else none
  | none => none := by
  show (argInts [.ref n] s).bind _ = _
  rw [argInts_ref]
  cases rdL s n <;> rfl
@[simp] theorem max_ii : fMax [.int i, .int k] s = some (.int (if k > i then k else i), s) := rfl
@[simp] theorem min_ii : fMin [.int i, .int k] s = some (.int (if k < i then k else i), s) := rfl
@[simp] theorem all_ref : fAll [.ref n] s = match rdL s n with
  | some xs => (boolsD xs).map fun bs => (.bl (bs.all id), s)
  | none => none := by
  show ((rdL s n).bind boolsD).map _ = _
  cases rdL s n <;> rfl
@[simp] theorem boolsD_bls : ∀ {ns : List Bool}, boolsD (ns.map D.bl) = some ns
  | [] => rfl
  | i :: r => by simp [boolsD, boolsD_bls (ns := r)]
@[simp] theorem kit_NoneType_bool : kitB "NoneType" "bool" = some false := by decide +kernel
@[simp] theorem kit_NoneType_int : kitB "NoneType" "int" = some false := by decide +kernel
@[simp] theorem kit_NoneType_str : kitB "NoneType" "str" = some false := by decide +kernel
@[simp] theorem kit_NoneType_tuple : kitB "NoneType" "tuple" = some false := by decide +kernel
@[simp] theorem kit_NoneType_list : kitB "NoneType" "list" = some false := by decide +kernel
@[simp] theorem kit_bool_bool : kitB "bool" "bool" = some true := by decide +kernel
@[simp] theorem kit_bool_int : kitB "bool" "int" = some true := by decide +kernel
@[simp] theorem kit_bool_str : kitB "bool" "str" = some false := by decide +kernel
@[simp] theorem kit_bool_tuple : kitB "bool" "tuple" = some false := by decide +kernel
@[simp] theorem kit_bool_list : kitB "bool" "list" = some false := by decide +kernel
@[simp] theorem kit_int_bool : kitB "int" "bool" = some false := by decide +kernel
@[simp] theorem kit_int_int : kitB "int" "int" = some true := by decide +kernel
@[simp] theorem kit_int_str : kitB "int" "str" = some false := by decide +kernel
@[simp] theorem kit_int_tuple : kitB "int" "tuple" = some false := by decide +kernel
@[simp] theorem kit_int_list : kitB "int" "list" = some false := by decide +kernel
@[simp] theorem kit_str_bool : kitB "str" "bool" = some false := by decide +kernel
@[simp] theorem kit_str_int : kitB "str" "int" = some false := by decide +kernel
@[simp] theorem kit_str_str : kitB "str" "str" = some true := by decide +kernel
@[simp] theorem kit_str_tuple : kitB "str" "tuple" = some false := by decide +kernel
@[simp] theorem kit_str_list : kitB "str" "list" = some false := by decide +kernel
@[simp] theorem kit_tuple_bool : kitB "tuple" "bool" = some false := by decide +kernel
@[simp] theorem kit_tuple_int : kitB "tuple" "int" = some false := by decide +kernel
@[simp] theorem kit_tuple_str : kitB "tuple" "str" = some false := by decide +kernel
@[simp] theorem kit_tuple_tuple : kitB "tuple" "tuple" = some true := by decide +kernel
@[simp] theorem kit_tuple_list : kitB "tuple" "list" = some false := by decide +kernel
@[simp] theorem kit_list_bool : kitB "list" "bool" = some false := by decide +kernel
@[simp] theorem kit_list_int : kitB "list" "int" = some false := by decide +kernel
@[simp] theorem kit_list_str : kitB "list" "str" = some false := by decide +kernel
@[simp] theorem kit_list_tuple : kitB "list" "tuple" = some false := by decide +kernel
@[simp] theorem kit_list_list : kitB "list" "list" = some true := by decide +kernel
@[simp] theorem kit_dict_bool : kitB "dict" "bool" = some false := by decide +kernel
@[simp] theorem kit_dict_int : kitB "dict" "int" = some false := by decide +kernel
@[simp] theorem kit_dict_str : kitB "dict" "str" = some false := by decide +kernel
@[simp] theorem kit_dict_tuple : kitB "dict" "tuple" = some false := by decide +kernel
@[simp] theorem kit_dict_list : kitB "dict" "list" = some false := by decide +kernel
@[simp] theorem kit_NoneType_dict : kitB "NoneType" "dict" = some false := by decide +kernel
@[simp] theorem kit_bool_dict : kitB "bool" "dict" = some false := by decide +kernel
@[simp] theorem kit_int_dict : kitB "int" "dict" = some false := by decide +kernel
@[simp] theorem kit_str_dict : kitB "str" "dict" = some false := by decide +kernel
@[simp] theorem kit_tuple_dict : kitB "tuple" "dict" = some false := by decide +kernel
@[simp] theorem kit_list_dict : kitB "list" "dict" = some false := by decide +kernel
@[simp] theorem kit_dict_dict : kitB "dict" "dict" = some true := by decide +kernel
@[simp] theorem ofStr_inj {a b : String} : (Str.ofString a = Str.ofString b) ↔ a = b := by
  rw [Str.ofString_eq_toList, Str.ofString_eq_toList]
  constructor
  · intro h
    have h := Str.mk.inj h
    have h := congrArg Array.toList h
    simp only [] at h
    have hc : ∀ {x y : Char}, x.toNat = y.toNat → x = y := fun {x y} e => Char.ext (UInt32.toNat_inj.mp e)
    have : ∀ {xs ys : List Char}, xs.map Char.toNat = ys.map Char.toNat → xs = ys := by
      intro xs
      induction xs with
      | nil => intro ys h; cases ys <;> simp_all
      | cons x xs ih =>
        intro ys h
        cases ys with
        | nil => simp at h
        | cons y ys =>
          simp only [List.map_cons, List.cons.injEq] at h
          rw [hc h.1, ih h.2]
    exact String.toList_inj.mp (this h)
  · intro h
    rw [h]
@[simp] theorem ofStr_beq {a b : String} : (Str.ofString a == Str.ofString b) = (a == b) := by
  by_cases h : a = b
  · subst h
    simp
  · have : ¬ Str.ofString a = Str.ofString b := fun z => h (ofStr_inj.mp z)
    rw [beq_eq_false_iff_ne.mpr this, beq_eq_false_iff_ne.mpr h]
def obj (s : Sto) (n : Nat) : Option Ob := s[n]?
theorem obj_of {o : Ob} (h : s[n]? = some o) : obj s n = some o := h
theorem obj_append {t : Sto} : obj (s ++ t) n = if n < s.length then obj s n else obj t (n - s.length) := by
  unfold obj
  rw [List.getElem?_append]
theorem obj_set {o : Ob} : obj (s.set n o) m = if n = m then (if m < s.length then some o else none) else obj s m := by
  unfold obj
  rw [List.getElem?_set]
  split
  · rename_i q
    subst q
    rfl
  · rfl
@[simp] theorem obj_zero {o : Ob} {t : Sto} : obj (o :: t) 0 = some o := rfl
@[simp] theorem obj_succ {o : Ob} {t : Sto} : obj (o :: t) (n + 1) = obj t n := rfl
theorem insOf_get {c : Str} : insOf s c (.ref n) = match obj s n with
  | some (.ins c' fs) => if c' = c then some (n, fs) else none
  | _ => none := rfl
example : (Str.ofString "abc" == Str.ofString "abd") = false := by simp
/-- one new list given back -/
theorem fin_new {b m : Nat} {g s0 t : Sto} {o : Ob} (hb : t.length = b) (e : s0 = t ++ g) (w : wfN b t) (wo : wfO b o) (hm : g[m]? = some o) (hd : d = .ref (b + m)) : Fin b (.ok d s0) (.ok (.ref b) (t ++ [o])) := by
  subst hb
  exact fin_one e w wo hm hd
@[simp] theorem rng_1 : fRng [.int i] s = if -(2 ^ 62) ≤ i ∧ i < 2 ^ 62 then some ((rng 0 i.toNat, []), s) else none := rfl
@[simp] theorem rng_2 : fRng [.int i, .int k] s = if -(2 ^ 62) ≤ i ∧ i < 2 ^ 62 ∧ -(2 ^ 62) ≤ k ∧ k < 2 ^ 62 then some ((rng i (k - i).toNat, []), s) else none := rfl
/-- a list display by a loop that reads alone -/
theorem lc_pure {ck : Chk} {vs : List Nat} {g : MG} {t : MT} {m : ME} {e : En} (f : D → D) (b : D → Bool) (hs : Stays ck s) : ∀ (xs acc : List D), (∀ x ∈ xs, ∃ e1, g x (wipeE e vs) s = .nx e1 s ∧ t e1 s = .ok (b x) s ∧ (b x = true → m e1 s = .ok (f x) s)) →
    lcS ck vs g t m e xs acc s = .ok (acc ++ (xs.filter b).map f) s
  | [], acc, _ => by rw [lc_nil hs]; simp
  | x :: xs, acc, h => by
    obtain ⟨e1, h1, h2, h3⟩ := h x (by simp)
    rw [lc_cons hs, h1]
    simp only []
    rw [h2]
    simp only []
    by_cases q : b x = true
    · rw [if_pos q, h3 q]
      simp only []
      rw [lc_pure f b hs xs _ fun y hy => h y (by simp [hy])]
      simp [List.filter_cons, q]
    · rw [if_neg q, lc_pure f b hs xs _ fun y hy => h y (by simp [hy])]
      simp [List.filter_cons, q]
theorem lc_map {ck : Chk} {vs : List Nat} {g : MG} {m : ME} {e : En} (f : D → D) (hs : Stays ck s) (xs acc : List D) (h : ∀ x ∈ xs, ∃ e1, g x (wipeE e vs) s = .nx e1 s ∧ m e1 s = .ok (f x) s) : lcS ck vs g mYes m e xs acc s = .ok (acc ++ xs.map f) s := by
  rw [lc_pure (t := mYes) f (fun _ => true) hs xs acc fun x hx => (h x hx).imp fun e1 q => ⟨q.1, rfl, fun _ => q.2⟩]
  rw [List.filter_eq_self.mpr fun _ _ => rfl]
end
end Dn
set_option maxRecDepth 100000
namespace Dn
open PySem PySem.Spec PyProof.Rows L2

/-! ### dicts: keys ints and texts, or tuples of them -/
def keyD : D → Option Key
  | .int i => some (.inl i)
  | .str x => some (.inr x)
  | _ => none
def keysD : List D → Option (List Key)
  | [] => some []
  | d :: ds => match keyD d, keysD ds with
    | some k, some ks => some (k :: ks)
    | _, _ => none
def unK : Key → D
  | .inl i => .int i
  | .inr x => .str x
section
variable {κ : Type} [DecidableEq κ]
def valD (kvs : List (κ × D)) (k : κ) : Option D := (kvs.find? fun kv => decide (kv.1 = k)).map (·.2)
def putKD (kvs : List (κ × D)) (k : κ) (v : D) : List (κ × D) := if (kvs.any fun kv => decide (kv.1 = k)) = true then kvs.map (fun kv => if kv.1 = k then (kv.1, v) else kv) else kvs ++ [(k, v)]
end
section
variable {κ : Type} {K : PySem.W.Frag} {H : Hp} {N : Nat} {loc : Nat → Addr}
theorem keyD_dr {d : D} {v : V} {k : Key} (r : DR K H N loc d v) (h : keyD d = some k) : v = kV k := by
  cases r <;> cases h <;> rfl
theorem keysD_drs : ∀ {ds : List D} {vs : List V} {ks : List Key}, DRs K H N loc ds vs → keysD ds = some ks → vs = ks.map kV
  | [], _, _, r, h => by cases r; cases h; rfl
  | d :: ds, _, ks, r, h => by
    cases r with
    | cons r1 r2 =>
      unfold keysD at h
      split at h
      · rename_i k ks' e1 e2
        cases h
        rw [keyD_dr r1 e1, keysD_drs r2 e2]
        rfl
      · cases h
section
variable [DecidableEq κ]
theorem FRs.val {kvs : List (κ × D)} {gs : List (κ × V)} (r : FRs K H N loc kvs gs) (k : κ) : match valD kvs k with
    | some d => ∃ v, (gs.find? fun kv => decide (kv.1 = k)).map (·.2) = some v ∧ DR K H N loc d v
    | none => (gs.find? fun kv => decide (kv.1 = k)).map (·.2) = none := by
  induction r with
  | nil => rfl
  | @cons f d v fs gs h hs ih =>
    unfold valD at ih ⊢
    by_cases e : f = k
    · simp only [List.find?_cons, e, decide_true, Option.map_some]
      exact ⟨v, rfl, h⟩
    · simp only [List.find?_cons, e, decide_false]
      exact ih
theorem FRs.any {kvs : List (κ × D)} {gs : List (κ × V)} (r : FRs K H N loc kvs gs) (k : κ) : (kvs.any fun kv => decide (kv.1 = k)) = gs.any fun kv => decide (kv.1 = k) := by
  induction r with
  | nil => rfl
  | cons h hs ih => simp only [List.any_cons, ih]
theorem FRs.snoc {kvs : List (κ × D)} {gs : List (κ × V)} {k : κ} {d : D} {v : V} (r : FRs K H N loc kvs gs) (h : DR K H N loc d v) : FRs K H N loc (kvs ++ [(k, d)]) (gs ++ [(k, v)]) := by
  induction r with
  | nil => exact .cons h .nil
  | cons h' hs ih => exact .cons h' ih
theorem FRs.repl {kvs : List (κ × D)} {gs : List (κ × V)} {k : κ} {d : D} {v : V} (r : FRs K H N loc kvs gs) (h : DR K H N loc d v) :
    FRs K H N loc (kvs.map fun kv => if kv.1 = k then (kv.1, d) else kv) (gs.map fun kv => if kv.1 = k then (kv.1, v) else kv) := by
  induction r with
  | nil => exact .nil
  | @cons f d' v' fs gs h' hs ih =>
    simp only [List.map_cons]
    by_cases e : f = k
    · rw [if_pos e, if_pos e]; exact .cons h ih
    · rw [if_neg e, if_neg e]; exact .cons h' ih
theorem FRs.putK {kvs : List (κ × D)} {gs : List (κ × V)} {k : κ} {d : D} {v : V} (r : FRs K H N loc kvs gs) (h : DR K H N loc d v) : FRs K H N loc (putKD kvs k d) (L2.putK gs k v) := by
  unfold putKD L2.putK
  rw [r.any k]
  split
  · exact r.repl h
  · exact r.snoc h
end
end
/-- what the dict a holds at y, the tuple of any kind -/
def DGt (K : PySem.W.Frag) (H : Hp) (a : Addr) (y : V) (r : Option V) : Prop :=
  (∃ kvs k, H a = some (.dK kvs) ∧ y = kV k ∧ r = valV kvs k) ∨ ∃ kvs k b, H a = some (.dT kvs) ∧ y = .ref b ∧ SqT K H b (k.map kV) ∧ r = valV kvs k
section
variable {X : Cx} {pins : List (Addr × Obj)} {σ : L2.St} {H : Hp} {s : Shared} {a b : Addr} {y v : V} {u r : Value} {o : Option V} {A : Around} {E : Value → Shared → Prop}
theorem key_sq {ks : List Key} (I : Inv X pins σ H s) (h : SqT X.K H b (ks.map kV)) : (tupleKind (mixKind X.prog X.w)).is s.heap ks b := by
  obtain ⟨its, r, ⟨o, h1, h2, n, h3⟩, _⟩ := I.tuple h
  exact ⟨o, its.toArray, n, h1, h2, h3, by simpa using items_are r⟩
theorem dg_getItem {Q : Value → Shared → Prop} (hu : A.units + 1 < cLine) (I : Inv X pins σ H s) (g : DGt X.K H a y (some v)) (ry : RelV y u) (h : ∀ w' s', Inv X pins σ H s' → RelV v w' → Q w' s') :
    wpAny (model X.prog X.w) A (getItem (.ref a) u) Q E s := by
  rcases g with ⟨kvs, k, e, ey, l⟩ | ⟨kvs, k, b, e, ey, eb, l⟩
  · exact d_getItem hu I (.inl ⟨kvs, k, .inl e, ey, l⟩) ry h
  · subst ey
    cases (show u = Value.ref b from ry)
    obtain ⟨z, hd, xs, rel, dd⟩ := dt_of I.hok e
    obtain ⟨w', hw, rw'⟩ := RelO.some_of (v := v) (o := (atKey xs k).map (·.2)) (by rw [l]; exact rel.val k)
    obtain ⟨p, hp, hp2⟩ := Option.map_eq_some_iff.mp hw
    refine wpAny_getItem_heap (tupleKind_room_in1 hu) (key_sq I eb) dd hp ?_
    rw [hp2]
    exact h w' _ (I.tok _) rw'
theorem dg_in {Q : Value → Shared → Prop} (hu : A.units + 1 < cLine) (I : Inv X pins σ H s) (g : DGt X.K H a y o) (ry : RelV y u) (h : ∀ s', Inv X pins σ H s' → Q (.bool o.isSome) s') :
    wpAny (model X.prog X.w) A (compareOp .In u (.ref a)) Q E s := by
  rcases g with ⟨kvs, k, e, ey, l⟩ | ⟨kvs, k, b, e, ey, eb, l⟩
  · exact d_in hu I (.inl ⟨kvs, k, .inl e, ey, l⟩) ry h
  · subst ey
    cases (show u = Value.ref b from ry)
    obtain ⟨z, hd, xs, rel, dd⟩ := dt_of I.hok e
    refine wpAny_in_heap (tupleKind_room_in1 hu) (key_sq I eb) hd dd ?_
    have q := (rel.val k).isSome_eq
    rw [Option.isSome_map] at q
    rw [← q, ← l]
    exact h _ (I.tok _)
theorem dg_notIn {Q : Value → Shared → Prop} (hu : A.units + 1 < cLine) (I : Inv X pins σ H s) (g : DGt X.K H a y o) (ry : RelV y u) (h : ∀ s', Inv X pins σ H s' → Q (.bool (!o.isSome)) s') :
    wpAny (model X.prog X.w) A (compareOp .NotIn u (.ref a)) Q E s := by
  rcases g with ⟨kvs, k, e, ey, l⟩ | ⟨kvs, k, b, e, ey, eb, l⟩
  · exact d_notIn hu I (.inl ⟨kvs, k, .inl e, ey, l⟩) ry h
  · subst ey
    cases (show u = Value.ref b from ry)
    obtain ⟨z, hd, xs, rel, dd⟩ := dt_of I.hok e
    refine wpAny_notIn_heap (tupleKind_room_in1 hu) (key_sq I eb) hd dd ?_
    have q := (rel.val k).isSome_eq
    rw [Option.isSome_map] at q
    rw [← q, ← l]
    exact h _ (I.tok _)
end
abbrev rDGet (K : PySem.W.Frag) : R2 := fun x y H Q => ∃ a v, x = .ref a ∧ DGt K H a y (some v) ∧ Q v H
abbrev rDIn (K : PySem.W.Frag) (neg : Bool) : R2 := fun y x H Q => ∃ a o, x = .ref a ∧ DGt K H a y o ∧ Q (.bl (if neg = true then !o.isSome else o.isSome)) H
section
variable {X : Cx}
theorem op_dIn (hu : X.A.units + 1 < cLine) : OpR X (compareOp .In) (rDIn X.K false) := by
  intro pins s σ H x y v u Q I rx ry q
  obtain ⟨a, o, rfl, g, q⟩ := q
  cases ry
  exact dg_in hu I g rx fun s' I' => ⟨.bl o.isSome, H, I', rfl, q⟩
theorem op_dNotIn (hu : X.A.units + 1 < cLine) : OpR X (compareOp .NotIn) (rDIn X.K true) := by
  intro pins s σ H x y v u Q I rx ry q
  obtain ⟨a, o, rfl, g, q⟩ := q
  cases ry
  exact dg_notIn hu I g rx fun s' I' => ⟨.bl (!o.isSome), H, I', rfl, q⟩
theorem dg_typeIs {pins : List (Addr × Obj)} {σ : L2.St} {H : Hp} {s : Shared} {a : Addr} {y : V} {o : Option V} (I : Inv X pins σ H s) (g : DGt X.K H a y o) : s.TypeIs (.ref a) "dict" := by
  rcases g with ⟨kvs, k, e, _, _⟩ | ⟨kvs, k, b, e, _, _, _⟩
  · obtain ⟨_, _, vs, _, dd⟩ := dk_of I.hok e
    exact dd.typeIs
  · obtain ⟨_, _, xs, _, dd⟩ := dt_of I.hok e
    exact dd.typeIs
theorem ix_dict (hu : X.A.units + 1 < cLine) : IxR X (rDGet X.K) := by
  intro value slice pins s σ H x y v u Q I rx ry h hs
  obtain ⟨a, z, rfl, g, q⟩ := h
  cases rx
  have hT := dg_typeIs I g
  unfold subscriptTail
  refine wpAny_bind ?_
  rw [getitemInPython_of_ne hT.not_modules]
  refine wpAny_bind (wpAny_specialOf hT PySem.F.slot_dict_getitem.lookup ?_)
  have fin : wpAny (model X.prog X.w) X.A (subscripted slice false (.ref a) u) (fun r s₃ => wpAny (model X.prog X.w) X.A (letTemporaryGo value (.ref a) r >>= fun _ => pure r) (EP X pins σ Q) X.xe s₃) X.xe s := by
    rw [hs]
    exact wpAny_operating (wpAny_mono (dg_getItem hu I g ry fun w' s' I' rw' => ⟨z, H, I', rw', q⟩) (fun r s₃ h₃ => wpAny_bind (wpAny_letTemporaryGo (wpAny_pure h₃))) fun _ _ x => x)
  first
    | exact wpAny_pure (wpAny_bind fin)
    | exact wpAny_bind (wpAny_pure (wpAny_bind fin))
    | exact wpAny_bind fin
end
/-- what a dict holds at a key -/
def lookD (s : Sto) (x y : D) : Option (Option D) := match x with
  | .ref n => match s[n]? with
    | some (.dk kvs) => (keyD y).map fun k => valD kvs k
    | some (.dt kvs) => match y with
      | .tup ds => (keysD ds).map fun k => valD kvs k
      | _ => none
    | _ => none
  | _ => none
section
variable {P : Pm} {H : Hp} {loc : Nat → Addr} {st : Sto}
def OptR (K : PySem.W.Frag) (H : Hp) (N : Nat) (loc : Nat → Addr) (o : Option D) (ov : Option V) : Prop := match o with
  | some d => ∃ v, ov = some v ∧ DR K H N loc d v
  | none => ov = none
theorem lookD_dg {x y : D} {vx vy : V} {o : Option D} (R : Rel P loc st H) (rx : DR P.K H st.length loc x vx) (ry : DR P.K H st.length loc y vy) (h : lookD st x y = some o) :
    ∃ a ov, vx = .ref a ∧ DGt P.K H a vy ov ∧ OptR P.K H st.length loc o ov := by
  cases rx with
  | @ref n hn =>
    unfold lookD at h
    simp only [] at h
    cases e : st[n]? with
    | none => rw [e] at h; cases h
    | some ob =>
      rw [e] at h
      cases ob with
      | lst xs => cases h
      | ins c fs => cases h
      | ex c => cases h
      | dk kvs =>
        simp only [] at h
        obtain ⟨k, e1, e2⟩ := Option.map_eq_some_iff.mp h
        obtain ⟨gs, e3, r⟩ := R.ob n _ e
        refine ⟨_, valV gs k, rfl, .inl ⟨gs, k, e3, keyD_dr ry e1, rfl⟩, ?_⟩
        have q := r.val k
        rw [e2] at q
        exact q
      | dt kvs =>
        cases ry with
        | tup h1 h2 =>
          simp only [] at h
          obtain ⟨k, e1, e2⟩ := Option.map_eq_some_iff.mp h
          obtain ⟨gs, e3, r⟩ := R.ob n _ e
          refine ⟨_, valV gs k, rfl, .inr ⟨gs, k, _, e3, rfl, by rw [← keysD_drs h2 e1]; exact h1, rfl⟩, ?_⟩
          have q := r.val k
          rw [e2] at q
          exact q
        | _ => cases h
  | _ => cases h
end
def fDGet : F2 := fun x y s => match lookD s x y with
  | some (some d) => some (d, s)
  | _ => none
def fDIn (neg : Bool) : F2 := fun y x s => (lookD s x y).map fun o => (.bl (if neg = true then !o.isSome else o.isSome), s)
section
variable {P : Pm}
theorem s2_dget : Snd2 P (rDGet P.K) fDGet := by
  refine ⟨fun H st loc x y vx vy d st' Q R rx ry h k => ?_⟩
  unfold fDGet at h
  split at h
  · rename_i d' e
    cases h
    obtain ⟨a, ov, rfl, g, v, rfl, r⟩ := lookD_dg R rx ry e
    exact ⟨a, v, rfl, g, k loc H v (Grow.refl _ _ _) R r⟩
  · cases h
theorem s2_dIn {neg : Bool} : Snd2 P (rDIn P.K neg) (fDIn neg) := by
  refine ⟨fun H st loc y x vy vx d st' Q R ry rx h k => ?_⟩
  unfold fDIn at h
  obtain ⟨o, e, e2⟩ := Option.map_eq_some_iff.mp h
  cases e2
  obtain ⟨a, ov, rfl, g, q⟩ := lookD_dg R rx ry e
  refine ⟨a, ov, rfl, g, ?_⟩
  have : ov.isSome = o.isSome := by
    cases o with
    | none => rw [q]; rfl
    | some d => obtain ⟨v, e, _⟩ := q; rw [e]; rfl
  rw [this]
  exact k loc H _ (Grow.refl _ _ _) R (.bl _)
end
section
variable {X : Cx} {cA : Str → Addr} {W : WX} {a b o e f : Expr} {ma mb mo me mf : ME} {pos apos cpos : Pos} {j : Nat}
theorem units1 (hr : Room j X.A) : X.A.units + 1 < cLine := by
  have := units65 hr
  omega
theorem de_dget (hr : Room j X.A) (ha : DE X cA W a ma) (hb : DE X cA W b mb) (hs : PlainIx b := by intro _ _; rfl) : DE X cA W (.Subscript a b pos) (mOp fDGet ma mb) := by
  obtain ⟨ta, p1, s1⟩ := ha
  obtain ⟨tb, p2, s2⟩ := hb
  exact ⟨_, pe_ix (ix_dict (units1 hr)) p1 p2 hs, snd_op s2_dget s1 s2⟩
theorem de_dIn (hr : Room j X.A) (ha : DE X cA W a ma) (hb : DE X cA W b mb) (hm : behindInMarks .In b = false := by rfl) : DE X cA W (.Compare a [.In] [b] pos) (mOp (fDIn false) ma mb) := de_cmp (op_dIn (units1 hr)) s2_dIn ha hb hm
theorem de_dNotIn (hr : Room j X.A) (ha : DE X cA W a ma) (hb : DE X cA W b mb) (hm : behindInMarks .NotIn b = false := by rfl) : DE X cA W (.Compare a [.NotIn] [b] pos) (mOp (fDIn true) ma mb) := de_cmp (op_dNotIn (units1 hr)) s2_dIn ha hb hm
theorem dt_dIn (hr : Room j X.A) (ha : DE X cA W a ma) (hb : DE X cA W b mb) (hm : behindInMarks .In b = false := by rfl) : DT X cA W (.Compare a [.In] [b] pos) (mB (mOp (fDIn false) ma mb)) := dt_cmp (op_dIn (units1 hr)) s2_dIn ha hb hm
theorem dt_dNotIn (hr : Room j X.A) (ha : DE X cA W a ma) (hb : DE X cA W b mb) (hm : behindInMarks .NotIn b = false := by rfl) : DT X cA W (.Compare a [.NotIn] [b] pos) (mB (mOp (fDIn true) ma mb)) := dt_cmp (op_dNotIn (units1 hr)) s2_dIn ha hb hm
/-! #### new dicts -/
def mNewK : ME := fun _ s => .ok (.ref s.length) (s ++ [.dk []])
def mNewT : ME := fun _ s => .ok (.ref s.length) (s ++ [.dt []])
theorem de_newK : DE X cA W (.Dict [] [] pos) mNewK := ⟨_, pe_dnewK, ⟨fun σ H env st loc Q er R h => fun p hp => by
  have e : (V.ref p) = .ref (put loc st.length p st.length) := by rw [put_same]
  rw [e]
  exact h (put loc st.length p) _ _ (by rw [List.length_append]; exact Grow.lay hp _ _) ((R.new hp).adopt (R.ne_new hp) ⟨[], upd_same, .nil⟩) (.ref (by rw [List.length_append]; simp))⟩⟩
theorem de_newT : DE X cA W (.Dict [] [] pos) mNewT := ⟨_, pe_dnewT, ⟨fun σ H env st loc Q er R h => fun p hp => by
  have e : (V.ref p) = .ref (put loc st.length p st.length) := by rw [put_same]
  rw [e]
  exact h (put loc st.length p) _ _ (by rw [List.length_append]; exact Grow.lay hp _ _) ((R.new hp).adopt (R.ne_new hp) ⟨[], upd_same, .nil⟩) (.ref (by rw [List.length_append]; simp))⟩⟩
/-- {c: v}, c a number -/
def mDisp1 (c : Int) (mv : ME) : ME := fun e s => match mv e (s ++ [.dk []]) with
  | .ok v s1 => match s1[s.length]? with
    | some (.dk []) => .ok (.ref s.length) (s1.set s.length (.dk [(.inl c, v)]))
    | _ => .bad
  | .exc c s1 => .exc c s1
  | .bad => .bad
end
/-! #### d[k] = v -/
def rDPutK : TSet := fun o i v H Q => ∃ p kvs k, o = .ref p ∧ H p = some (.dK kvs) ∧ i = kV k ∧ kvs.length < sizeLine ∧ Q (upd H p (.dK (L2.putK kvs k v)))
theorem set_dk {X : Cx} (hu : X.A.units + 1 < cLine) : PSet X rDPutK := by
  intro pins s σ H o i v ov iv u Q I ro ri rv h
  obtain ⟨p, kvs, k, rfl, e, rfl, hl, q⟩ := h
  cases ro
  exact d_setItem hu I (DPut.k e hl) ri rv fun s' I' => ⟨_, I', q⟩
def fDPut : F3 := fun o i v s => match o with
  | .ref n => match s[n]? with
    | some (.dk kvs) => match keyD i with
      | some k => if kvs.length < 100000 then some (s.set n (.dk (putKD kvs k v))) else none
      | none => none
    | _ => none
  | _ => none
theorem s3_dput {P : Pm} : Snd3 P rDPutK fDPut := by
  refine ⟨fun H st loc o i v vo vi vv st' Q R ro ri rv h k => ?_⟩
  cases ro with
  | @ref n hn =>
    unfold fDPut at h
    simp only [] at h
    cases e : st[n]? with
    | none => rw [e] at h; cases h
    | some ob =>
      rw [e] at h
      cases ob with
      | dk kvs =>
        simp only [] at h
        cases e1 : keyD i with
        | none => rw [e1] at h; cases h
        | some ky =>
          rw [e1] at h
          simp only [] at h
          by_cases hl : kvs.length < 100000
          · rw [if_pos hl] at h
            cases h
            obtain ⟨gs, e3, r⟩ := R.ob n _ e
            refine ⟨_, gs, ky, rfl, e3, keyD_dr ri e1, ?_, ?_⟩
            · rw [← r.length, sizeLine_eq]; omega
            · have g := Grow.write (u := .dK (L2.putK gs ky vv)) R hn
              refine k loc _ (by rw [List.length_set]; exact g) (R.writeO hn ⟨_, upd_same, ?_⟩)
              exact FRs.putK (r.grow g) (rv.grow g)
          · rw [if_neg hl] at h; cases h
      | _ => cases h
  | _ => cases h
section
variable {X : Cx} {cA : Str → Addr} {W : WX} {a b : Expr} {ma mb : ME} {pos : Pos} {j : Nat}
theorem dg_dput (hr : Room j X.A) (ho : DE X cA W a ma) (hi : DE X cA W b mb)
    (hA : ∀ v, assign (.Subscript a b pos) X.env v = (do
      let ov ← holding [v] (eval a X.env)
      let iv ← holding [v, ov] (eval b X.env)
      standAt pos
      holding [v, ov, iv] (setItem ov iv v)
      release [v, ov, iv] []) := by intro _; rfl) : DGo X cA W none (.Subscript a b pos) (gSubM fDPut ma mb) := dg_sub (set_dk (units1 hr)) s3_dput ho hi hA
/-! with a tuple that is written there as the key -/
def rDPutT : TSet := fun o i v H Q => ∃ p kvs k b, o = .ref p ∧ H p = some (.dT kvs) ∧ i = .ref b ∧ H b = some (.tup (k.map kV)) ∧ kvs.length < sizeLine ∧ Q (upd H p (.dT (L2.putK kvs k v)))
theorem set_dt {X : Cx} (hu : X.A.units + 1 < cLine) : PSet X rDPutT := by
  intro pins s σ H o i v ov iv u Q I ro ri rv h
  obtain ⟨p, kvs, k, b, rfl, e, rfl, eb, hl, q⟩ := h
  cases ro
  exact d_setItem hu I (DPut.t e eb hl) ri rv fun s' I' => ⟨_, I', q⟩
def gDPutT (o : ME) (ms : MA) : MG := fun d e s => match o e s with
  | .ok (.ref n) s1 => match ms e s1 with
    | .ok ks s2 => match s2[n]?, keysD ks with
      | some (.dt kvs), some k => if kvs.length < 100000 ∧ ks.length ≤ 100000 then .nx e (s2.set n (.dt (putKD kvs k d))) else .bad
      | _, _ => .bad
    | _ => .bad
  | _ => .bad
theorem dg_dputT {es : List Expr} {x1} {pt : Pos} {ms : MA} (hr : Room j X.A) (ho : DE X cA W a ma) (hi : DA X cA W es ms)
    (hA : ∀ v, assign (.Subscript a (.Tuple es x1 pt) pos) X.env v = (do
      let ov ← holding [v] (eval a X.env)
      let iv ← holding [v, ov] (eval (.Tuple es x1 pt) X.env)
      standAt pos
      holding [v, ov, iv] (setItem ov iv v)
      release [v, ov, iv] []) := by intro _; rfl) : DGo X cA W none (.Subscript a (.Tuple es x1 pt) pos) (gDPutT ma ms) := by
  obtain ⟨ta, p1, s1⟩ := ho
  obtain ⟨tb, p2, s2⟩ := hi
  refine ⟨_, pg_sub p1 (pe_tup p2) (set_dt (units1 hr)) hA, ⟨fun v d σ H env s loc Q r er R h => ?_⟩, fun l hl => nomatch hl⟩
  refine s1.run σ H env s loc _ er R ?_
  unfold gDPutT at h
  cases q1 : ma env s with
  | exc c s' => rw [q1] at h; exact h.elim
  | bad => rw [q1] at h; exact h.elim
  | ok x s' =>
    rw [q1] at h
    intro loc1 H1 vo g1 R1 ro
    cases ro with
    | @ref n hn =>
      simp only [] at h
      refine s2.run σ H1 env s' loc1 _ (er.grow g1) R1 ?_
      have h := PostS.shift g1 h
      cases q2 : ms env s' with
      | exc c s' => simp only [q2] at h; exact h.elim
      | bad => simp only [q2] at h; exact h.elim
      | ok ks s2' =>
        simp only [q2] at h
        intro loc2 H2 vi g2 R2 ri
        have ri : DRs X.K H2 s2'.length loc2 ks vi := ri
        have h := PostS.shift g2 h
        cases q3 : s2'[n]? with
        | none => simp only [q3] at h; exact h.elim
        | some ob =>
          cases ob with
          | dt kvs =>
            cases q4 : keysD ks with
            | none => simp only [q3, q4] at h; exact h.elim
            | some ky =>
              simp only [q3, q4] at h
              by_cases hl : kvs.length < 100000 ∧ ks.length ≤ 100000
              · rw [if_pos hl] at h
                refine ⟨by rw [← ri.length]; exact sz_of hl.2, fun p hp => ?_⟩
                have hn2 : n < s2'.length := (List.getElem?_eq_some_iff.mp q3).1
                have G := Grow.new (u := .tup vi) hp s2'.length loc2
                have R3 := R2.new (u := .tup vi) hp
                obtain ⟨gs, e3, rr⟩ := R3.ob n _ q3
                refine ⟨_, gs, ky, p, rfl, by rw [← g2.gloc n hn]; exact e3, rfl, by rw [upd_same, keysD_drs ri q4], ?_, ?_⟩
                · rw [← rr.length, sizeLine_eq]; omega
                · have g := Grow.write (u := .dT (L2.putK gs ky v)) R3 hn2
                  have r2 : DR X.K H2 s2'.length loc2 d v := DR.grow g2 (DR.grow g1 r)
                  rw [← g2.gloc n hn]
                  refine h loc2 _ σ (G.trans (by rw [List.length_set]; exact g)) (R3.writeO hn2 ⟨_, upd_same, ?_⟩) ?_
                  · exact FRs.putK (rr.grow g) ((r2.grow G).grow g)
                  · rw [List.length_set]
                    exact (((er.grow g1).grow g2).grow G).grow g
              · rw [if_neg hl] at h; exact h.elim
          | _ => simp only [q3] at h; exact h.elim
    | _ => exact h.elim
end
end Dn
set_option maxRecDepth 100000
namespace Dn
open PySem PySem.Spec PyProof.Rows L2
section
variable {X : Cx} {pins : List (Addr × Obj)} {σ : L2.St} {H : Hp} {s : Shared} {a b : Addr} {y v d : V} {u r : Value} {o : Option V} {A : Around} {E : Value → Shared → Prop}
theorem dg_isD (g : DGt X.K H a y o) : IsD H a := by
  rcases g with ⟨kvs, k, e, _, _⟩ | ⟨kvs, k, b, e, _, _, _⟩
  · exact .inl ⟨kvs, .inl e⟩
  · exact .inr ⟨kvs, .inl e⟩
theorem dg_get2 {Q : Value → Shared → Prop} (hu : A.units + 1 < cLine) (I : Inv X pins σ H s) (g : DGt X.K H a y o) (ry : RelV y u) (rd : RelV d r) (h : ∀ w' s', Inv X pins σ H s' → RelV (o.getD d) w' → Q w' s') :
    wpAny (model X.prog X.w) A (call (.builtin "dict.get") [.ref a, u, r]) Q E s := by
  rcases g with ⟨kvs, k, e, ey, l⟩ | ⟨kvs, k, b, e, ey, eb, l⟩
  · exact d_get2 hu I (.inl ⟨kvs, k, .inl e, ey, l⟩) ry rd h
  · subst ey
    cases (show u = Value.ref b from ry)
    obtain ⟨z, hd, xs, rel, dd⟩ := dt_of I.hok e
    refine call_meetsIn PySem.F.slot_dict_get dd.typeIs PySem.F.entry_dict_get (PySem.F.args_dict_get_3 _ _ _) (meetsH_dict_get_default (tupleKind (mixKind X.prog X.w)) a b hd r) ⟨tupleKind_room_in1 hu, k, xs, key_sq I eb, dd, h _ _ (I.tok _) ?_⟩
    rw [l]
    exact (rel.val k).getD rd
theorem dg_get1 {Q : Value → Shared → Prop} (hu : A.units + 1 < cLine) (I : Inv X pins σ H s) (g : DGt X.K H a y o) (ry : RelV y u) (h : ∀ w' s', Inv X pins σ H s' → RelV (o.getD .non) w' → Q w' s') :
    wpAny (model X.prog X.w) A (call (.builtin "dict.get") [.ref a, u]) Q E s := by
  rcases g with ⟨kvs, k, e, ey, l⟩ | ⟨kvs, k, b, e, ey, eb, l⟩
  · exact d_get1 hu I (.inl ⟨kvs, k, .inl e, ey, l⟩) ry h
  · subst ey
    cases (show u = Value.ref b from ry)
    obtain ⟨z, hd, xs, rel, dd⟩ := dt_of I.hok e
    refine call_meetsIn PySem.F.slot_dict_get dd.typeIs PySem.F.entry_dict_get (PySem.F.args_dict_get_2 _ _) (meetsH_dict_get (tupleKind (mixKind X.prog X.w)) a b hd) ⟨tupleKind_room_in1 hu, k, xs, key_sq I eb, dd, h _ _ (I.tok _) ?_⟩
    rw [l]
    exact (rel.val k).getD rfl
end
def tDGt2 (K : PySem.W.Frag) (td ty tx : TE) : TE := fun σ H Q => td σ H fun x H1 => ∃ a, x = .ref a ∧ IsD H1 a ∧ ty σ H1 fun y H2 => tx σ H2 fun z H3 => ∃ o, DGt K H3 a y o ∧ Q (o.getD z) H3
def tDGt1 (K : PySem.W.Frag) (td ty : TE) : TE := fun σ H Q => td σ H fun x H1 => ∃ a, x = .ref a ∧ IsD H1 a ∧ ty σ H1 fun y H2 => ∃ o, DGt K H2 a y o ∧ Q (o.getD .non) H2
section
variable {X : Cx} {o e f : Expr} {apos cpos : Pos} {td ty tx : TE}
theorem pe_dgt2 (hu : X.A.units + 1 < cLine) (ho : PE X o td) (he : PE X e ty) (hf : PE X f tx) (m : M2 X o "get" apos e f cpos) : PE X (.Call (.Attribute o "get" apos) [e, f] [] cpos) (tDGt2 X.K td ty tx) := by
  refine ⟨fun pins s σ H Q I h => ?_⟩
  refine wpAny_Call_method m.base m.few m.line PySem.F.plainAttrs_dict PySem.F.slot_dict_get PySem.F.type_dict_get (thn (ho.run pins s σ H _ I h) fun u s1 ⟨x, H1, I1, rx, a, ex, d, q1⟩ => ?_)
  subst ex
  obtain rfl : u = Value.ref a := rx
  obtain ⟨t1, t2, _⟩ := isD_at I1 d
  refine ⟨t1, t2, ?_⟩
  rw [m.trees]
  refine Calls.callWith_builtin rfl (Calls.evalArgs_plain (Calls.spliced_cons (thn (he.run pins s1 σ H1 _ I1 q1) fun iv s2 ⟨y, H2, I2, ry, q2⟩ =>
    Calls.spliced_cons (thn (hf.run pins s2 σ H2 _ I2 q2) fun fv s3 ⟨z, H3, I3, rz, ov, g, q3⟩ => Calls.spliced_nil ?_))))
  exact dg_get2 hu I3 g ry rz fun w' s4 I4 rw' => ⟨_, H3, I4, rw', q3⟩
theorem pe_dgt1 (hu : X.A.units + 1 < cLine) (ho : PE X o td) (he : PE X e ty) (m : M1 X o "get" apos e cpos) : PE X (.Call (.Attribute o "get" apos) [e] [] cpos) (tDGt1 X.K td ty) := by
  refine ⟨fun pins s σ H Q I h => ?_⟩
  refine wpAny_Call_method m.base m.few m.line PySem.F.plainAttrs_dict PySem.F.slot_dict_get PySem.F.type_dict_get (thn (ho.run pins s σ H _ I h) fun u s1 ⟨x, H1, I1, rx, a, ex, d, q1⟩ => ?_)
  subst ex
  obtain rfl : u = Value.ref a := rx
  obtain ⟨t1, t2, _⟩ := isD_at I1 d
  refine ⟨t1, t2, ?_⟩
  rw [m.trees]
  refine Calls.callWith_builtin rfl (Calls.evalArgs_plain (Calls.spliced_cons (thn (he.run pins s1 σ H1 _ I1 q1) fun iv s2 ⟨y, H2, I2, ry, ov, g, q2⟩ => Calls.spliced_nil ?_)))
  exact dg_get1 hu I2 g ry fun w' s3 I3 rw' => ⟨_, H2, I3, rw', q2⟩
end
/-- a dict -/
def isDct (s : Sto) : D → Bool
  | .ref n => match s[n]? with
    | some (.dk _) => true
    | some (.dt _) => true
    | _ => false
  | _ => false
theorem isDct_v {P : Pm} {H : Hp} {loc : Nat → Addr} {st : Sto} {x : D} {v : V} (R : Rel P loc st H) (r : DR P.K H st.length loc x v) (h : isDct st x = true) : ∃ a, v = .ref a ∧ IsD H a := by
  cases r with
  | @ref n hn =>
    unfold isDct at h
    simp only [] at h
    cases e : st[n]? with
    | none => rw [e] at h; cases h
    | some ob =>
      rw [e] at h
      cases ob with
      | dk kvs =>
        obtain ⟨gs, e3, r⟩ := R.ob n _ e
        exact ⟨_, rfl, .inl ⟨gs, .inl e3⟩⟩
      | dt kvs =>
        obtain ⟨gs, e3, r⟩ := R.ob n _ e
        exact ⟨_, rfl, .inr ⟨gs, .inl e3⟩⟩
      | _ => cases h
  | _ => cases h
def mGet2 (o k z : ME) : ME := fun e s => (o e s).bind fun x s1 => if isDct s1 x = true then (k e s1).bind fun y s2 => (z e s2).bind fun w s3 => match lookD s3 x y with
  | some (some d) => .ok d s3
  | some none => .ok w s3
  | none => .bad else .bad
section
variable {X : Cx} {cA : Str → Addr} {W : WX} {o e f : Expr} {mo me mf : ME} {apos cpos : Pos} {j : Nat}
theorem de_get2 (hr : Room j X.A) (ho : DE X cA W o mo) (he : DE X cA W e me) (hf : DE X cA W f mf) (m : M2 X o "get" apos e f cpos) : DE X cA W (.Call (.Attribute o "get" apos) [e, f] [] cpos) (mGet2 mo me mf) := by
  obtain ⟨to, p0, s0⟩ := ho
  obtain ⟨te, p1, s1⟩ := he
  obtain ⟨tf, p2, s2⟩ := hf
  refine ⟨_, pe_dgt2 (units1 hr) p0 p1 p2 m, ⟨fun σ H env st loc Q er R h => ?_⟩⟩
  refine s0.run σ H env st loc _ er R (post_bind h fun x t1 loc1 H1 v g1 R1 d1 h1 => ?_)
  by_cases hx : isDct t1 x = true
  · rw [if_pos hx] at h1
    obtain ⟨a, rfl, hd⟩ := isDct_v R1 d1 hx
    refine ⟨a, rfl, hd, ?_⟩
    refine s1.run σ H1 env t1 loc1 _ (er.grow g1) R1 (post_bind h1 fun y t2 loc2 H2 w g2 R2 d2 h2 => ?_)
    refine s2.run σ H2 env t2 loc2 _ ((er.grow g1).grow g2) R2 (post_bind h2 fun z t3 loc3 H3 zv g3 R3 d3 h3 => ?_)
    cases q : lookD t3 x y with
    | none => simp only [q] at h3; exact h3.elim
    | some od =>
      obtain ⟨a', ov, e1, gg, rr⟩ := lookD_dg R3 (DR.grow g3 (DR.grow g2 d1)) (DR.grow g3 d2) q
      cases e1
      refine ⟨ov, gg, ?_⟩
      cases od with
      | none =>
        have rr : ov = none := rr
        subst rr
        simp only [q] at h3
        exact h3 loc3 H3 _ (Grow.refl _ _ _) R3 d3
      | some d =>
        obtain ⟨v, e2, r⟩ := rr
        subst e2
        simp only [q] at h3
        exact h3 loc3 H3 _ (Grow.refl _ _ _) R3 r
  · rw [if_neg hx] at h1
    exact h1.elim
/-! #### {c: v} -/
theorem de_disp1 {c : Int} {i1} {p1 pos : Pos} {v : Expr} {mv : ME} (hv : DE X cA W v mv) : DE X cA W (.Dict [some (.Constant (.int c) i1 p1)] [v] pos) (mDisp1 c mv) := by
  obtain ⟨tv, q1, s1⟩ := hv
  refine ⟨_, pe_disp (pps_cons pe_int q1 pps_nil) rfl rfl (by simp) (by simp), ⟨fun σ H env st loc Q er R h => fun p hp => ?_⟩⟩
  have G := Grow.lay (u := .dK []) hp st.length loc
  have R0 : Rel ⟨X.K, cA⟩ (put loc st.length p) (st ++ [.dk []]) (upd H p (.dK [])) := (R.new hp).adopt (R.ne_new hp) ⟨[], upd_same, .nil⟩
  have el : (st ++ [Ob.dk []]).length = st.length + 1 := by simp
  show tv σ _ _
  unfold mDisp1 at h
  refine s1.run σ _ env (st ++ [.dk []]) (put loc st.length p) _ (by rw [el]; exact er.grow G) R0 ?_
  cases q : mv env (st ++ [.dk []]) with
  | bad => simp only [q] at h; exact h.elim
  | exc c' s' =>
    simp only [q] at h
    exact Post.shift (r := (.exc c' s' : Res D)) (by rw [el]; exact G) h
  | ok w s' =>
    simp only [q] at h
    intro loc1 H1 vv g1 R1 r1
    cases q2 : s'[st.length]? with
    | none => simp only [q2] at h; exact h.elim
    | some ob =>
      cases ob with
      | dk kvs =>
        cases kvs with
        | nil =>
          simp only [q2] at h
          have hn : st.length < s'.length := (List.getElem?_eq_some_iff.mp q2).1
          obtain ⟨gs, e3, rr⟩ := R1.ob _ _ q2
          cases rr
          have lp : loc1 st.length = p := by rw [g1.gloc _ (by rw [el]; omega), put_same]
          refine ⟨by rw [← lp]; exact e3, [(.inl c, vv)], rfl, by simp, ?_⟩
          have em : mergeK [] [((.inl c : Key), vv)] = [(.inl c, vv)] := rfl
          rw [em, ← lp]
          have g := Grow.write (u := .dK [((.inl c : Key), vv)]) R1 hn
          refine h loc1 _ _ ?_ (R1.writeO hn ⟨_, upd_same, .cons (r1.grow g) .nil⟩) (.ref (by rw [List.length_set]; exact hn))
          rw [List.length_set]
          exact (by rw [el] at g1; exact (G.trans g1).trans g)
        | cons k r => simp only [q2] at h; exact h.elim
      | _ => simp only [q2] at h; exact h.elim
end
end Dn
set_option maxRecDepth 100000
namespace Dn
open PySem PySem.Spec PyProof.Rows L2
/-! ### try .. except C: -/
def noXS : SR → SR
  | .exc _ _ _ => .bad
  | r => r
theorem noXS_post {P : Pm} {N : Nat} {loc : Nat → Addr} {H : Hp} {D : Ends} {X Y : Str → L2.St → Hp → Prop} {r : SR} (h : PostS P N loc H D X (noXS r)) : PostS P N loc H D Y r := by
  cases r with
  | exc c e s => exact (show False from h).elim
  | _ => exact h
def mTry (mt : Str → Option Bool) (body hand : MS) : MS := fun e s => match body e s with
  | .exc c e1 s1 => match mt c with
    | some true => noXS (hand e1 s1)
    | some false => .exc c e1 s1
    | none => .bad
  | r => r
def mt1 (x : Str) : Str → Option Bool := fun c => if c = x then some true else none
/-- what a reading promises, as a wish -/
def tOf (P : Pm) (W : WX) (m : MS) : TS := fun D σ H => ∃ env st loc, ER P.K H st.length loc env σ ∧ Rel P loc st H ∧ PostS P st.length loc H D (wS P W) (m env st)
theorem ds_try {X : Cx} {cA : Str → Addr} {W : WX} {x : Str} {c : Value} {body suite : List Stmt} {b₀ : Stmt} {np pos pos' : Pos} {mb mh : MS} {mt : Str → Option Bool}
    (hs : X.stack = X.env :: X.outer) (hf : X.env.frame = some X.env.locals) (hc : Names X x c) (tk : Takes X W) (hm : ∀ c' b, mt c' = some b → PySem.W.exmOne X.K (.ref (cA c')) c = some b)
    (hb : ∀ (W' : WX) (pn : List (Addr × Obj)) (xe : Value → Shared → Prop), Takes (X.tr pn xe) W' → DSs (X.tr pn xe) cA W' body mb)
    (hh : ∀ (a : Addr) (pn : List (Addr × Obj)), DSs (X.suite a pn) cA (fun _ _ _ _ => False) (b₀ :: suite) mh) :
    DS X cA W (.Try body [.ExceptHandler (some (.Name x np)) none (b₀ :: suite) pos'] [] [] pos) (mTry mt mb mh) := by
  refine ⟨_, ps_try_only (tb := fun W' => tOf ⟨X.K, cA⟩ W' mb) (ts := fun _ _ _ => tOf ⟨X.K, cA⟩ (fun _ _ _ _ => False) mh) hs hf hc tk ?_ ?_, ⟨fun D σ H env st loc er R h => ?_⟩⟩
  · intro W' pn xe tk' _
    obtain ⟨te, p1, s1⟩ := hb W' pn xe tk'
    refine ⟨fun pins s σ H D I h => ?_⟩
    obtain ⟨env, st, loc, er, R, po⟩ := h
    exact p1.run pins s σ H D I (s1.run D σ H env st loc er R po)
  · intro a oe cls d pn _ _
    obtain ⟨te, p1, s1⟩ := hh a ((a, oe) :: pn)
    refine ⟨fun pins s σ H D I h => ?_⟩
    obtain ⟨env, st, loc, er, R, po⟩ := h
    exact p1.run pins s σ H D I (s1.run D σ H env st loc er R po)
  · refine ⟨env, st, loc, er, R, ?_⟩
    unfold mTry at h
    cases q : mb env st with
    | exc c' e1 s1 =>
      rw [q] at h
      simp only [] at h
      intro loc' H' σ' g R' er'
      cases q2 : mt c' with
      | none => simp only [q2] at h; exact h.elim
      | some b =>
        refine ⟨b, hm c' b q2, fun e a ha => ?_, fun e => ?_⟩
        · subst e
          simp only [q2] at h
          refine ⟨e1, s1, loc', er', R', ?_⟩
          exact noXS_post (PostS.shift g h)
        · subst e
          simp only [q2] at h
          exact h loc' H' σ' g R' er'
    | nx e1 s1 => rw [q] at h; exact h
    | ret e1 s1 => rw [q] at h; exact h
    | brk e1 s1 => rw [q] at h; exact h
    | cnt e1 s1 => rw [q] at h; exact h
    | bad => rw [q] at h; exact h
theorem mt1_ok {K : PySem.W.Frag} {cA : Str → Addr} {x : Str} (h : PySem.W.exmOne K (.ref (cA x)) (.ref (cA x)) = some true) : ∀ c' b, mt1 x c' = some b → PySem.W.exmOne K (.ref (cA c')) (.ref (cA x)) = some b := by
  intro c' b e
  unfold mt1 at e
  split at e
  · rename_i q
    subst q
    cases e
    exact h
  · cases e
end Dn
set_option maxRecDepth 100000
namespace Dn
open PySem PySem.Spec PyProof.Rows L2
section
variable {X : Cx} {cA : Str → Addr} {W : WX} {a b c e : Expr} {ma mb mc m : ME} {pos : Pos}
/-! ### a, b, c = x, y, z -/
def mPar3 (i j l : Nat) (a b c : ME) : MS := fun e s => bindS (a e s) e fun x s1 => bindS (b e s1) e fun y s2 => bindS (c e s2) e fun z s3 => .nx (((e.set i (some x)).set j (some y)).set l (some z)) s3
theorem ds_par3 (i j l : Nat) {x y z : Str} {px py pz pt : Pos} {kt k2 pt2} (hc : X.calm = true) (hN : X.N.Nodup) (ha : DE X cA W a ma) (hb : DE X cA W b mb) (hcc : DE X cA W c mc) (hi : X.N[i]? = some x := by rfl) (hj : X.N[j]? = some y := by rfl) (hl : X.N[l]? = some z := by rfl) (hij : i ≠ j := by decide) (hil : i ≠ l := by decide) (hjl : j ≠ l := by decide)
    (hx : X.env.scope.names.lookup x = some .local := by rfl) (hy : X.env.scope.names.lookup y = some .local := by rfl) (hz : X.env.scope.names.lookup z = some .local := by rfl)
    (hw : swappedStores [.Tuple [.Name x px, .Name y py, .Name z pz] kt pt] (.Tuple [a, b, c] k2 pt2) X.env = pure (some [x, y, z]) := by rfl)
    (hs : swapsWithSole [.Tuple [.Name x px, .Name y py, .Name z pz] kt pt] (.Tuple [a, b, c] k2 pt2) pos.line X.env = pure false := by rfl)
    (hs1 : starEach [a, b, c] X.env = (false, eval a X.env) :: starEach [b, c] X.env := by rfl) (hs2 : starEach [b, c] X.env = (false, eval b X.env) :: starEach [c] X.env := by rfl) (hs3 : starEach [c] X.env = (false, eval c X.env) :: starEach [] X.env := by rfl) :
    DS X cA W (.Assign [.Tuple [.Name x px, .Name y py, .Name z pz] kt pt] (.Tuple [a, b, c] k2 pt2) pos) (mPar3 i j l ma mb mc) := by
  obtain ⟨ta, p1, s1⟩ := ha
  obtain ⟨tb, p2, s2⟩ := hb
  obtain ⟨tc, p3, s3⟩ := hcc
  refine ⟨_, L2.ps_par3 hc hN hi hj hl hij hil hjl hx hy hz (pa_cons p1 (pa_cons p2 (pa_cons p3 pa_nil hs3) hs2) hs1) hw hs, ⟨fun D σ H env s loc er R h => ?_⟩⟩
  refine s1.run σ H env s loc _ er R (posts_bind (P := ⟨X.K, cA⟩) er h fun x s' loc1 H1 v g R1 r h1 => ?_)
  refine s2.run σ H1 env s' loc1 _ (er.grow g) R1 (posts_bind (P := ⟨X.K, cA⟩) (er.grow g) h1 fun y s2 loc2 H2 u g2 R2 r2 h2 => ?_)
  refine s3.run σ H2 env s2 loc2 _ ((er.grow g).grow g2) R2 (posts_bind (P := ⟨X.K, cA⟩) ((er.grow g).grow g2) h2 fun z s3 loc3 H3 w g3 R3 r3 h3 => ?_)
  exact ⟨v, u, w, rfl, h3 loc3 H3 _ (Grow.refl _ _ _) R3 ((((((er.grow g).grow g2).grow g3).set i (DR.grow g3 (DR.grow g2 r))).set j (DR.grow g3 r2)).set l r3)⟩
/-! ### a tuple of ints that the module has made -/
def GlI (K : PySem.W.Frag) (mg : Str → Option Value) (x : Str) (ns : List Int) : Prop := ∃ p, mg x = some (.ref p) ∧ ∀ H, SqT K H p (ns.map V.int)
theorem de_glI {x : Str} {ns : List Int} (h : GlI X.K X.mg x ns) (hg : Gl X x := by rfl) (hd : (x == ("__debug__" : Str)) = false := by decide) : DE X cA W (.Name x pos) (mC (.tup (ns.map .int))) := by
  obtain ⟨p, hm, hs⟩ := h
  exact ⟨_, pe_glob (v := .ref p) hg hm rfl hd, snd_c fun H N loc => .tup (hs H) .ints⟩
/-! ### enumerate(xs) -/
def mEnum0 (m : ME) : MI := fun e s => (m e s).bind fun x s1 => match x with
  | .ref n => match rdL s1 n with
    | some xs => .ok (enumD 0 xs, [(n, xs)]) s1
    | none => .bad
  | _ => .bad
theorem itr_enum0 {P : Pm} {n : Nat} {xs : List D} {N : Nat} {loc : Nat → Addr} {H : Hp} (hn : n < N) : ItR P (Ite P.K (loc n)) (enumD 0 xs) [(n, xs)] N loc H := by
  intro st loc1 H1 g R hs
  have hs : rdL st n = some xs := hs (n, xs) (by simp)
  obtain ⟨h1, vs, e, r⟩ := R.list hs
  rw [g.gloc n hn] at e
  have sq : SqL P.K H1 (loc n) vs := SqL.of e
  refine ⟨fun i hi => ?_, ⟨vs, sq, by rw [enumD_length, r.length]; exact Nat.le_refl _⟩⟩
  rw [enumD_length] at hi
  refine ⟨⟨vs, vs[i]'(by rw [← r.length]; exact hi), sq, List.getElem?_eq_getElem _⟩, fun x H2 y => ?_⟩
  obtain ⟨T, v, rfl, hT, rfl, f⟩ := y
  obtain ⟨d, hd, rd⟩ := r.getV (f vs sq)
  have G : Grow st.length loc1 H1 st.length loc1 (upd H1 T (.tup [.int (i : Nat), v])) := Grow.new hT _ _
  have e0 := enumD_get 0 xs i d hd
  rw [Int.zero_add] at e0
  exact ⟨G, R.new hT, _, e0, .tup (SqT.of upd_same) (.cons (.int _) (.cons (rd.grow G) .nil))⟩
theorem di_enum {p tpos : Pos} {elts : List Expr} {kk : Nat} (hm : X.mg "enumerate" = none) (ha : DE X cA W e m) (hg : Gl X "enumerate" := by rfl)
    (hs : starEach [e] X.env = [(false, eval e X.env)] := by rfl) : DI X cA W (.Tuple elts kk tpos) (.Call (.Name "enumerate" p) [e] [] pos) (mEnum0 m) := by
  obtain ⟨te, p1, s1⟩ := ha
  refine ⟨_, pi_enum hg hm (pa_cons p1 pa_nil hs) hs, ⟨fun σ H env st loc Q er R h => ?_⟩⟩
  refine s1.run σ H env st loc _ er R (post_bindI h fun x s1' loc1 H1 v g1 R1 r1 h1 => ?_)
  split at h1
  · rename_i n
    cases q : rdL s1' n with
    | none => simp only [q] at h1; exact h1.elim
    | some xs =>
      simp only [q] at h1
      have r1 : DR X.K H1 s1'.length loc1 (.ref n) v := r1
      cases r1 with
      | ref hn =>
        obtain ⟨_, vs, e, _⟩ := R1.list q
        exact ⟨_, vs, rfl, SqL.of e, h1 loc1 H1 (Grow.refl _ _ _) R1 _ (itr_enum0 hn)⟩
  · exact h1.elim
end
/-! ### sorted(xs), ints -/
def insI (x : Int) : List Int → List Int
  | [] => [x]
  | y :: r => if x ≤ y then x :: y :: r else y :: insI x r
def srtI : List Int → List Int
  | [] => []
  | x :: r => insI x (srtI r)
theorem insI_perm (x : Int) : ∀ xs, (insI x xs).Perm (x :: xs)
  | [] => .refl _
  | y :: r => by
    unfold insI
    split
    · exact .refl _
    · exact ((insI_perm x r).cons y).trans (.swap x y r)
theorem srtI_perm : ∀ xs, (srtI xs).Perm xs
  | [] => .refl _
  | x :: r => (insI_perm x _).trans ((srtI_perm r).cons x)
theorem insI_sorted (x : Int) : ∀ xs : List Int, xs.Pairwise (· ≤ ·) → (insI x xs).Pairwise (· ≤ ·)
  | [], _ => by simp [insI]
  | y :: r, h => by
    unfold insI
    have h2 := List.pairwise_cons.mp h
    split
    · rename_i q
      refine List.pairwise_cons.mpr ⟨fun z hz => ?_, h⟩
      rcases List.mem_cons.mp hz with e | e
      · omega
      · have := h2.1 z e; omega
    · refine List.pairwise_cons.mpr ⟨fun z hz => ?_, insI_sorted x r h2.2⟩
      have := (insI_perm x r).mem_iff.mp hz
      rcases List.mem_cons.mp this with e | e
      · omega
      · exact h2.1 z e
theorem srtI_sorted : ∀ xs, (srtI xs).Pairwise (· ≤ ·)
  | [] => .nil
  | x :: r => insI_sorted x _ (srtI_sorted r)
theorem srtI_uniq {xs ys : List Int} (hp : ys.Perm xs) (hs : ys.Pairwise (· ≤ ·)) : ys = srtI xs :=
  List.Perm.eq_of_pairwise (fun a b _ _ h1 h2 => Int.le_antisymm h1 h2) hs (srtI_sorted xs) (hp.trans (srtI_perm xs).symm)
def fSortI : FL := fun xs s => (argInts xs s).map fun ns => (.ref s.length, s ++ [.lst ((srtI ns).map .int)])
theorem sl_sortI {P : Pm} : SndL P (rSortedI P.K) fSortI := by
  refine ⟨fun H st loc xs vs d st' Q R r h k => ?_⟩
  unfold fSortI at h
  obtain ⟨ns, e, e2⟩ := Option.map_eq_some_iff.mp h
  cases e2
  obtain ⟨p, rfl, hs⟩ := argInts_sq R r e
  refine ⟨p, ns, rfl, hs, fun ns' q hp ho hq => ?_⟩
  rw [srtI_uniq hp ho]
  exact lay_k R .ints k q hq
end Dn
set_option maxRecDepth 100000
namespace Dn
open PySem PySem.Spec PyProof.Rows L2
/-! ### list displays with two for clauses -/
def tiOf (P : Pm) (m : MI) : TI := fun σ H R => ∃ env st loc, ER P.K H st.length loc env σ ∧ Rel P loc st H ∧ PostI P st.length loc H R (fun _ _ => False) (m env st)
theorem pi_imp {X : Cx} {tg e : Expr} {t t' : TI} (h : PI X tg e t) (k : ∀ σ H R, t' σ H R → t σ H R) : PI X tg e t' := ⟨fun pins s σ H R I q => h.run pins s σ H R I (k _ _ _ q)⟩
theorem DI.pi0 {X : Cx} {cA : Str → Addr} {tg e : Expr} {m : MI} (h : DI X cA W0 tg e m) : PI X tg e (tiOf ⟨X.K, cA⟩ m) := by
  obtain ⟨t, p, s⟩ := h
  exact pi_imp p fun σ H R ⟨env, st, loc, er, RR, q⟩ => s.run σ H env st loc R er RR q
open Classical in
noncomputable def lcI (c : Chk) (vs : List Nat) (g : MG) (t : MT) (m : ME) (e : En) : List D → List D → Sto → Res (List D)
  | [], acc, s => if Stays c s then .ok acc s else .bad
  | x :: r, acc, s => if Stays c s then (match g x (wipeE e vs) s with
      | .nx e1 s1 => (match t e1 s1 with
        | .ok b s2 => if b = true then (match m e1 s2 with
            | .ok y s3 => if acc.length < 100000 then lcI c vs g t m e r (acc ++ [y]) s3 else .bad
            | _ => .bad) else lcI c vs g t m e r acc s2
        | _ => .bad)
      | _ => .bad) else .bad
open Classical in
noncomputable def lcS2 (c : Chk) (vs vs1 : List Nat) (g : MG) (t : MT) (mi1 : MI) (g1 : MG) (t1 : MT) (m : ME) (e : En) : List D → List D → Sto → Res (List D)
  | [], acc, s => if Stays c s then .ok acc s else .bad
  | x :: r, acc, s => if Stays c s then (match g x (wipeE e vs) s with
      | .nx e1 s1 => (match t e1 s1 with
        | .ok b s2 => if b = true then (match mi1 e1 s2 with
            | .ok q s3 => (match lcI q.2 vs1 g1 t1 m e1 q.1 acc s3 with
              | .ok acc' s4 => lcS2 c vs vs1 g t mi1 g1 t1 m e r acc' s4
              | _ => .bad)
            | _ => .bad) else lcS2 c vs vs1 g t mi1 g1 t1 m e r acc s2
        | _ => .bad)
      | _ => .bad) else .bad
noncomputable def mLc2 (vs vs1 : List Nat) (i : MI) (g : MG) (t : MT) (i1 : MI) (g1 : MG) (t1 : MT) (m : ME) : ME := fun e s => (i e s).bind fun p s1 => (lcS2 p.2 vs vs1 g t i1 g1 t1 m e p.1 [] s1).bind fun acc s2 => .ok (.ref s2.length) (s2 ++ [.lst acc])
/-- the list that is made, apart from the store -/
def StL (P : Pm) (N1 : Nat) (loc1 : Nat → Addr) (H1 : Hp) (D0 : Addr) (acc : List D) (s : Sto) (loc : Nat → Addr) (H : Hp) : Prop :=
  ∃ ws, H D0 = some (.lst ws) ∧ DRs P.K H s.length loc acc ws ∧ Rel P loc s H ∧ (∀ n, n < s.length → loc n ≠ D0) ∧ Grow N1 loc1 H1 s.length loc H
section
variable {P : Pm} {N1 : Nat} {loc1 loc loc' : Nat → Addr} {H1 H H' : Hp} {D0 : Addr} {acc : List D} {s s' : Sto}
theorem StL.step (h : StL P N1 loc1 H1 D0 acc s loc H) (g : Grow s.length loc H s'.length loc' H') (R' : Rel P loc' s' H') : StL P N1 loc1 H1 D0 acc s' loc' H' := by
  obtain ⟨ws, hD, racc, R, ne, G⟩ := h
  refine ⟨ws, g.gframe _ _ ne hD, racc.grow g, R', fun n hn => ?_, G.trans g⟩
  by_cases hn' : n < s.length
  · rw [g.gloc n hn']; exact ne n hn'
  · intro z
    have e := g.gfresh n (by omega) hn
    rw [z, hD] at e; cases e
theorem StL.push {ws : List V} {y : D} {yv : V} (h1 : H1 D0 = none) (hD : H D0 = some (.lst ws)) (racc : DRs P.K H s.length loc acc ws) (R : Rel P loc s H) (ne : ∀ n, n < s.length → loc n ≠ D0) (G : Grow N1 loc1 H1 s.length loc H) (ry : DR P.K H s.length loc y yv) :
    StL P N1 loc1 H1 D0 (acc ++ [y]) s loc (upd H D0 (.lst (ws ++ [yv]))) ∧ Low s.length loc H s.length loc (upd H D0 (.lst (ws ++ [yv]))) := by
  have lo : Low s.length loc H s.length loc (upd H D0 (.lst (ws ++ [yv]))) := Low.off hD (fun _ z => nomatch z) (fun _ _ z => nomatch z) _ _
  exact ⟨⟨ws ++ [yv], upd_same, DRs.low lo (racc.append (.cons ry .nil)), R.off hD (fun _ z => nomatch z) (fun _ _ z => nomatch z) ne, ne, G.off h1⟩, lo⟩
theorem Low.trans {N N1 N2 : Nat} {loc loc1 loc2 : Nat → Addr} {H H1 H2 : Hp} (a : Low N loc H N1 loc1 H1) (b : Low N1 loc1 H1 N2 loc2 H2) : Low N loc H N2 loc2 H2 where
  gle := Nat.le_trans a.gle b.gle
  gloc := fun n h => (b.gloc n (Nat.lt_of_lt_of_le h a.gle)).trans (a.gloc n h)
  gtup := fun p xs h => b.gtup p xs (a.gtup p xs h)
  gfrz := fun p o u h => b.gfrz p o u (a.gfrz p o u h)
theorem lc_inner {K2 : List D → Sto → Prop} {J1 : It} {c1 : Chk} {vs1 L1 : List Nat} {g1 : MG} {t1 : MT} {m : ME} (h1 : H1 D0 = none) (hL1 : ∀ i ∈ L1, i ∈ vs1) {e1 : En} {σ2 : L2.St} {ys acc0 : List D} {s3 : Sto} {loc3 : Nat → Addr} {H3 : Hp}
    (st : StL P N1 loc1 H1 D0 acc0 s3 loc3 H3) (er : ER P.K H3 s3.length loc3 e1 σ2) (it : ItR P J1 ys c1 s3.length loc3 H3)
    (h : match lcI c1 vs1 g1 t1 m e1 ys acc0 s3 with
      | .ok acc' s' => K2 acc' s'
      | _ => False) :
    ∃ W1 : Nat → Nat → Hp → Prop, (∃ k, W1 0 k H3) ∧ ∀ j k H, W1 j k H → (J1.stop j H ∧ (∃ acc s loc, StL P N1 loc1 H1 D0 acc s loc H ∧ K2 acc s)) ∨ (J1.go j H ∧ ∃ Nx1 : Hp → Prop, (∀ H', Nx1 H' → ∃ k', k' < k ∧ W1 (j + 1) k' H') ∧
      ∀ x H', J1.yld j H x H' → tgOf P L1 g1 x (wipe σ2 vs1) H' fun σ3 H5 => wipe σ3 vs1 = wipe σ2 vs1 ∧ ttOf P t1 σ3 H5 fun b H6 =>
        if b = true then teOf P m σ3 H6 fun y H7 => ∃ acc, H7 D0 = some (.lst acc) ∧ acc.length < sizeLine ∧ Nx1 (upd H7 D0 (.lst (acc ++ [y]))) else Nx1 H6) := by
  refine ⟨fun j k H' => k = ys.length - j ∧ j ≤ ys.length ∧ ∃ acc s loc, StL P N1 loc1 H1 D0 acc s loc H' ∧ Low s3.length loc3 H3 s.length loc H' ∧ (match lcI c1 vs1 g1 t1 m e1 (ys.drop j) acc s with
      | .ok acc' s' => K2 acc' s'
      | _ => False), ⟨ys.length, by simp, Nat.zero_le _, acc0, s3, loc3, st, (Grow.refl _ _ _).low, by simpa using h⟩, ?_⟩
  rintro j k H2 ⟨rfl, hle, acc, s, loc, st2, lo2, h2⟩
  have stay : Stays c1 s := by
    by_cases hs : Stays c1 s
    · exact hs
    · exfalso
      cases hd : ys.drop j with
      | nil => rw [hd] at h2; unfold lcI at h2; rw [if_neg hs] at h2; exact h2
      | cons _ _ => rw [hd] at h2; unfold lcI at h2; rw [if_neg hs] at h2; exact h2
  have R2 : Rel P loc s H2 := by obtain ⟨_, _, _, R, _⟩ := st2; exact R
  obtain ⟨hgo, hstop⟩ := it s loc H2 lo2 R2 stay
  by_cases hlt : j < ys.length
  · obtain ⟨hg1, hy⟩ := hgo j hlt
    refine .inr ⟨hg1, fun H' => ∃ acc s loc, StL P N1 loc1 H1 D0 acc s loc H' ∧ Low s3.length loc3 H3 s.length loc H' ∧ (match lcI c1 vs1 g1 t1 m e1 (ys.drop (j + 1)) acc s with
      | .ok acc' s' => K2 acc' s'
      | _ => False), fun H' z => ⟨ys.length - (j + 1), by omega, rfl, hlt, z⟩, fun x H3' yl => ?_⟩
    obtain ⟨g3, R3, d, hd, rd⟩ := hy x H3' yl
    have st3 := st2.step g3 R3
    have lo3 := lo2.trans g3.low
    have hdr : ys.drop j = d :: ys.drop (j + 1) := by
      rw [List.drop_eq_getElem_cons hlt]
      have : ys[j] = d := by
        rw [List.getElem?_eq_getElem hlt] at hd
        exact Option.some.inj hd
      rw [this]
    rw [hdr] at h2
    unfold lcI at h2
    rw [if_pos stay] at h2
    have er3 : ER P.K H3' s.length loc (wipeE e1 vs1) (wipe σ2 vs1) := (ER.low lo3 er).wipe vs1
    cases q1 : g1 d (wipeE e1 vs1) s with
    | nx e2 s4 =>
      simp only [q1] at h2
      refine ⟨d, wipeE e1 vs1, s, loc, rd, er3, R3, ?_⟩
      rw [q1]
      intro loc4 H4 σ4 g4 R4 er4 ag
      refine ⟨wipe_agree ag hL1, ?_⟩
      have st4 := st3.step g4 R4
      have lo4 := lo3.trans g4.low
      refine ⟨e2, s4, loc4, er4, R4, ?_⟩
      cases q2 : t1 e2 s4 with
      | ok b s5 =>
        simp only [q2] at h2
        intro loc5 H5 b' g5 R5 eb
        cases eb
        have st5 := st4.step g5 R5
        have lo5 := lo4.trans g5.low
        by_cases hb : b = true
        · rw [if_pos hb] at h2 ⊢
          refine ⟨e2, s5, loc5, er4.grow g5, R5, ?_⟩
          cases q3 : m e2 s5 with
          | ok y s6 =>
            simp only [q3] at h2
            intro loc6 H6 yv g6 R6 ry
            obtain ⟨ws, hD6, racc6, _, ne6, G6⟩ := st5.step g6 R6
            have lo6 := lo5.trans g6.low
            by_cases hl : acc.length < 100000
            · rw [if_pos hl] at h2
              obtain ⟨st7, lo7⟩ := StL.push h1 hD6 racc6 R6 ne6 G6 ry
              refine ⟨ws, hD6, by rw [← racc6.length, sizeLine_eq]; omega, acc ++ [y], s6, loc6, st7, lo6.trans lo7, h2⟩
            · rw [if_neg hl] at h2; exact h2.elim
          | exc c' s' => simp only [q3] at h2
          | bad => simp only [q3] at h2
        · rw [if_neg hb] at h2 ⊢
          exact ⟨acc, s5, loc5, st5, lo5, h2⟩
      | exc c' s' => simp only [q2] at h2
      | bad => simp only [q2] at h2
    | ret d s => simp only [q1] at h2
    | brk d s => simp only [q1] at h2
    | cnt d s => simp only [q1] at h2
    | exc d s _ => simp only [q1] at h2
    | bad => simp only [q1] at h2
  · have e : j = ys.length := by omega
    subst e
    rw [List.drop_length] at h2
    unfold lcI at h2
    rw [if_pos stay] at h2
    exact .inl ⟨hstop, acc, s, loc, st2, h2⟩
end
theorem snd_lc2 {P : Pm} {W : WX} {wi : TI} {mi mi1 : MI} {L L1 vs vs1 : List Nat} {g g1 : MG} {t t1 : MT} {m : ME} (hi : SndI P W wi mi) (hL : ∀ i ∈ L, i ∈ vs) (hL1 : ∀ i ∈ L1, i ∈ vs1) :
    SndE P W (tLc2 wi (tgOf P L g) (ttOf P t) (tiOf P mi1) (tgOf P L1 g1) (ttOf P t1) (teOf P m) vs vs1) (mLc2 vs vs1 mi g t mi1 g1 t1 m) := by
  refine ⟨fun σ H env st loc Q er R h => ?_⟩
  refine hi.run σ H env st loc _ er R (post_i h fun xs c s1 loc1 H1 J gg1 R1 it h1 => ?_)
  intro D0 hD
  have h1 : Post P (rD P) s1.length loc1 H1 Q (fun c H' => W (.ref (P.cA c)) none σ H') ((lcS2 c vs vs1 g t mi1 g1 t1 m env xs [] s1).bind fun acc s2 => .ok (.ref s2.length) (s2 ++ [.lst acc])) := h1
  refine ⟨fun i mm H' => mm = xs.length - i ∧ i ≤ xs.length ∧ ∃ acc s2 loc', StL P s1.length loc1 H1 D0 acc s2 loc' H' ∧
      Post P (rD P) s1.length loc1 H1 Q (fun c H' => W (.ref (P.cA c)) none σ H') ((lcS2 c vs vs1 g t mi1 g1 t1 m env (xs.drop i) acc s2).bind fun acc s2 => .ok (.ref s2.length) (s2 ++ [.lst acc])),
    ⟨xs.length, by simp, Nat.zero_le _, [], s1, loc1, ⟨[], upd_same, .nil, R1.new hD, R1.ne_new hD, (Grow.refl _ _ _).off hD⟩, by simpa using h1⟩, ?_⟩
  rintro i mm H2 ⟨rfl, hle, acc, s2, loc2, st2, h2⟩
  have stay : Stays c s2 := by
    by_cases hs : Stays c s2
    · exact hs
    · exfalso
      cases hd : xs.drop i with
      | nil => rw [hd] at h2; unfold lcS2 at h2; rw [if_neg hs] at h2; exact h2
      | cons _ _ => rw [hd] at h2; unfold lcS2 at h2; rw [if_neg hs] at h2; exact h2
  have st2' := st2
  obtain ⟨ws2, hD2, racc2, R2, ne2, g2⟩ := st2'
  obtain ⟨hgo, hstop⟩ := it s2 loc2 H2 g2.low R2 stay
  by_cases hlt : i < xs.length
  · obtain ⟨hg1, hy⟩ := hgo i hlt
    refine .inr ⟨hg1, fun H' => ∃ acc s loc', StL P s1.length loc1 H1 D0 acc s loc' H' ∧
      Post P (rD P) s1.length loc1 H1 Q (fun c H' => W (.ref (P.cA c)) none σ H') ((lcS2 c vs vs1 g t mi1 g1 t1 m env (xs.drop (i + 1)) acc s).bind fun acc s2 => .ok (.ref s2.length) (s2 ++ [.lst acc])),
      fun H' z => ⟨xs.length - (i + 1), by omega, rfl, hlt, z⟩, fun x H3 yl => ?_⟩
    obtain ⟨g3, R3, d, hd, rd⟩ := hy x H3 yl
    have st3 := st2.step g3 R3
    have hdr : xs.drop i = d :: xs.drop (i + 1) := by
      rw [List.drop_eq_getElem_cons hlt]
      have : xs[i] = d := by
        rw [List.getElem?_eq_getElem hlt] at hd
        exact Option.some.inj hd
      rw [this]
    rw [hdr] at h2
    unfold lcS2 at h2
    rw [if_pos stay] at h2
    have h3 := h2
    have er3 : ER P.K H3 s2.length loc2 (wipeE env vs) (wipe σ vs) := (((er.grow gg1).grow g2).grow g3).wipe vs
    cases q1 : g d (wipeE env vs) s2 with
    | nx e1 s3 =>
      simp only [q1] at h3
      refine ⟨d, wipeE env vs, s2, loc2, rd, er3, R3, ?_⟩
      rw [q1]
      intro loc3 H4 σ4 g4 R4 er4 ag
      refine ⟨wipe_agree ag hL, ?_⟩
      have st4 := st3.step g4 R4
      refine ⟨e1, s3, loc3, er4, R4, ?_⟩
      cases q2 : t e1 s3 with
      | ok b s4 =>
        simp only [q2] at h3
        intro loc4 H5 b' g5 R5 eb
        cases eb
        have st5 := st4.step g5 R5
        by_cases hb : b = true
        · rw [if_pos hb] at h3 ⊢
          refine ⟨e1, s4, loc4, er4.grow g5, R5, ?_⟩
          cases q3 : mi1 e1 s4 with
          | ok q s5 =>
            obtain ⟨ys, c1⟩ := q
            simp only [q3] at h3
            intro loc5 H6 g6 R6 J1 it1
            have st6 := st5.step g6 R6
            refine lc_inner (K2 := fun acc s => Post P (rD P) s1.length loc1 H1 Q (fun c H' => W (.ref (P.cA c)) none σ H') ((lcS2 c vs vs1 g t mi1 g1 t1 m env (xs.drop (i + 1)) acc s).bind fun acc s2 => .ok (.ref s2.length) (s2 ++ [.lst acc]))) hD hL1 st6 ((er4.grow g5).grow g6) it1 ?_
            cases q4 : lcI c1 vs1 g1 t1 m e1 ys acc s5 with
            | ok acc' s6 =>
              simp only [q4] at h3
              exact h3
            | exc c' s' => simp only [q4] at h3; exact h3.elim
            | bad => simp only [q4] at h3; exact h3.elim
          | exc c' s' => simp only [q3] at h3; exact h3.elim
          | bad => simp only [q3] at h3; exact h3.elim
        · rw [if_neg hb] at h3 ⊢
          exact ⟨acc, s4, loc4, st5, h3⟩
      | exc c' s' => simp only [q2] at h3; exact h3.elim
      | bad => simp only [q2] at h3; exact h3.elim
    | ret d s => simp only [q1] at h3; exact h3.elim
    | brk d s => simp only [q1] at h3; exact h3.elim
    | cnt d s => simp only [q1] at h3; exact h3.elim
    | exc d s _ => simp only [q1] at h3; exact h3.elim
    | bad => simp only [q1] at h3; exact h3.elim
  · have e : i = xs.length := by omega
    subst e
    rw [List.drop_length] at h2
    unfold lcS2 at h2
    rw [if_pos stay] at h2
    refine .inl ⟨hstop, ?_⟩
    have h2 : Post P (rD P) s1.length loc1 H1 Q (fun c H' => W (.ref (P.cA c)) none σ H') (.ok (.ref s2.length) (s2 ++ [.lst acc])) := h2
    have e : (V.ref D0) = .ref (put loc2 s2.length D0 s2.length) := by rw [put_same]
    rw [e]
    exact h2 (put loc2 s2.length D0) H2 _ (by rw [List.length_append]; exact g2.adopt hD) (R2.adopt ne2 ⟨ws2, hD2, DRs.low Low.adopt racc2⟩) (.ref (by rw [List.length_append]; simp))
section
variable {X : Cx} {cA : Str → Addr} {W : WX} {elt tg iter tg1 iter1 : Expr} {ifs ifs1 : List Expr} {pos : Pos} {m : ME} {mt mt1 : MT} {mi mi1 : MI} {mg mg1 : MG} {L L1 : List Nat} {scope : Scope}
theorem de_lc2 (own : List (Str × Nat)) (vs1 : List Nat) (hc : X.calm = true) (hN : X.N.Nodup) (hi : DI X cA W tg iter mi) (ok : BlkOk X.N X.env.scope scope own)
    (hg : ∀ (s : Shared) (H : Hp) (C : Addr) (cl : List (Str × Addr)) (fp : List Addr), DGo (X.blk s H scope (compEnvC scope cl C X.env) fp) cA W0 (some L) tg mg)
    (ht : ∀ (s : Shared) (H : Hp) (C : Addr) (cl : List (Str × Addr)) (fp : List Addr), DTs (X.blk s H scope (compEnvC scope cl C X.env) fp) cA W0 ifs mt)
    (hi1 : ∀ (s : Shared) (H : Hp) (C : Addr) (cl : List (Str × Addr)) (fp : List Addr), DI (X.blk s H scope (compEnvC scope cl C X.env) fp) cA W0 tg1 iter1 mi1)
    (hg1 : ∀ (s : Shared) (H : Hp) (C : Addr) (cl : List (Str × Addr)) (fp : List Addr), DGo (X.blk s H scope (compEnvC scope cl C X.env) fp) cA W0 (some L1) tg1 mg1)
    (ht1 : ∀ (s : Shared) (H : Hp) (C : Addr) (cl : List (Str × Addr)) (fp : List Addr), DTs (X.blk s H scope (compEnvC scope cl C X.env) fp) cA W0 ifs1 mt1)
    (he : ∀ (s : Shared) (H : Hp) (C : Addr) (cl : List (Str × Addr)) (fp : List Addr), DE (X.blk s H scope (compEnvC scope cl C X.env) fp) cA W0 elt m)
    (hL : ∀ i ∈ L, i ∈ own.map (·.2) := by decide) (hL1 : ∀ i ∈ L1, i ∈ vs1 := by decide) (hv : ∀ i ∈ vs1, i ∈ own.map (·.2) := by decide) (hs : ∀ x, foldedSetIterable iter X.env x = pure x := by intro _; rfl) (hs1 : ∀ env x, foldedSetIterable iter1 env x = pure x := by intro _ _; rfl) :
    DE X cA W (.ListComp elt [⟨tg, iter, ifs, 0⟩, ⟨tg1, iter1, ifs1, 0⟩] scope pos) (mLc2 (own.map (·.2)) vs1 mi mg mt mi1 mg1 mt1 m) := by
  obtain ⟨wi, p1, s1⟩ := hi
  exact ⟨_, pe_lc2 hc hN p1 ok hv (g := tgOf ⟨X.K, cA⟩ L mg) (tt := ttOf ⟨X.K, cA⟩ mt) (te := teOf ⟨X.K, cA⟩ m) (wi1 := tiOf ⟨X.K, cA⟩ mi1) (g1 := tgOf ⟨X.K, cA⟩ L1 mg1) (tt1 := ttOf ⟨X.K, cA⟩ mt1)
    (fun s H C cl fp => (hg s H C cl fp).pg0) (fun s H C cl fp => (ht s H C cl fp).pts0) (fun s H C cl fp => (hi1 s H C cl fp).pi0) (fun s H C cl fp => (hg1 s H C cl fp).pg0) (fun s H C cl fp => (ht1 s H C cl fp).pts0) (fun s H C cl fp => (he s H C cl fp).pe0) hs hs1, snd_lc2 s1 hL hL1⟩
end
end Dn
set_option maxRecDepth 100000
namespace Dn
open PySem PySem.Spec PyProof.Rows L2
/-! a, b, .. = a list of that length -/
def gL (n : Nat) (r : List D → En → Sto → SR) : MG := fun d e s => match d with
  | .ref m => match rdL s m with
    | some ds => if ds.length = n then r ds e s else .bad
    | none => .bad
  | _ => .bad
@[simp] theorem ev_gL {n m : Nat} {r : List D → En → Sto → SR} {e : En} {s : Sto} : gL n r (.ref m) e s = match rdL s m with
    | some ds => if ds.length = n then r ds e s else .bad
    | none => .bad := rfl
section
variable {X : Cx} {cA : Str → Addr} {W : WX} {pos : Pos}
theorem dg_lst {L : Option (List Nat)} {es : List Expr} {k n : Nat} {r : List D → En → Sto → SR} (hc : X.calm = true) (h : DGos X cA W L es r)
    (hn : (assignEach es X.env).length = n := by rfl) (hst : (assignEach es X.env).findIdx? (·.1) = none := by rfl) : DGo X cA W L (.Tuple es k pos) (gL n r) := by
  obtain ⟨t, p, s, o⟩ := h
  refine ⟨_, pg_lst hc p hn hst, ⟨fun v d σ H env s1 loc Q r' er R h => ?_⟩, fun l hl v σ H Q Q' k h => ?_⟩
  · unfold gL at h
    cases d with
    | ref m =>
      cases q : rdL s1 m with
      | none => simp only [q] at h; exact h.elim
      | some ds =>
        simp only [q] at h
        obtain ⟨hm, vs, e, rv⟩ := R.list q
        cases r'
        by_cases hl : ds.length = n
        · rw [if_pos hl] at h
          exact ⟨_, vs, rfl, SqL.of e, rv.length ▸ hl, s.run vs ds σ H env s1 loc Q rv er R h⟩
        · rw [if_neg hl] at h
          exact h.elim
    | _ => exact h.elim
  · obtain ⟨a, xs, e, q1, q2, q3⟩ := h
    exact ⟨a, xs, e, q1, q2, o l hl xs σ H Q Q' k q3⟩
end
end Dn
set_option maxRecDepth 100000
namespace Dn
open PySem PySem.Spec PyProof.Rows L2
/-! ### isinstance, of instances too -/
/-- what isinstance asks of a class of the text -/
structure IsC (K : PySem.W.Frag) (C : Addr) : Prop where
  cl : Cls K C
  ha : PySem.W.findIn K (.ref C) "__class__" = some (some (.builtin "object.__class__"))
  hn : PySem.W.specialIn K (.builtin "object.__class__") "__get__" = some (some (.builtin "getset_descriptor.__get__"))
  htk : PySem.W.takesIn K (.builtin "object.__class__") = some true
  hm : PySem.W.mroIn K C (.type "object") = some true
  ic : PySem.W.isClsIn K C = true
  tc : PySem.W.typeIn K (.ref C) = some (.type "type")
  ms : PySem.W.mroIn K C (.ref C) = some true
def insCls (s : Sto) : D → Option Str
  | .ref n => match s[n]? with
    | some (.ins c _) => some c
    | _ => none
  | _ => none
def IsO (K : PySem.W.Frag) (cA : Str → Addr) (T : String) (cs : List Str) : Prop := ∀ c ∈ cs, IsC K (cA c) ∧ PySem.W.mroIn K (cA c) (.type T) = some false
theorem isO_nil {K : PySem.W.Frag} {cA : Str → Addr} {T : String} : IsO K cA T [] := fun _ h => by cases h
theorem isO_cons {K : PySem.W.Frag} {cA : Str → Addr} {T : String} {c : Str} {cs : List Str} (h : IsC K (cA c)) (m : PySem.W.mroIn K (cA c) (.type T) = some false) (r : IsO K cA T cs) : IsO K cA T (c :: cs) := fun d hd => by
  rcases List.mem_cons.mp hd with rfl | hd
  · exact ⟨h, m⟩
  · exact r d hd
/-- the own target: any other class is none of it -/
def IsOC (K : PySem.W.Frag) (cA : Str → Addr) (C : Str) (cs : List Str) : Prop := ∀ c ∈ cs, IsC K (cA c) ∧ (c ≠ C → PySem.W.mroIn K (cA c) (.ref (cA C)) = some false)
theorem isOC_nil {K : PySem.W.Frag} {cA : Str → Addr} {C : Str} : IsOC K cA C [] := fun _ h => by cases h
theorem isOC_self {K : PySem.W.Frag} {cA : Str → Addr} {C : Str} {cs : List Str} (h : IsC K (cA C)) (r : IsOC K cA C cs) : IsOC K cA C (C :: cs) := fun d hd => by
  rcases List.mem_cons.mp hd with rfl | hd
  · exact ⟨h, fun z => absurd rfl z⟩
  · exact r d hd
theorem isOC_cons {K : PySem.W.Frag} {cA : Str → Addr} {c C : Str} {cs : List Str} (h : IsC K (cA c)) (m : PySem.W.mroIn K (cA c) (.ref (cA C)) = some false) (r : IsOC K cA C cs) : IsOC K cA C (c :: cs) := fun d hd => by
  rcases List.mem_cons.mp hd with rfl | hd
  · exact ⟨h, fun _ => m⟩
  · exact r d hd
def isiA (cs : List Str) (T : String) (s : Sto) (x : D) : Option Bool := match tyD s x with
  | some t => kitB t T
  | none => match insCls s x with
    | some c => if c ∈ cs then some false else none
    | none => none
def mIsiO (cs : List Str) (T : String) (a : ME) : ME := fun e s => (a e s).bind fun x s1 => match isiA cs T s1 x with
  | some b => .ok (.bl b) s1
  | none => .bad
def isiC (cs : List Str) (C : Str) (s : Sto) (x : D) : Option Bool := match tyD s x with
  | some _ => some false
  | none => match insCls s x with
    | some c => if c ∈ cs then some (decide (c = C)) else none
    | none => none
def mIsiC (cs : List Str) (C : Str) (a : ME) : ME := fun e s => (a e s).bind fun x s1 => match isiC cs C s1 x with
  | some b => .ok (.bl b) s1
  | none => .bad
@[simp] theorem ev_isiO {cs : List Str} {T : String} {x : ME} {e : En} {s : Sto} : mIsiO cs T x e s = (x e s).bind fun a s1 => match isiA cs T s1 a with
  | some b => .ok (.bl b) s1
  | none => .bad := rfl
@[simp] theorem ev_isiC {cs : List Str} {C : Str} {x : ME} {e : En} {s : Sto} : mIsiC cs C x e s = (x e s).bind fun a s1 => match isiC cs C s1 a with
  | some b => .ok (.bl b) s1
  | none => .bad := rfl
section
variable {X : Cx} {cA : Str → Addr} {W : WX} {pos : Pos}
theorem ins_ty {H : Hp} {loc : Nat → Addr} {st : Sto} {x : D} {v : V} {c : Str} {K : PySem.W.Frag} (R : Rel ⟨K, cA⟩ loc st H) (r : DR K H st.length loc x v) (h : insCls st x = some c) (k : IsC K (cA c)) : TyX K H v (.ref (cA c)) := by
  cases r with
  | @ref n hn =>
    unfold insCls at h
    simp only at h
    split at h
    · rename_i c' fs e
      cases h
      obtain ⟨dx, gs, e2, _⟩ := R.ob n _ e
      exact .base (.ins e2 k.cl k.ha k.hn k.htk k.hm)
    · cases h
  | _ => cases h
theorem kit_ref {K : PySem.W.Frag} {C : Addr} {T : String} (m : PySem.W.mroIn K C (.type T) = some false) (k : PySem.W.kitMeta T = true) : PySem.W.kitOne K (.ref C) (.type T) = some false := by
  unfold PySem.W.kitOne PySem.W.kitCls
  rw [if_neg (by simp)]
  simp only [k]
  simpa [PySem.W.subIn] using m
theorem kit_own {K : PySem.W.Frag} {C : Addr} {t : Value} {b : Bool} (ne : (t == .ref C) = false) (ic : PySem.W.isClsIn K C = true) (tc : PySem.W.typeIn K (.ref C) = some (.type "type")) (s : PySem.W.subIn K t (.ref C) = some b) : PySem.W.kitOne K t (.ref C) = some b := by
  unfold PySem.W.isClsIn at ic
  unfold PySem.W.kitOne PySem.W.kitCls
  rw [if_neg (by simp [ne])]
  simp only [ic, tc]
  simpa using s
theorem mro_ref {t : String} {l : List Value} {C : Addr} (h : PySem.fastBuiltinMro t = some l) : l.contains (.ref C) = false := by
  unfold PySem.fastBuiltinMro at h
  obtain ⟨m, _, rfl⟩ := Option.map_eq_some_iff.mp h
  rw [Bool.eq_false_iff]
  intro z
  obtain ⟨y, _, e⟩ := List.mem_map.mp (List.contains_iff_mem.mp z)
  cases e
theorem tyD_mro {s : Sto} {x : D} {t : String} (h : tyD s x = some t) : ∃ l, PySem.fastBuiltinMro t = some l := by
  have key : t = "NoneType" ∨ t = "bool" ∨ t = "int" ∨ t = "str" ∨ t = "tuple" ∨ t = "list" ∨ t = "dict" := by
    unfold tyD at h
    split at h
    all_goals first
      | (cases h; simp)
      | (split at h <;> first | (cases h; simp) | cases h)
  rcases key with rfl | rfl | rfl | rfl | rfl | rfl | rfl <;> exact Option.isSome_iff_exists.mp (by decide +kernel)
theorem de_isiO {T : String} {x : Str} {a : Expr} {ma : ME} {cs : List Str} {p p2 pos : Pos} (hm : X.mg "isinstance" = none) (hm2 : X.mg x = none) (hO : IsO X.K cA T cs) (ha : DE X cA W a ma) (hv2 : bootBuiltins x = some (.type T) := by decide +kernel) (hk : PySem.W.kitMeta T = true := by decide +kernel) (hg : Gl X "isinstance" := by rfl) (hg2 : Gl X x := by rfl)
    (hv : bootBuiltins "isinstance" = some (.builtin "isinstance") := by decide +kernel) (hn2 : x ≠ "__name__" := by decide) (hdb2 : (x == ("__debug__" : Str)) = false := by decide)
    (he : starEach [a, .Name x p2] X.env = (false, eval a X.env) :: starEach [.Name x p2] X.env := by rfl) (he2 : starEach [.Name x p2] X.env = (false, eval (.Name x p2) X.env) :: starEach [] X.env := by rfl) (hpl : (backTo pos (starEach [.Name x p2] X.env)).any (·.1) = false := by rfl) :
    DE X cA W (.Call (.Name "isinstance" p) [a, .Name x p2] [] pos) (mIsiO cs T ma) := by
  obtain ⟨ta, p1, s1⟩ := ha
  refine ⟨_, pe_callB call_isi hg hm hv (pa_cons p1 (pa_cons (pe_bltn (v := .ty T) hg2 hm2 hv2 rfl hn2 hdb2) pa_nil he2) he) (by decide) (by decide) he hpl, ⟨fun σ H env st loc Q er R h => ?_⟩⟩
  refine s1.run σ H env st loc _ er R (post_bind h fun x s1 loc1 H1 v g1 R1 d1 h1 => ?_)
  cases q : tyD s1 x with
  | none =>
    cases q2 : insCls s1 x with
    | none => simp only [isiA, q, q2] at h1; exact h1.elim
    | some c =>
      by_cases hc : c ∈ cs
      · simp only [isiA, q, q2, if_pos hc] at h1
        obtain ⟨k, m⟩ := hO c hc
        exact ⟨v, .ty T, .ref (cA c), .type T, false, rfl, .ty T, ins_ty R1 d1 q2 k, kit_ref m hk, h1 loc1 H1 _ (Grow.refl _ _ _) R1 (.bl false)⟩
      · simp only [isiA, q, q2, if_neg hc] at h1; exact h1.elim
  | some t =>
    cases q2 : kitB t T with
    | none => simp only [isiA, q, q2] at h1; exact h1.elim
    | some b =>
      simp only [isiA, q, q2] at h1
      exact ⟨v, .ty T, .type t, .type T, b, rfl, .ty T, tyD_v R1 d1 q, kit_ty q2, h1 loc1 H1 _ (Grow.refl _ _ _) R1 (.bl b)⟩
theorem de_isiC {C : Str} {a : Expr} {ma : ME} {cs : List Str} {p p2 pos : Pos} (hm : X.mg "isinstance" = none) (hm2 : X.mg C = some (.ref (cA C))) (hC : IsC X.K (cA C)) (hO : IsOC X.K cA C cs) (ha : DE X cA W a ma) (hg : Gl X "isinstance" := by rfl) (hg2 : Gl X C := by rfl)
    (hv : bootBuiltins "isinstance" = some (.builtin "isinstance") := by decide +kernel) (hdb2 : (C == ("__debug__" : Str)) = false := by decide)
    (he : starEach [a, .Name C p2] X.env = (false, eval a X.env) :: starEach [.Name C p2] X.env := by rfl) (he2 : starEach [.Name C p2] X.env = (false, eval (.Name C p2) X.env) :: starEach [] X.env := by rfl) (hpl : (backTo pos (starEach [.Name C p2] X.env)).any (·.1) = false := by rfl) :
    DE X cA W (.Call (.Name "isinstance" p) [a, .Name C p2] [] pos) (mIsiC cs C ma) := by
  obtain ⟨ta, p1, s1⟩ := ha
  refine ⟨_, pe_callB call_isi hg hm hv (pa_cons p1 (pa_cons (pe_glob (v := .ref (cA C)) hg2 hm2 rfl hdb2) pa_nil he2) he) (by decide) (by decide) he hpl, ⟨fun σ H env st loc Q er R h => ?_⟩⟩
  refine s1.run σ H env st loc _ er R (post_bind h fun x s1 loc1 H1 v g1 R1 d1 h1 => ?_)
  cases q : tyD s1 x with
  | none =>
    cases q2 : insCls s1 x with
    | none => simp only [isiC, q, q2] at h1; exact h1.elim
    | some c =>
      by_cases hc : c ∈ cs
      · simp only [isiC, q, q2, if_pos hc] at h1
        obtain ⟨k, m⟩ := hO c hc
        refine ⟨v, .ref (cA C), .ref (cA c), .ref (cA C), decide (c = C), rfl, .own _, ins_ty R1 d1 q2 k, ?_, h1 loc1 H1 _ (Grow.refl _ _ _) R1 (.bl _)⟩
        by_cases e : c = C
        · subst e
          simp [PySem.W.kitOne]
        · by_cases z : ((Value.ref (cA c)) == .ref (cA C)) = true
          · exfalso
            have z : cA c = cA C := by simpa using z
            have m := m e
            rw [z] at m
            rw [hC.ms] at m
            cases m
          · rw [decide_eq_false e]
            exact kit_own (by simpa using z) hC.ic hC.tc (m e)
      · simp only [isiC, q, q2, if_neg hc] at h1; exact h1.elim
  | some t =>
    simp only [isiC, q] at h1
    obtain ⟨l, hl⟩ := tyD_mro q
    refine ⟨v, .ref (cA C), .type t, .ref (cA C), false, rfl, .own _, tyD_v R1 d1 q, kit_own rfl hC.ic hC.tc ?_, h1 loc1 H1 _ (Grow.refl _ _ _) R1 (.bl false)⟩
    show (PySem.fastBuiltinMro t).map _ = _
    rw [hl]
    exact congrArg some (mro_ref hl)
end
end Dn
set_option maxRecDepth 100000
namespace Dn
open PySem PySem.Spec PyProof.Rows L2
/-! ### xs.index(x), xs.count(x) by data -/
def fIndex : FM := fun o xs s => match o, xs with
  | .ref n, [x] => match toPy s 100002 (.ref n), toPy s 100002 x with
    | some (.list ds), some d => if SeqAt.shaped (.list ds) = true ∧ SeqAt.shaped d = true then (match ds.findIdx? (fun z => PyData.eqv z d) with | some j => some (.int (j : Nat), s) | none => none) else none
    | _, _ => none
  | _, _ => none
def fCount : FM := fun o xs s => match o, xs with
  | .ref n, [x] => match toPy s 100002 (.ref n), toPy s 100002 x with
    | some (.list ds), some d => if SeqAt.shaped (.list ds) = true ∧ SeqAt.shaped d = true then some (.int (ds.countP fun z => PyData.eqv z d : Nat), s) else none
    | _, _ => none
  | _, _ => none
section
variable {P : Pm}
theorem drs1' {K : PySem.W.Frag} {H : Hp} {N : Nat} {loc : Nat → Addr} {d : D} {vs : List V} (r : DRs K H N loc [d] vs) : ∃ v, vs = [v] ∧ DR K H N loc d v := by
  cases r with
  | cons h t => cases t; exact ⟨_, rfl, h⟩
theorem sm_index : SndM P (rIndexD P.K) fIndex := by
  refine ⟨fun H st loc o xs vo vs d st' Q R ro r h k => ?_⟩
  unfold fIndex at h
  split at h
  · rename_i n x
    split at h
    · rename_i ds dd e1 e2
      split at h
      · rename_i c
        split at h
        · rename_i j q
          cases h
          obtain ⟨v, rfl, rv⟩ := drs1' r
          have d1 := (toPy_dp R 100002).1 _ _ _ ro e1
          have d2 := (toPy_dp R 100002).1 _ _ _ rv e2
          cases ro
          obtain ⟨hj, hp, hm⟩ := List.findIdx?_eq_some_iff_getElem.mp q
          refine ⟨_, v, dd, ds, j, ds[j], rfl, rfl, d1, d2, c.1, c.2, List.getElem?_eq_getElem hj, hp, fun m z hmj hz => ?_, k loc H _ (Grow.refl _ _ _) R (.int _)⟩
          obtain ⟨hlt, rfl⟩ := List.getElem?_eq_some_iff.mp hz
          simpa using hm m hmj
        · cases h
      · cases h
    · cases h
  · cases h
/-- l.count(x), data of any depth -/
def rCntD (K : PySem.W.Frag) : V → List V → Hp → VK → Prop := fun x xs H Q => ∃ (a : Addr) (y : V) (d : PyData) (ds : List PyData), x = V.ref a ∧ xs = [y] ∧ Dp K H (V.ref a) (.list ds) ∧ Dp K H y d ∧
  SeqAt.shaped (.list ds) = true ∧ SeqAt.shaped d = true ∧ Q (.int (ds.countP fun z => PyData.eqv z d : Nat)) H
theorem mt_countD {X : Cx} (hu : X.A.units + 65 < cLine) : MtR X "list.count" (rCntD X.K) := by
  intro pins s σ H x xs v us Q I rx rxs h
  obtain ⟨a, y, d, ds, rfl, rfl, hl, hy, sl, sd, q⟩ := h
  cases rx
  cases rxs with
  | cons ry rt =>
    rename_i uy ut
    cases rt
    obtain ⟨bs, r1⟩ := Dp.reads I d y uy hy ry
    have hxs : PyData.canLayAll0 ds = true := SeqAt.canLay_of_shaped sl
    have hroom : X.A.units + 1 + min (PyData.depthAll ds) d.depth < cLine := room_in_shaped sd hu
    cases hl with
    | lst hs ha =>
      obtain ⟨its, rv, ⟨⟨cls, dd, data, sls⟩, n, ho, hc, hdn, hdt⟩, hlen⟩ := I.list hs
      simp only at hc hdt
      subst hc hdt
      obtain ⟨as, h4⟩ := Dp.readsAll I ds _ its ha rv
      have hmap : its.map (SeqAt.readOf s.heap) = ds := SeqAt.readsAll_map ds its as hxs h4
      refine call_meets PySem.F.slot_list_count ⟨_, ho, rfl⟩ PySem.F.entry_list_count (PySem.F.args_list_count_2 _ _)
        (SeqAt.list_countAt a its.toArray n dd sls uy (fun u => PyData.eqv (SeqAt.readOf s.heap u) d)) ⟨ho, SeqAt.items_eqAt (vs := its.toArray) (show ReadsAll s.heap its.toArray.toList ds as from h4) r1 hxs (SeqAt.canLay_of_shaped sd) hroom, ?_⟩
      have ec : its.toArray.toList.countP (fun u => PyData.eqv (SeqAt.readOf s.heap u) d) = ds.countP fun z => PyData.eqv z d := by
        rw [← hmap, List.countP_map]
        rfl
      refine ⟨.int (ds.countP fun z => PyData.eqv z d : Nat), H, I.tok _, ⟨s.toks, ?_⟩, q⟩
      show Value.int ((its.toArray.toList.countP _ : Nat) : Int) s.toks = Value.int ((ds.countP _ : Nat) : Int) s.toks
      rw [ec]
theorem sm_count : SndM P (rCntD P.K) fCount := by
  refine ⟨fun H st loc o xs vo vs d st' Q R ro r h k => ?_⟩
  unfold fCount at h
  split at h
  · rename_i n x
    split at h
    · rename_i ds dd e1 e2
      split at h
      · rename_i c
        cases h
        obtain ⟨v, rfl, rv⟩ := drs1' r
        have d1 := (toPy_dp R 100002).1 _ _ _ ro e1
        have d2 := (toPy_dp R 100002).1 _ _ _ rv e2
        cases ro
        exact ⟨_, v, dd, ds, rfl, rfl, d1, d2, c.1, c.2, k loc H _ (Grow.refl _ _ _) R (.int _)⟩
      · cases h
    · cases h
  · cases h
end
/-! ### zip(xs, ys) -/
def zipD (xs ys : List D) : List D := (xs.zip ys).map fun p => .tup [p.1, p.2]
def mZip (a b : ME) : MI := fun e s => (a e s).bind fun x s1 => (b e s1).bind fun y s2 => match x, y with
  | .ref n, .ref m => match rdL s2 n, rdL s2 m with
    | some xs, some ys => .ok (zipD xs ys, [(n, xs), (m, ys)]) s2
    | _, _ => .bad
  | _, _ => .bad
@[simp] theorem ev_zip {a b : ME} {e : En} {s : Sto} : mZip a b e s = (a e s).bind fun x s1 => (b e s1).bind fun y s2 => match x, y with
  | .ref n, .ref m => match rdL s2 n, rdL s2 m with
    | some xs, some ys => .ok (zipD xs ys, [(n, xs), (m, ys)]) s2
    | _, _ => .bad
  | _, _ => .bad := rfl
theorem zipD_length {xs ys : List D} : (zipD xs ys).length = min xs.length ys.length := by simp [zipD]
theorem itr_zip {P : Pm} {n m : Nat} {xs ys : List D} {N : Nat} {loc : Nat → Addr} {H : Hp} (hn : n < N) (hm : m < N) : ItR P (Itz P.K (loc n) (loc m)) (zipD xs ys) [(n, xs), (m, ys)] N loc H := by
  intro st loc1 H1 g R hs
  have hs1 : rdL st n = some xs := hs (n, xs) (by simp)
  have hs2 : rdL st m = some ys := hs (m, ys) (by simp)
  obtain ⟨h1, vs, e, r⟩ := R.list hs1
  obtain ⟨h2, ws, e2, r2⟩ := R.list hs2
  rw [g.gloc n hn] at e
  rw [g.gloc m hm] at e2
  have sq : SqL P.K H1 (loc n) vs := SqL.of e
  have sq2 : SqL P.K H1 (loc m) ws := SqL.of e2
  have l1 := r.length
  have l2 := r2.length
  refine ⟨fun i hi => ?_, ⟨vs, ws, sq, sq2, by rw [zipD_length]; omega⟩⟩
  rw [zipD_length] at hi
  have i1 : i < vs.length := by omega
  have i2 : i < ws.length := by omega
  refine ⟨⟨vs, ws, vs[i], ws[i], sq, sq2, List.getElem?_eq_getElem i1, List.getElem?_eq_getElem i2⟩, fun x H2 y => ?_⟩
  obtain ⟨T, v, w, rfl, hT, rfl, f1, f2⟩ := y
  obtain ⟨d, hd, rd⟩ := r.getV (f1 vs sq)
  obtain ⟨d2, hd2, rd2⟩ := r2.getV (f2 ws sq2)
  have G : Grow st.length loc1 H1 st.length loc1 (upd H1 T (.tup [v, w])) := Grow.new hT _ _
  refine ⟨G, R.new hT, .tup [d, d2], ?_, .tup (SqT.of upd_same) (.cons (rd.grow G) (.cons (rd2.grow G) .nil))⟩
  have hz : (xs.zip ys)[i]? = some (d, d2) := List.getElem?_zip_eq_some.mpr ⟨hd, hd2⟩
  unfold zipD
  rw [List.getElem?_map, hz]
  rfl
section
variable {X : Cx} {cA : Str → Addr} {W : WX} {a b : Expr} {ma mb : ME} {pos : Pos}
theorem di_zip {p tpos : Pos} {elts : List Expr} {kk : Nat} (hm : X.mg "zip" = none) (ha : DE X cA W a ma) (hb : DE X cA W b mb) (hg : Gl X "zip" := by rfl)
    (hs : starEach [a, b] X.env = (false, eval a X.env) :: starEach [b] X.env := by rfl) (hs2 : starEach [b] X.env = (false, eval b X.env) :: starEach [] X.env := by rfl) (hpl : (backTo pos (starEach [b] X.env)).any (·.1) = false := by rfl) :
    DI X cA W (.Tuple elts kk tpos) (.Call (.Name "zip" p) [a, b] [] pos) (mZip ma mb) := by
  obtain ⟨ta, p1, s1⟩ := ha
  obtain ⟨tb, p2, s2⟩ := hb
  refine ⟨_, pi_zip hg hm (pa_cons p1 (pa_cons p2 pa_nil hs2) hs) hs hpl, ⟨fun σ H env st loc Q er R h => ?_⟩⟩
  refine s1.run σ H env st loc _ er R (post_bindI h fun x s1' loc1 H1 v g1 R1 r1 h1 => ?_)
  refine s2.run σ H1 env s1' loc1 _ (er.grow g1) R1 (post_bindI h1 fun y s2' loc2 H2 w g2 R2 r2 h2 => ?_)
  split at h2
  · rename_i n m
    split at h2
    · rename_i xs ys q1 q2
      have r1' := r1.grow g2
      cases r1'
      cases r2
      obtain ⟨hn, vs, e, _⟩ := R2.list q1
      obtain ⟨hm', ws, e2, _⟩ := R2.list q2
      exact ⟨_, _, vs, ws, rfl, SqL.of e, SqL.of e2, h2 loc2 H2 (Grow.refl _ _ _) R2 _ (itr_zip hn hm')⟩
    · exact h2.elim
  · exact h2.elim
end
end Dn
set_option maxRecDepth 100000
namespace Dn
open PySem PySem.Spec PyProof.Rows L2
/-! ### t < u, tuples of integers -/
def fLtT : F2 := fun x y s => match x, y with
  | .tup xs, .tup ys => match intsD xs, intsD ys with
    | some ns, some ms => some (.bl (HT.lexLt ns ms), s)
    | _, _ => none
  | _, _ => none
section
variable {P : Pm}
theorem s2_ltT : Snd2 P (rLtT P.K) fLtT := by
  refine ⟨fun H st loc x y vx vy d st' Q R rx ry h k => ?_⟩
  unfold fLtT at h
  split at h
  · rename_i xs ys
    split at h
    · rename_i ns ms e1 e2
      cases h
      have h1 := intsD_map e1
      have h2 := intsD_map e2
      subst h1 h2
      cases rx with
      | tup q1 r1 =>
        cases ry with
        | tup q2 r2 =>
          have w1 := drs_ints r1
          have w2 := drs_ints r2
          subst w1 w2
          exact ⟨_, _, ns, ms, rfl, rfl, q1, q2, k loc H _ (Grow.refl _ _ _) R (.bl _)⟩
    · cases h
  · cases h
end
@[simp] theorem ltT_pair {a b c d : Int} {s : Sto} : fLtT (.tup [.int a, .int b]) (.tup [.int c, .int d]) s = some (.bl (decide (a < c ∨ (a = c ∧ b < d))), s) := by
  have e : HT.lexLt [a, b] [c, d] = decide (a < c ∨ (a = c ∧ b < d)) := by
    simp only [HT.lexLt_cons, HT.lexLt_nil_nil]
    by_cases h : a = c
    · by_cases h2 : b = d <;> simp [h, h2]
    · simp [h]
  simp only [fLtT, intsD, Option.map_some, e]
end Dn
set_option maxRecDepth 100000
/-! a class without __init__ made; min(xs, default=y) -/
namespace DnX0
open PySem PySem.W PySem.Calls PyProof.Rows Builtin L2 NwA
/-- C() of a class whose __init__ is object's -/
structure Mk0 (K : Frag) (C : Addr) : Prop where
  makes : makesIn K C = true
  init : findIn K (.ref C) "__init__" = some (some (.builtin "object.__init__"))
  top : mroIn K C (.type "object") = some true
  kp : keepIn K (.ref C) = true
theorem run_make0 {X : Cx} {C : Addr} {pins : List (Addr × Obj)} {σ : L2.St} {H : Hp} {s : Shared} {Q : VK} (M : Mk0 X.K C) (I : Inv X pins σ H s)
    (h : ∀ x dx, H x = none → H dx = none → dx ≠ x → Q (.ref x) (upd (upd H dx (.own x)) x (.ins C dx []))) : wpAny (model X.prog X.w) X.A (PySem.call (.ref C) []) (EP X pins σ Q) X.xe s := by
  have hq := h (s.heap.objs.size + 1) s.heap.objs.size (I.hok.fresh (Nat.le_succ _)) (I.hok.fresh (Nat.le_refl _)) (Nat.ne_of_lt (Nat.lt_succ_self _))
  have I2 := Inv.made (C := C) I
  refine wpAny_call (make_map0 I.kIn M.makes M.init (fun self => Looks.of_pure (oi_bind _)) ?_)
  obtain ⟨_, _, _, ho, _⟩ := I2.hok (s.heap.objs.size + 1) _ upd_same
  have t1 := type_at (M := model X.prog X.w) ho rfl
  have t2 : Looks (model X.prog X.w) _ (isInstance (.ref (s.heap.objs.size + 1)) (.type "object")) true := t1.andThen (looks_mroIn I2.kIn M.top)
  refine codeAny_call_builtin oi_plain entry_oi (@check_slot (model X.prog X.w) _ _ _ "object.__init__" "object" "__init__" (.ref (s.heap.objs.size + 1)) [] [] _ oi_kind oi_split t2 (oi_args_any _ [] []) ?_)
  rw [oi_run]
  exact wpAny_pure (And.intro rfl ⟨V.ref (s.heap.objs.size + 1), _, I2, rfl, hq⟩)
end DnX0
namespace Dn
open PySem PySem.Spec PyProof.Rows L2
def tMake0 (C : Addr) : TE := fun σ H Q => ∀ x dx, H x = none → H dx = none → dx ≠ x → Q (.ref x) (upd (upd H dx (.own x)) x (.ins C dx []))
section
variable {X : Cx} {cA : Str → Addr} {W : WX} {pos : Pos}
theorem pe_makeO0 {C : Addr} {x : Str} {p : Pos} (M : DnX0.Mk0 X.K C) (hg : Gl X x) (hm : X.mg x = some (.ref C)) (hdb : (x == ("__debug__" : Str)) = false := by decide) : PE X (.Call (.Name x p) [] [] pos) (tMake0 C) := by
  refine ⟨fun pins s σ H Q I h => ?_⟩
  refine wpAny_Call_Name_kw (ld_glob I hg hm ?_ hdb)
  exact PySem.W.callWith_K0 I.kIn M.kp (DnX0.run_make0 M I h)
def mMake0 (c : Str) : ME := fun e s => .ok (.ref s.length) (s ++ [.ins c []])
@[simp] theorem ev_make0 {c : Str} {e : En} {s : Sto} : mMake0 c e s = .ok (.ref s.length) (s ++ [.ins c []]) := rfl
theorem de_make0 {c : Str} {p : Pos} (hm : X.mg c = some (.ref (cA c))) (M : DnX0.Mk0 X.K (cA c)) (hg : Gl X c := by rfl) (hdb : (c == ("__debug__" : Str)) = false := by decide) :
    DE X cA W (.Call (.Name c p) [] [] pos) (mMake0 c) := by
  refine ⟨_, pe_makeO0 M hg hm hdb, ⟨fun σ H env st loc Q er R h => ?_⟩⟩
  intro x dx hx hdx hne
  have G1 : Grow st.length loc H st.length loc (upd H dx (.own x)) := Grow.new hdx _ _
  have R2 : Rel ⟨X.K, cA⟩ loc st (upd H dx (.own x)) := R.new hdx
  have hx2 : (upd H dx (.own x)) x = none := by rw [upd_ne hne.symm]; exact hx
  have G2 : Grow st.length loc (upd H dx (.own x)) (st.length + 1) (put loc st.length x) (upd (upd H dx (.own x)) x (.ins (cA c) dx [])) := Grow.lay hx2 _ _
  have R3 : Rel ⟨X.K, cA⟩ (put loc st.length x) (st ++ [.ins c []]) (upd (upd H dx (.own x)) x (.ins (cA c) dx [])) := (R2.new hx2).adopt (R2.ne_new hx2) ⟨dx, [], upd_same, .nil⟩
  have e : (V.ref x) = .ref (put loc st.length x st.length) := by rw [put_same]
  have hlen : (st ++ [Ob.ins c []]).length = st.length + 1 := by rw [List.length_append]; rfl
  rw [e]
  exact h _ _ _ (by rw [hlen]; exact G1.trans G2) R3 (.ref (by rw [hlen]; omega))

/-! ### min(xs, default=y) -/
theorem callWith_bi_kw {M : Model} {A : Around} {E : Value → Shared → Prop} {s : Shared} {env : Env} {pos : Pos} {T : String} {e : Expr} {rest : List Expr} {kws : List Keyword} {Q : Value → Shared → Prop}
    (h : wpAny M A (spliced (backTo pos (starEach (e :: rest) env))) (fun vs s₁ => wpAny M A (evalAll ((backToKw pos (keywordEach kws env)).map (·.2)))
      (fun kvs s₂ => wpAny M A (call (.builtin T) vs (((backToKw pos (keywordEach kws env)).filterMap (·.1)).zip kvs)) Q E s₂) E s₁) E s)
    (he : backTo pos (starEach (e :: rest) env) = (false, eval e env) :: backTo pos (starEach rest env))
    (hplain : (backTo pos (starEach (e :: rest) env)).any (·.1) = false)
    (hall : (backToKw pos (keywordEach kws env)).all (·.1.isSome) = true)
    (hkw : (backToKw pos (keywordEach kws env)).any (·.1.isNone) = false) :
    wpAny M A (callWith pos (.builtin T) [] (backTo pos (starEach (e :: rest) env)) (backToKw pos (keywordEach kws env))) Q E s := by
  have k : wpAny M A (evalArgs (.builtin T) true (backTo pos (starEach (e :: rest) env)) (backToKw pos (keywordEach kws env))) (fun a s₁ => wpAny M A (call (.builtin T) ([] ++ a.pos) a.kw) Q E s₁) E s := by
    rw [he] at h ⊢
    exact evalArgs_kwB hall h
  unfold callWith
  apply wpAny_bind
  apply wpAny_holding
  apply wpAny_mono k ?_ fun _ _ x => x
  intro a s₁ h₁
  apply wpAny_bind
  apply wpAny_standAt
  simp only [hplain, hkw, Bool.or_false]
  apply wpAny_bind
  apply wpAny_pure
  apply wpAny_bind
  apply wpAny_mono h₁ ?_ fun _ _ x => x
  intro r s₂ hr
  exact wpAny_bind (wpAny_holding (wpAny_point (wpAny_pure hr)))
def tMinD (K : PySem.W.Frag) (ta tk : TE) : TE := fun σ H Q => (tCons ta tNil) σ H fun vs H1 => (tCons tk tNil) σ H1 fun ws H2 => ∃ a ns d, vs = [.ref a] ∧ ws = [d] ∧ SqL K H2 a (ns.map V.int) ∧ Q (match ns with | [] => d | n :: r => .int (r.foldl min n)) H2
theorem reads_ints {h : Heap} : ∀ {ns : List Int} {its : List Value}, IntsAre its ns → ReadsAll h its (ns.map PyData.int) []
  | [], _, i => by cases i; exact .nil
  | n :: r, _, i => by
    cases i with
    | cons _ t rr => exact .cons (as := []) (.int n t) (reads_ints rr)
theorem depth_ints : ∀ ns : List Int, PyData.depthAll (ns.map PyData.int) = 0
  | [] => rfl
  | n :: r => by simp [PyData.depthAll, PyData.depth, depth_ints r]
theorem alike_ints (ns : List Int) : PySem.W.AlikeAll (ns.map PyData.int) := by
  refine ⟨fun x hx y hy => ?_, fun x hx => ?_⟩
  · obtain ⟨a, _, rfl⟩ := List.mem_map.mp hx
    obtain ⟨b, _, rfl⟩ := List.mem_map.mp hy
    rfl
  · obtain ⟨a, _, rfl⟩ := List.mem_map.mp hx
    exact fun z => nomatch z
theorem pe_minD {e e2 : Expr} {ta tk : TE} {p kp : Pos} (hu : X.A.units + 1 < cLine) (hc : X.calm = true) (hg : Gl X "min") (hm : X.mg "min" = none) (ha : PE X e ta) (hk : PE X e2 tk)
    (hs : starEach [e] X.env = (false, eval e X.env) :: starEach [] X.env) (he : backTo pos (starEach [e] X.env) = (false, eval e X.env) :: backTo pos (starEach [] X.env))
    (hpl : (backTo pos (starEach [e] X.env)).any (·.1) = false) (hall : (backToKw pos (keywordEach [⟨some (Str.ofString "default"), e2, kp⟩] X.env)).all (·.1.isSome) = true)
    (hkw : (backToKw pos (keywordEach [⟨some (Str.ofString "default"), e2, kp⟩] X.env)).any (·.1.isNone) = false) (hks : (backToKw pos (keywordEach [⟨some (Str.ofString "default"), e2, kp⟩] X.env)).filterMap (·.1) = [Str.ofString "default"]) :
    PE X (.Call (.Name "min" p) [e] [⟨some (Str.ofString "default"), e2, kp⟩] pos) (tMinD X.K ta tk) := by
  refine ⟨fun pins s σ H Q I h => ?_⟩
  apply wpAny_Call_Name_kw (ld_blt I hg hm (by decide +kernel : bootBuiltins "min" = some (.builtin "min")) ?_)
  apply callWith_bi_kw ?_ he hpl hall hkw
  have hA : PA X [e] (tCons ta tNil) := pa_cons ha pa_nil hs
  have hK : PK X [⟨some (Str.ofString "default"), e2, kp⟩] (tCons tk tNil) := pk_cons hk pk_nil
  apply thn (hA.run pos pins s σ H _ I h)
  intro us s1 q1
  obtain ⟨vs, H1, I1, r1, q1⟩ := q1
  apply thn (hK.run pos pins s1 σ H1 _ I1 q1)
  intro ws s2 q2
  obtain ⟨zs, H2, I2, r2, a, ns, d, ev, ez, hq, q⟩ := q2
  subst ev; subst ez
  rw [hks]
  cases r1 with
  | cons r rr =>
    cases rr
    cases r
    cases r2 with
    | @cons _ dv _ _ r' rr =>
      cases rr
      obtain ⟨its, rv, p', hz⟩ := I2.list hq
      have ri := rv.ints
      show wpAny _ _ (call (.builtin "min") [.ref a] [(Str.ofString "default", dv)]) _ _ _
      refine PySem.W.min_list_default (I2.ok.hd hc) p'.isList (by simpa using reads_ints ri) (alike_ints ns) (by rw [depth_ints]; exact hu) (fun e h' tk kk => ?_) (fun y ys i v h' tk bs e ev rd kk => ?_)
      · have e0 : ns = [] := by simpa using e
        subst e0
        exact ⟨d, H2, I2.kept kk, r', q⟩
      · cases ns with
        | nil => cases e
        | cons n r =>
          have e := List.cons.inj (show PyData.int n :: r.map PyData.int = y :: ys from e)
          obtain ⟨rfl, rfl⟩ := e
          rw [PySem.W.minD_ints] at rd
          cases rd
          exact ⟨.int _, H2, I2.kept kk, ⟨_, rfl⟩, q⟩
def minDf (ns : List Int) (d : D) : D := match ns with
  | [] => d
  | n :: r => .int (r.foldl min n)
def fMinD : F2 := fun x y s => match x with
  | .ref n => match rdL s n with
    | some xs => (intsD xs).map fun ns => (minDf ns y, s)
    | none => none
  | _ => none
theorem de_minD {e e2 : Expr} {ma mk : ME} {p kp : Pos} {k : Nat} (hr : Room k X.A) (hc : X.calm = true) (hm : X.mg "min" = none) (ha : DE X cA W e ma) (hk : DE X cA W e2 mk) (hg : Gl X "min" := by rfl)
    (hs : starEach [e] X.env = (false, eval e X.env) :: starEach [] X.env := by rfl) (he : backTo pos (starEach [e] X.env) = (false, eval e X.env) :: backTo pos (starEach [] X.env) := by rfl)
    (hpl : (backTo pos (starEach [e] X.env)).any (·.1) = false := by rfl) (hall : (backToKw pos (keywordEach [⟨some (Str.ofString "default"), e2, kp⟩] X.env)).all (·.1.isSome) = true := by rfl)
    (hkw : (backToKw pos (keywordEach [⟨some (Str.ofString "default"), e2, kp⟩] X.env)).any (·.1.isNone) = false := by rfl) (hks : (backToKw pos (keywordEach [⟨some (Str.ofString "default"), e2, kp⟩] X.env)).filterMap (·.1) = [Str.ofString "default"] := by rfl) :
    DE X cA W (.Call (.Name "min" p) [e] [⟨some (Str.ofString "default"), e2, kp⟩] pos) (mOp fMinD ma mk) := by
  obtain ⟨te, p1, s1⟩ := ha
  obtain ⟨tk, p2, s2⟩ := hk
  refine ⟨_, pe_minD (by have := units65 hr; omega) hc hg hm p1 p2 hs he hpl hall hkw hks, ⟨fun σ H env st loc Q er R h => ?_⟩⟩
  refine s1.run σ H env st loc _ er R (post_bind h fun x s1' loc1 H1 v g1 R1 r1 h1 => ?_)
  refine s2.run σ H1 env s1' loc1 _ (er.grow g1) R1 (post_bind h1 fun y s2' loc2 H2 u g2 R2 r2 h2 => ?_)
  unfold fMinD at h2
  split at h2
  · rename_i n
    cases q : rdL s2' n with
    | none => simp only [q] at h2; exact h2.elim
    | some xs =>
      simp only [q] at h2
      cases q2 : intsD xs with
      | none => rw [q2] at h2; exact h2.elim
      | some ns =>
        rw [q2] at h2
        have hx := intsD_map q2
        subst hx
        have r1 : DR X.K H2 s2'.length loc2 (.ref n) v := DR.grow g2 r1
        cases r1 with
        | ref hn =>
          obtain ⟨_, vs, e, rv⟩ := R2.list q
          have ev : vs = ns.map V.int := drs_ints rv
          subst ev
          refine ⟨_, ns, u, rfl, rfl, SqL.of e, ?_⟩
          refine h2 loc2 H2 _ (Grow.refl _ _ _) R2 ?_
          unfold minDf
          cases ns with
          | nil => exact r2
          | cons n r => exact .int _
  · exact h2.elim
end
end Dn
set_option maxRecDepth 100000
/-! list(range(n)), list(range(a, b)) -/
namespace Dn
open PySem PySem.Spec PyProof.Rows L2
section
variable {X : Cx} {cA : Str → Addr} {W : WX} {a b : Expr} {ma mb : ME}
theorem drs_rgG {K : PySem.W.Frag} {H : Hp} {N : Nat} {loc : Nat → Addr} {lo : Int} : ∀ l : List Nat, DRs K H N loc (l.map fun i => D.int (lo + (i : Nat))) (l.map fun i => V.int (lo + (i : Nat)))
  | [] => .nil
  | x :: r => .cons (.int _) (drs_rgG r)
theorem drs_rg {K : PySem.W.Frag} {H : Hp} {N : Nat} {loc : Nat → Addr} {lo hi : Int} : DRs K H N loc (rng lo (hi - lo).toNat) (rgV lo hi) := drs_rgG _
def fLstR : FL := fun xs s => match xs with
  | [.int j] => if -(2 ^ 62) ≤ j ∧ j ≤ 10000000 then some (.ref s.length, s ++ [.lst (rng 0 j.toNat)]) else none
  | [.int i, .int j] => if 0 ≤ i ∧ i ≤ 10000000 ∧ 0 ≤ j ∧ j ≤ 10000000 then some (.ref s.length, s ++ [.lst (rng i (j - i).toNat)]) else none
  | _ => none
theorem de_listR1 {p p2 pos pos2 : Pos} (hc : X.calm = true) (hl : X.mg "list" = none) (hm : X.mg "range" = none) (ha : DE X cA W a ma) (gl : Gl X "list" := by rfl) (hg : Gl X "range" := by rfl)
    (na : starEach [a] X.env = (false, eval a X.env) :: starEach [] X.env := by rfl) (nl : starEach [.Call (.Name "range" p2) [a] [] pos2] X.env = (false, eval (.Call (.Name "range" p2) [a] [] pos2) X.env) :: starEach [] X.env := by rfl) :
    DE X cA W (.Call (.Name "list" p) [.Call (.Name "range" p2) [a] [] pos2] [] pos) (mFn fLstR (mCons ma mNil)) := by
  obtain ⟨ta, p1, s⟩ := ha
  refine ⟨_, pe_listRg hc gl hl (prg_1 hg hm p1 na) nl, ⟨fun σ H env st loc Q er R h => ?_⟩⟩
  refine s.run σ H env st loc _ er R ?_
  unfold mFn mCons mNil at h
  cases q : ma env st with
  | exc c s' => rw [q] at h; exact h
  | bad => rw [q] at h; exact h
  | ok d s1 =>
    rw [q] at h
    intro loc1 H1 v g1 R1 r
    cases d with
    | int j =>
      have r : DR X.K H1 s1.length loc1 (.int j) v := r
      cases r
      simp only [Res.bind, fLstR] at h
      by_cases hj : -(2 ^ 62) ≤ j ∧ j ≤ 10000000
      · rw [if_pos hj] at h
        refine ⟨j, rfl, ⟨by omega, by omega, hj.1, by omega, by omega⟩, ?_⟩
        have e : rng 0 j.toNat = rng 0 (j - 0).toNat := by rw [Int.sub_zero]
        rw [e] at h
        exact lay_k R1 (drs_rg (lo := 0) (hi := j)) (fun loc' H' v g' R' r' => h loc' H' v (g1.trans g') R' r')
      · rw [if_neg hj] at h; exact h.elim
    | _ => exact h.elim
theorem de_listR2 {p p2 pos pos2 : Pos} (hc : X.calm = true) (hl : X.mg "list" = none) (hm : X.mg "range" = none) (ha : DE X cA W a ma) (hb : DE X cA W b mb) (gl : Gl X "list" := by rfl) (hg : Gl X "range" := by rfl)
    (na : starEach [a, b] X.env = (false, eval a X.env) :: starEach [b] X.env := by rfl) (nb : starEach [b] X.env = (false, eval b X.env) :: starEach [] X.env := by rfl) (hp : (backTo pos2 (starEach [b] X.env)).any (·.1) = false := by rfl)
    (nl : starEach [.Call (.Name "range" p2) [a, b] [] pos2] X.env = (false, eval (.Call (.Name "range" p2) [a, b] [] pos2) X.env) :: starEach [] X.env := by rfl) :
    DE X cA W (.Call (.Name "list" p) [.Call (.Name "range" p2) [a, b] [] pos2] [] pos) (mFn fLstR (mCons ma (mCons mb mNil))) := by
  obtain ⟨ta, p1, sa⟩ := ha
  obtain ⟨tb, p3, sb⟩ := hb
  refine ⟨_, pe_listRg hc gl hl (prg_2 hg hm p1 p3 na nb hp) nl, ⟨fun σ H env st loc Q er R h => ?_⟩⟩
  refine sa.run σ H env st loc _ er R ?_
  unfold mFn mCons mNil at h
  cases q : ma env st with
  | exc c s' => rw [q] at h; exact h
  | bad => rw [q] at h; exact h
  | ok d s1 =>
    rw [q] at h
    intro loc1 H1 v g1 R1 r
    refine sb.run σ H1 env s1 loc1 _ (er.grow g1) R1 ?_
    simp only [Res.bind] at h
    cases q2 : mb env s1 with
    | exc c s' => rw [q2] at h; exact fun loc2 H2 g2 R2 => h loc2 H2 (g1.trans g2) R2
    | bad => rw [q2] at h; exact h
    | ok d2 s2 =>
      rw [q2] at h
      intro loc2 H2 v2 g2 R2 r2
      cases d with
      | int i =>
        cases d2 with
        | int j =>
          have r : DR X.K H1 s1.length loc1 (.int i) v := r
          have r2 : DR X.K H2 s2.length loc2 (.int j) v2 := r2
          cases r
          cases r2
          simp only [fLstR] at h
          by_cases hj : 0 ≤ i ∧ i ≤ 10000000 ∧ 0 ≤ j ∧ j ≤ 10000000
          · rw [if_pos hj] at h
            refine ⟨i, j, rfl, rfl, ⟨by omega, by omega, by omega, by omega, by omega⟩, ?_⟩
            exact lay_k R2 (drs_rg (lo := i) (hi := j)) (fun loc' H' v g' R' r' => h loc' H' v ((g1.trans g2).trans g') R' r')
          · rw [if_neg hj] at h; exact h.elim
        | _ => exact h.elim
      | _ => exact h.elim
@[simp] theorem fLstR1 {j : Int} {s : Sto} : fLstR [.int j] s = if -(2 ^ 62) ≤ j ∧ j ≤ 10000000 then some (.ref s.length, s ++ [.lst (rng 0 j.toNat)]) else none := rfl
@[simp] theorem fLstR2 {i j : Int} {s : Sto} : fLstR [.int i, .int j] s = if 0 ≤ i ∧ i ≤ 10000000 ∧ 0 ≤ j ∧ j ≤ 10000000 then some (.ref s.length, s ++ [.lst (rng i (j - i).toNat)]) else none := rfl
end
end Dn
set_option maxRecDepth 100000
/-! stores without their shape: what is known of an opaque store -/
namespace Dn
open PySem PySem.Spec PyProof.Rows L2
/-- nothing that was there has changed -/
def Ext (s s1 : Sto) : Prop := ∀ (n : Nat) (o : Ob), s[n]? = some o → s1[n]? = some o
section
variable {s s1 s2 b : Sto} {n a : Nat} {o : Ob} {xs : List D} {L : List (Nat × Ob)} {d : D}
theorem get_lt (h : s[n]? = some o) : n < s.length := (List.getElem?_eq_some_iff.mp h).1
theorem Ext.refl (s : Sto) : Ext s s := fun _ _ h => h
theorem Ext.trans (h : Ext s s1) (k : Ext s1 s2) : Ext s s2 := fun n o q => k n o (h n o q)
theorem Ext.app {g : Sto} : Ext s (s ++ g) := fun n o h => by rw [List.getElem?_append_left (get_lt h)]; exact h
theorem Ext.len (e : Ext s s1) : s.length ≤ s1.length := by
  cases q : s.length with
  | zero => omega
  | succ k =>
    have h : s[k]? = some (s[k]'(by omega)) := List.getElem?_eq_getElem _
    have := get_lt (e _ _ h)
    omega
theorem Ext.rd (e : Ext s s1) (h : rdL s n = some xs) : rdL s1 n = some xs := rdL_get (e _ _ (rdL_some h))
theorem Ext.eq_app (e : Ext s s1) : ∃ g, s1 = s ++ g := by
  refine ⟨s1.drop s.length, ?_⟩
  have : s1.take s.length = s := by
    apply List.ext_getElem?
    intro i
    rw [List.getElem?_take]
    by_cases h : i < s.length
    · rw [if_pos h, List.getElem?_eq_getElem h]
      exact e _ _ (List.getElem?_eq_getElem h)
    · rw [if_neg h, List.getElem?_eq_none (by omega)]
  calc s1 = s1.take s.length ++ s1.drop s.length := (List.take_append_drop _ _).symm
    _ = s ++ s1.drop s.length := by rw [this]
theorem Ext.set (h : s.length ≤ a) (e : Ext s s1) : Ext s (s1.set a o) := fun n u q => by
  rw [List.getElem?_set_ne (by have := get_lt q; omega)]
  exact e n u q
/-- of the store s, which goes on from b: the objects L, all of them new -/
structure HS (b s : Sto) (L : List (Nat × Ob)) : Prop where
  ext : Ext b s
  has : ∀ p ∈ L, s[p.1]? = some p.2
  low : ∀ p ∈ L, b.length ≤ p.1
  nod : (L.map (·.1)).Nodup
theorem HS.nil (b : Sto) : HS b b [] := ⟨Ext.refl b, fun _ h => (List.not_mem_nil h).elim, fun _ h => (List.not_mem_nil h).elim, List.nodup_nil⟩
theorem HS.of (e : Ext b s) : HS b s [] := ⟨e, fun _ h => (List.not_mem_nil h).elim, fun _ h => (List.not_mem_nil h).elim, List.nodup_nil⟩
theorem HS.get (H : HS b s L) (i : Nat) (h : L[i]? = some (a, o)) : s[a]? = some o := H.has _ (List.mem_of_getElem? h)
theorem HS.rd (H : HS b s L) (i : Nat) (h : L[i]? = some (a, .lst xs)) : rdL s a = some xs := rdL_get (H.get i h)
theorem HS.lt (H : HS b s L) (i : Nat) (h : L[i]? = some (a, o)) : a < s.length := get_lt (H.get i h)
theorem HS.ge (H : HS b s L) (i : Nat) (h : L[i]? = some (a, o)) : b.length ≤ a := H.low _ (List.mem_of_getElem? h)
theorem HS.old (H : HS b s L) (h : rdL b n = some xs) : rdL s n = some xs := H.ext.rd h
theorem HS.new (H : HS b s L) (o : Ob) : HS b (s ++ [o]) ((s.length, o) :: L) where
  ext := H.ext.trans Ext.app
  has := fun p hp => by
    rcases List.mem_cons.mp hp with rfl | hp
    · simp
    · exact Ext.app _ _ (H.has p hp)
  low := fun p hp => by
    rcases List.mem_cons.mp hp with rfl | hp
    · exact H.ext.len
    · exact H.low p hp
  nod := by
    rw [List.map_cons, List.nodup_cons]
    refine ⟨fun z => ?_, H.nod⟩
    obtain ⟨p, hp, e⟩ := List.mem_map.mp z
    have := get_lt (H.has p hp)
    rw [e] at this
    exact Nat.lt_irrefl _ this
theorem HS.mono (H : HS b s L) (e : Ext s s1) : HS b s1 L := ⟨H.ext.trans e, fun p hp => e _ _ (H.has p hp), H.low, H.nod⟩
theorem HS.set (H : HS b s L) (i : Nat) (h : L[i]? = some (a, o)) (o' : Ob) : HS b (s.set a o') (L.set i (a, o')) := by
  have hi : i < L.length := (List.getElem?_eq_some_iff.mp h).1
  have km : (L.set i (a, o')).map (·.1) = L.map (·.1) := by
    apply List.ext_getElem?
    intro j
    rw [List.getElem?_map, List.getElem?_map, List.getElem?_set]
    by_cases q : i = j
    · subst q
      rw [if_pos rfl, if_pos hi, h]
      rfl
    · rw [if_neg q]
  have ha := H.get i h
  refine ⟨Ext.set (H.ge i h) H.ext, fun p hp => ?_, fun p hp => ?_, by rw [km]; exact H.nod⟩
  · obtain ⟨j, hj⟩ := List.getElem?_of_mem hp
    rw [List.getElem?_set] at hj
    by_cases q : i = j
    · subst q
      rw [if_pos rfl, if_pos hi] at hj
      cases hj
      exact List.getElem?_set_self (get_lt ha)
    · rw [if_neg q] at hj
      have hp' := H.has p (List.mem_of_getElem? hj)
      have ne : a ≠ p.1 := fun z => q (by
        have e1 : (L.map (·.1))[i]? = some a := by rw [List.getElem?_map, h]; rfl
        have e2 : (L.map (·.1))[j]? = some a := by rw [List.getElem?_map, hj, z]; rfl
        have l1 : i < (L.map (·.1)).length := by simpa using hi
        have l2 : j < (L.map (·.1)).length := by rw [List.length_map]; exact (List.getElem?_eq_some_iff.mp hj).1
        have g1 := (List.getElem?_eq_some_iff.mp e1).2
        have g2 := (List.getElem?_eq_some_iff.mp e2).2
        exact (List.getElem_inj H.nod).mp (g1.trans g2.symm))
      rw [List.getElem?_set_ne ne]
      exact hp'
  · rcases List.mem_or_eq_of_mem_set hp with q | q
    · exact H.low p q
    · rw [q]; exact H.ge i h
theorem HS.sub {L' : List (Nat × Ob)} (H : HS b s L) (h : L'.Sublist L) : HS b s L' :=
  ⟨H.ext, fun p hp => H.has p (h.subset hp), fun p hp => H.low p (h.subset hp), (h.map _).nodup H.nod⟩
theorem HS.tail {p : Nat × Ob} (H : HS b s (p :: L)) : HS b s L := H.sub (List.sublist_cons_self _ _)
theorem HS.drop (H : HS b s L) (k : Nat) : HS b s (L.drop k) := H.sub (List.drop_sublist _ _)
/-- an entry put ahead -/
theorem HS.up {p : Nat × Ob} {A B : List (Nat × Ob)} (H : HS b s (A ++ p :: B)) : HS b s (p :: (A ++ B)) := by
  have q : (A ++ p :: B).Perm (p :: (A ++ B)) := List.perm_middle
  exact ⟨H.ext, fun x hx => H.has x (q.symm.subset hx), fun x hx => H.low x (q.symm.subset hx), ((q.map (·.1)).nodup_iff).mp H.nod⟩
theorem HS.stays (H : HS b s L) (i : Nat) (h : L[i]? = some (a, .lst xs)) : Stays [(a, xs)] s := stays_one (H.rd i h)
/-- a new object, by name -/
theorem g_new (H : HS b s L) (o : Ob) : ∃ s' a, s ++ [o] = s' ∧ s.length = a ∧ HS b s' ((a, o) :: L) := ⟨_, _, rfl, rfl, H.new o⟩
theorem g_set (H : HS b s L) (i : Nat) (h : L[i]? = some (a, o)) (o' : Ob) : ∃ s', s.set a o' = s' ∧ HS b s' (L.set i (a, o')) := ⟨_, rfl, H.set i h o'⟩
/-! ### the end of a def -/
theorem fin_ext {st0 : Sto} (hw : wfS st0) (e : Ext st0 s) (wd : wfD st0.length d) : Fin st0.length (.ok d s) (.ok d st0) := by
  obtain ⟨g, rfl⟩ := e.eq_app
  exact fin_drop rfl (by simp) (wfS_N hw) wd
theorem fin_extX {st0 : Sto} {c : Str} (hw : wfS st0) (e : Ext st0 s) : Fin st0.length (.exc c s) (.exc c st0) := by
  obtain ⟨g, rfl⟩ := e.eq_app
  exact fin_exc rfl (by simp) (wfS_N hw)
theorem fin_obj {st0 : Sto} {d' : D} (hw : wfS st0) (e : Ext st0 s) (h : s[a]? = some o) (ha : st0.length ≤ a) (wo : wfO st0.length o) (hd : renD (mv1 st0.length a) d' = d) (wd : wfD (st0.length + 1) d') : Fin st0.length (.ok d s) (.ok d' (st0 ++ [o])) := by
  obtain ⟨g, rfl⟩ := e.eq_app
  obtain ⟨m, rfl⟩ : ∃ m, a = st0.length + m := ⟨a - st0.length, by omega⟩
  rw [List.getElem?_append_right (by omega), Nat.add_sub_cancel_left] at h
  exact ⟨_, mv1 st0.length (st0.length + m), ren_one (wfS_N hw) wo h, by rw [hd], by rw [List.length_append]; exact wd⟩
theorem fin_ref {st0 : Sto} (hw : wfS st0) (H : HS st0 s L) (i : Nat) (h : L[i]? = some (a, o)) (wo : wfO st0.length o) : Fin st0.length (.ok (.ref a) s) (.ok (.ref st0.length) (st0 ++ [o])) :=
  fin_obj hw H.ext (H.get i h) (H.ge i h) wo (by simp [renD, mv1]) (by show st0.length < st0.length + 1; omega)
theorem fin_tupI {st0 : Sto} {w : Int} (hw : wfS st0) (H : HS st0 s L) (i : Nat) (h : L[i]? = some (a, o)) (wo : wfO st0.length o) : Fin st0.length (.ok (.tup [.ref a, .int w]) s) (.ok (.tup [.ref st0.length, .int w]) (st0 ++ [o])) :=
  fin_obj hw H.ext (H.get i h) (H.ge i h) wo (by simp [renD, renD.renDs, mv1]) ⟨by show st0.length < st0.length + 1; omega, trivial, trivial⟩
/-- a list display that may change the store -/
theorem lc_inv {ck : Chk} {vs : List Nat} {g : MG} {m : ME} {e : En} {I : Sto → Prop} {P : D → Prop} (hs : ∀ s, I s → Stays ck s) : ∀ (xs acc : List D) (s : Sto), (∀ x ∈ xs, ∀ s, I s → ∃ e1 d s', g x (wipeE e vs) s = .nx e1 s ∧ m e1 s = .ok d s' ∧ I s' ∧ P d) → I s →
    ∃ ys s', lcS ck vs g mYes m e xs acc s = .ok (acc ++ ys) s' ∧ I s' ∧ ys.length = xs.length ∧ ∀ y ∈ ys, P y
  | [], acc, s, _, h => ⟨[], s, by rw [lc_nil (hs s h)]; simp, h, rfl, fun _ q => by cases q⟩
  | x :: xs, acc, s, hb, h => by
    obtain ⟨e1, d, s1, q1, q2, h1, p1⟩ := hb x (by simp) s h
    obtain ⟨ys, s', q, h', l, p⟩ := lc_inv hs xs (acc ++ [d]) s1 (fun y hy => hb y (by simp [hy])) h1
    refine ⟨d :: ys, s', ?_, h', by simp [l], fun y hy => ?_⟩
    · rw [lc_cons (hs s h), q1]
      simp only [ev_yes, if_true, q2, q]
      simp
    · rcases List.mem_cons.mp hy with rfl | hy
      · exact p1
      · exact p y hy
end
end Dn
set_option maxRecDepth 100000
/-! several new objects given back -/
namespace Dn
open PySem PySem.Spec PyProof.Rows L2
def mvL (b : Nat) (as : List Nat) : Nat → Nat := fun n => if n < b then n else as[n - b]?.getD n
theorem mvL_lo {b : Nat} {as : List Nat} {n : Nat} (h : n < b) : mvL b as n = n := if_pos h
theorem mvL_at {b : Nat} {as : List Nat} {i : Nat} : mvL b as (b + i) = as[i]?.getD (b + i) := by
  unfold mvL
  rw [if_neg (by omega), Nat.add_sub_cancel_left]
theorem fin_many {st0 s : Sto} {as : List Nat} {os : Sto} {d d' : D} (hw : wfS st0) (e : Ext st0 s) (hl : as.length = os.length) (hn : as.Nodup) (hb : ∀ a ∈ as, st0.length ≤ a)
    (ho : ∀ (i : Nat) (o : Ob) (a : Nat), os[i]? = some o → as[i]? = some a → s[a]? = some (renO (mvL st0.length as) o) ∧ wfO (st0.length + os.length) o) (hd : renD (mvL st0.length as) d' = d) (wd : wfD (st0.length + os.length) d') :
    Fin st0.length (.ok d s) (.ok d' (st0 ++ os)) := by
  have idl : ∀ n, n < st0.length → mvL st0.length as n = n := fun n h => mvL_lo h
  have at_ : ∀ i, i < os.length → ∃ a, as[i]? = some a ∧ mvL st0.length as (st0.length + i) = a ∧ a ∈ as := fun i hi => by
    have g : as[i]? = some (as[i]'(by omega)) := List.getElem?_eq_getElem _
    exact ⟨_, g, by rw [mvL_at, g]; rfl, List.getElem_mem _⟩
  have dec : ∀ n, n < (st0 ++ os).length → n < st0.length ∨ ∃ i, i < os.length ∧ n = st0.length + i := fun n hn => by
    rw [List.length_append] at hn
    by_cases h : n < st0.length
    · exact .inl h
    · exact .inr ⟨n - st0.length, by omega, by omega⟩
  refine ⟨s, mvL st0.length as, ⟨by rw [List.length_append]; omega, fun n h => mvL_lo h, fun n h1 h2 => ?_, fun n h2 => ?_, fun n m h1 h2 z => ?_, fun n o h => ?_⟩, by rw [hd], by rw [List.length_append]; exact wd⟩
  · rcases dec n h2 with h | ⟨i, hi, rfl⟩
    · omega
    · obtain ⟨a, _, q, ha⟩ := at_ i hi
      rw [q]
      exact hb a ha
  · rcases dec n h2 with h | ⟨i, hi, rfl⟩
    · rw [mvL_lo h]
      have := e.len
      omega
    · obtain ⟨a, g, q, ha⟩ := at_ i hi
      rw [q]
      exact get_lt (ho i _ a (List.getElem?_eq_getElem hi) g).1
  · rcases dec n h1 with h | ⟨i, hi, rfl⟩
    · rcases dec m h2 with h' | ⟨j, hj, rfl⟩
      · rw [mvL_lo h, mvL_lo h'] at z
        exact z
      · obtain ⟨a, g, q, ha⟩ := at_ j hj
        rw [mvL_lo h, q] at z
        have := hb a ha
        omega
    · obtain ⟨a, g, q, ha⟩ := at_ i hi
      rcases dec m h2 with h' | ⟨j, hj, rfl⟩
      · rw [mvL_lo h', q] at z
        have := hb a ha
        omega
      · obtain ⟨a', g', q', ha'⟩ := at_ j hj
        rw [q, q'] at z
        subst z
        have l1 : i < as.length := by omega
        have l2 : j < as.length := by omega
        have e1 := (List.getElem?_eq_some_iff.mp g).2
        have e2 := (List.getElem?_eq_some_iff.mp g').2
        have := (List.getElem_inj hn).mp (e1.trans e2.symm)
        omega
  · have hlt := get_lt h
    rcases dec n hlt with h' | ⟨i, hi, rfl⟩
    · rw [List.getElem?_append_left h'] at h
      have ww := wfS_N hw o (List.mem_of_getElem? h)
      refine ⟨?_, wfO_mono (by rw [List.length_append]; omega) o ww⟩
      rw [mvL_lo h', renO_id o ww idl]
      exact e _ _ h
    · rw [List.getElem?_append_right (by omega), Nat.add_sub_cancel_left] at h
      obtain ⟨a, g, q, ha⟩ := at_ i hi
      rw [q, List.length_append]
      exact ho i o a h g
theorem HS.perm {b s : Sto} {L L' : List (Nat × Ob)} (H : HS b s L) (q : L.Perm L') : HS b s L' :=
  ⟨H.ext, fun x hx => H.has x (q.symm.subset hx), fun x hx => H.low x (q.symm.subset hx), ((q.map (·.1)).nodup_iff).mp H.nod⟩
theorem HS.at {b s : Sto} {L : List (Nat × Ob)} {a : Nat} {xs : List D} (H : HS b s L) (h : (a, Ob.lst xs) ∈ L) : rdL s a = some xs := rdL_get (H.has _ h)
theorem renO_ints {ρ : Nat → Nat} {xs : List Int} : renO ρ (.lst (xs.map .int)) = .lst (xs.map .int) := renO_id (N := 0) _ wf_ints fun n h => by omega
end Dn
set_option maxRecDepth 100000
set_option maxHeartbeats 2000000
/-! an exception that a clause names is kept as an object of the store -/
namespace Dn
open PySem PySem.Spec PyProof.Rows L2
section
variable {X : Cx} {pins : List (Addr × Obj)} {σ : L2.St} {H : Hp} {s : Shared}
theorem retrack {a C : Addr} {oe : Obj} {vs : Array Value} (I : Inv X pins σ H s) (e : s.heap.get? a = some oe) (z : Zc (.ref C) none oe) (hd : oe.data = .fields vs) (na : H a = none)
    (n0 : X.s_0.heap.get? a = none) (nL : a ≠ X.env.locals) (np : ∀ p ∈ X.pn ++ pins, p.1 ≠ a) : Inv X pins σ (upd H a (ExI C a)) s where
  ok := I.ok
  os := I.os
  bare := I.bare
  base := ⟨I.base.keep, I.base.slot, fun b o q n hx => (upd_ne fun y => by rw [y, n0] at q; cases q).trans (I.base.free b o q n hx), I.base.there,
    fun b xs q => (upd_ne (ne_of_none (I.base.tups b xs q) na)).trans (I.base.tups b xs q), fun b o u q => (upd_ne (ne_of_none (I.base.frzs b o u q) na)).trans (I.base.frzs b o u q),
    fun b ps q => let ⟨m, r⟩ := I.base.tbls b ps q; ⟨m, (upd_ne (ne_of_none r na)).trans r⟩⟩
  loc := I.loc
  cell := I.cell
  free := (upd_ne (Ne.symm nL)).trans I.free
  freeC := fun x c q => by
    obtain ⟨v, o, ho, hv⟩ := I.cell x c q
    have ne : c ≠ a := fun y => by
      subst y
      have eo : o = oe := Option.some.inj (ho.symm.trans e)
      subst eo
      have hv' : o.data = .cell v := hv
      rw [hd] at hv'
      cases hv'
    exact (upd_ne ne).trans (I.freeC x c q)
  pin := fun p hp => by
    obtain ⟨p1, p2, p3⟩ := I.pin p hp
    exact ⟨p1, (upd_ne (np p hp)).trans p2, p3⟩
  hok := HOk.laidN I.hok (fun _ _ q => q) na ⟨⟨oe, vs, e, z, hd⟩, ⟨oe, e⟩, fun _ _ ⟨o, w, q, r⟩ k => ⟨o, w, k o q, r⟩⟩
  len := I.len
theorem toSuite (I : Inv X pins σ H s) (a : Addr) : Inv (X.suite a (X.pn ++ pins)) [] σ H s :=
  ⟨I.ok.suite a _, I.os, I.bare, I.base, I.loc, I.cell, I.free, I.freeC, fun p hp => I.pin p (by simpa using hp), I.hok, I.len⟩
theorem ofSuite {a : Addr} {ps : List (Addr × Obj)} (I : Inv (X.suite a (X.pn ++ pins)) ps σ H s) (ok : X.Ok) : Inv X pins σ H s :=
  ⟨ok, I.os, I.bare, I.base, I.loc, I.cell, I.free, I.freeC, fun p hp => I.pin p (List.mem_append_left _ hp), I.hok, I.len⟩
end
/-- what such a clause wishes of an exception of the body -/
def wTr (K : PySem.W.Frag) (c : Value) (i : Nat) (ts : TS) (Wout : WX) (D : Ends) : WX := fun cls d σ H => ∃ b, PySem.W.exmOne K cls c = some b ∧ (b = false → Wout cls d σ H) ∧
  (b = true → ∃ C, cls = .ref C ∧ d = none ∧ ∀ a, H a = none →
    ts ⟨fun σ' H' => D.nx (σ'.set i none) H', D.rt, fun σ' H' => D.bk (σ'.set i none) H', fun σ' H' => D.ct (σ'.set i none) H'⟩ (σ.set i (some (.ref a))) (upd H a (ExI C a)))
section
variable {X : Cx} {x n : Str} {c : Value} {i : Nat} {body suite : List Stmt} {b₀ : Stmt} {np pos pos' : Pos} {tb : WX → TS} {ts : TS} {Wout : WX}
theorem ps_try_tr (hs : X.stack = X.env :: X.outer) (hf : X.env.frame = some X.env.locals) (hx : X.ex = []) (hN : X.N.Nodup) (hi : X.N[i]? = some n) (hln : X.env.kindOf n = some .local) (hc : Names X x c) (tk : Takes X Wout)
    (hb : ∀ (W : WX) (pn : List (Addr × Obj)) (xe : Value → Shared → Prop), Takes (X.tr pn xe) W → PassesOwn (model X.prog X.w) X.A X.env xe → PSs (X.tr pn xe) body (tb W))
    (hsu : ∀ (a : Addr) (pn : List (Addr × Obj)), PSs (X.suite a pn) (b₀ :: suite) ts) :
    PS X (.Try body [.ExceptHandler (some (.Name x np)) (some n) (b₀ :: suite) pos'] [] [] pos) (fun D σ H => tb (wTr X.K c i ts Wout D) D σ H) := by
  constructor
  intro pins s σ H D I h
  have ok := I.ok
  have frA : X.A.frames = some (X.env :: X.outer) := ok.frames.trans (by rw [hs])
  apply wpAny_Try_except
  have run := (hb (wTr X.K c i ts Wout D) (X.pn ++ pins) (fun e s1 => wpAny (model X.prog X.w) X.A (noteFrame e X.env) (fun _ s2 => wpAny (model X.prog X.w) X.A (setFlight e none) (fun _ s3 =>
    wpAny (model X.prog X.w) X.A (handleBy e X.env [.ExceptHandler (some (.Name x np)) (some n) (b₀ :: suite) pos']) (SP X pins D) X.xe s3) X.xe s2) X.xe s1) ?tk PassesOwn.looking).run [] s σ H D (I.toTry _) h
  case tk =>
    rintro u s1 ⟨a, B, sI, pI, σ1, H1, cls, d, rfl, JI, nb, up, sky, na, os, ag, b, hm, hno, hyes⟩
    have J := JI.ofTry ok
    have sk : Sky B (X.env :: X.outer) a (Zc cls d) X.env.locals s1.heap := hs ▸ sky
    show wpAny (model X.prog X.w) X.A (noteFrame (.ref a) X.env) _ _ s1
    apply Sky.land Zc.steady frA hf sk
    intro h3 fl up3
    have J3 : Inv X pins σ1 H1 { s1 with heap := h3 } := J.landed nb fl.1 (up.trans up3) os ag
    obtain ⟨o3, v3, g3, z3, d3⟩ := fl.there
    have nfr : a ∉ frs (X.env :: X.outer) := fun hm => by
      obtain ⟨_, o', e', nf⟩ := fl.2.2.1.mem hm
      have eo : o' = o3 := Option.some.inj (e'.symm.trans g3)
      exact nf v3 (eo ▸ d3)
    have nL : a ≠ X.env.locals := fun y => nfr (List.mem_filterMap.mpr ⟨X.env, by simp, by rw [hf, y]⟩)
    have nF : a ∉ X.fs := fun hm => by
      obtain ⟨e, he, q⟩ := List.mem_filterMap.mp hm
      exact nfr (List.mem_filterMap.mpr ⟨e, List.mem_cons_of_mem _ he, q⟩)
    have nI : sI.heap.get? a = none := by
      cases q : sI.heap.get? a with
      | none => rfl
      | some o =>
        have := nb a o q (by show a ∉ frs X.stack; rw [hs]; exact nfr)
        rw [fl.2.1] at this
        cases this
    have n0 : X.s_0.heap.get? a = none := by
      cases q : X.s_0.heap.get? a with
      | none => rfl
      | some o =>
        obtain ⟨o', r⟩ := J.base.there a o q (by rw [hx]; simp)
        rw [nI] at r
        cases r
    have npin : ∀ p ∈ X.pn ++ pins, p.1 ≠ a := fun p hp y => by
      have := (J.pin p hp).1
      rw [y, nI] at this
      cases this
    have S3 := J3.suite g3 d3 na nL nF
    apply wpAny_handleBy_cons (codeAny_handlers_test _) (by intro q; cases q)
    have LT : PySem.W.Looks (model X.prog X.w) h3 (typeOf (.ref a)) cls := fun A Q E s k q => wpAny_typeOf_ref (k _ _ g3) (by rw [z3.1]; exact q)
    have LM := PySem.W.exm_one (M := model X.prog X.w) J3.kIn LT hm
    have name : ∀ {Q E : Value → Shared → Prop}, Q c { s1 with heap := h3 } → wpAny (model X.prog X.w) (X.A.mark (some (.ref a))) (eval (.Name x np) X.env) Q E { s1 with heap := h3 } := fun q => by
      obtain ⟨g1, g2, g4 | ⟨g4, g5, g6⟩⟩ := hc
      · exact ld_glob (X := X.suite a ((a, o3) :: (X.pn ++ pins))) S3 g1 g4 q g2
      · exact ld_blt (X := X.suite a ((a, o3) :: (X.pn ++ pins))) S3 g1 g4 g5 q g6 g2
    apply name
    apply LM.here
    cases b with
    | false =>
      show wpAny _ X.A (handleBy (.ref a) X.env []) _ _ _
      apply wpAny_handleBy_nil
      obtain ⟨_, _, _, o4, v4, T, oT, ts', g4, _, d4, e1, _⟩ := id fl
      unfold PySem.passOn
      refine wpAny_bind (wpAny_field g4 d4 e1 ?_)
      rw [if_neg (show ¬ ((Value.ref T == Value.none) = true) by simp)]
      have up_ : wpAny (model X.prog X.w) X.A (setFlight (.ref a) X.env.frame) (fun _ s4 => wpAny (model X.prog X.w) X.A (throw (.ref a) : Sem Flow) (SP X pins D) X.xe s4) X.xe { s1 with heap := h3 } := by
        rw [hf]
        apply HandSPX.setFlight_upZ fl
        intro h4 held up4
        exact wpAny_throw (tk _ _ ⟨a, B, sI, pins, σ1, H1, cls, d, rfl, J, nb, (up.trans up3).trans up4, .inr (.inr (hs ▸ held)), na, os, ag, hno rfl⟩)
      first
        | exact wpAny_bind up_
        | exact wpAny_bind (wpAny_pure (wpAny_bind up_))
    | true =>
      obtain ⟨C, rfl, rfl, hy⟩ := hyes rfl
      apply codeAny_handlers_suite_as
      apply HandSPX.lands_againZ fl
      intro h4 fl4 up4
      have J4 : Inv X pins σ1 H1 { s1 with heap := h4 } := J.landed nb fl4.1 ((up.trans up3).trans up4) os ag
      obtain ⟨o4, v4, g4, z4, d4⟩ := fl4.there
      have S4 := toSuite (retrack J4 g4 z4 d4 na n0 nL npin) a
      refine store_ok (X := X.suite a (X.pn ++ pins)) (v := .ref a) S4 hN hi (.inl hln) rfl (fun s5 S5 => ?_) (.inr hln)
      have r6 := (hsu a (X.pn ++ pins)).run [] s5 _ _ _ S5 (hy a na)
      refine wpAny_mono r6 (fun f s6 sp => ?_) (fun _ _ y => False.elim y)
      have goes : ∀ {σ6 : L2.St} {H6 : Hp} {Q : Shared → Prop}, Inv (X.suite a (X.pn ++ pins)) [] σ6 H6 s6 → (∀ s7, Inv X pins (σ6.set i none) H6 s7 → Q s7) →
          wpAny (model X.prog X.w) X.A (do bindName X.env n .none; unbindBehindTheSuite X.env n pos') (fun _ s7 => Q s7) X.xe s6 := fun S6 hq => gone_ok (ofSuite S6 ok) hN hi hln hq
      cases f with
      | ret u => obtain ⟨v6, σ6, H6, S6, r6, q6⟩ := sp; exact goes S6 fun s7 J7 => ⟨v6, _, H6, J7, r6, q6⟩
      | next => obtain ⟨σ6, H6, S6, q6⟩ := sp; exact goes S6 fun s7 J7 => ⟨_, H6, J7, q6⟩
      | brk => obtain ⟨σ6, H6, S6, q6⟩ := sp; exact goes S6 fun s7 J7 => ⟨_, H6, J7, q6⟩
      | cont => obtain ⟨σ6, H6, S6, q6⟩ := sp; exact goes S6 fun s7 J7 => ⟨_, H6, J7, q6⟩
  refine wpAny_mono run (fun f s1 sp => ?_) (fun _ _ y => y)
  cases f with
  | ret u => obtain ⟨v, σ1, H1, J1, r, q⟩ := sp; exact ⟨v, σ1, H1, J1.ofTry ok, r, q⟩
  | next => obtain ⟨σ1, H1, J1, q⟩ := sp; exact wpAny_execs_nil ⟨σ1, H1, J1.ofTry ok, q⟩
  | brk => obtain ⟨σ1, H1, J1, q⟩ := sp; exact ⟨σ1, H1, J1.ofTry ok, q⟩
  | cont => obtain ⟨σ1, H1, J1, q⟩ := sp; exact ⟨σ1, H1, J1.ofTry ok, q⟩
end
end Dn
set_option maxRecDepth 100000
namespace Lw
open PySem PySem.Spec PyProof.Rows L2 Dn
/-! pairs -/
def prD (p : Int × Int) : D := .tup [.int p.1, .int p.2]
def unP : D → Option (Int × Int)
  | .tup [.int a, .int b] => some (a, b)
  | _ => none
def unPs : List D → Option (List (Int × Int))
  | [] => some []
  | d :: ds => match unP d, unPs ds with
    | some p, some ps => some (p :: ps)
    | _, _ => none
@[simp] theorem unP_pr {p : Int × Int} : unP (prD p) = some p := rfl
@[simp] theorem unPs_map : ∀ {ps : List (Int × Int)}, unPs (ps.map prD) = some ps
  | [] => rfl
  | p :: ps => by simp [unPs, unPs_map (ps := ps)]
theorem unP_some {d : D} {p : Int × Int} (h : unP d = some p) : d = prD p := by
  unfold unP at h
  split at h
  · cases h; rfl
  · cases h
theorem unPs_some : ∀ {ds : List D} {ps : List (Int × Int)}, unPs ds = some ps → ds = ps.map prD
  | [], _, h => by cases h; rfl
  | d :: ds, ps, h => by
    unfold unPs at h
    split at h
    · rename_i p qs e1 e2
      cases h
      rw [unP_some e1, unPs_some e2]
      rfl
    · cases h
def rdR (s : Sto) (n : Nat) : Option (List (Int × Int)) := match rdL s n with
  | some ds => unPs ds
  | none => none
theorem rdR_some {s : Sto} {n : Nat} {rs : List (Int × Int)} (h : rdR s n = some rs) : rdL s n = some (rs.map prD) := by
  unfold rdR at h
  split at h
  · rename_i ds e
    rw [e, unPs_some h]
  · cases h
theorem rdR_of {s : Sto} {n : Nat} {rs : List (Int × Int)} (h : rdL s n = some (rs.map prD)) : rdR s n = some rs := by
  unfold rdR
  rw [h]
  exact unPs_map
theorem wf_prs {N : Nat} : ∀ {ns : List (Int × Int)}, wfD.wfDs N (ns.map prD)
  | [] => trivial
  | _ :: r => ⟨⟨trivial, trivial, trivial⟩, wf_prs (ns := r)⟩
def rdI (s : Sto) (n : Nat) : Option Int := match rdL s n with
  | some [.int d] => some d
  | _ => none
theorem rdI_some {s : Sto} {n : Nat} {d : Int} (h : rdI s n = some d) : rdL s n = some [.int d] := by
  unfold rdI at h
  split at h
  · cases h; assumption
  · cases h
theorem rdI_of {s : Sto} {n : Nat} {d : Int} (h : rdL s n = some [.int d]) : rdI s n = some d := by
  unfold rdI
  rw [h]
/-- the digits left behind -/
abbrev put1 (s : Sto) (a : Nat) (d : Int) : Sto := s.set a (.lst [.int d])
theorem wfN_put1 {N : Nat} {s : Sto} {a : Nat} {d : Int} (h : wfN N s) : wfN N (put1 s a d) := wfN_set h (by simp [wfO, wfD.wfDs, wfD])
/-! roads that are a tree's -/
def okR (rs : List (Int × Int)) : Prop := rs.length < 40 ∧ ∀ (i : Nat) (p : Int × Int), rs[i]? = some p → (0 ≤ p.1 ∧ p.1 ≤ (i : Int)) ∧ 0 < p.2 ∧ p.2 < 1000
def parAt (rs : List (Int × Int)) (v : Int) : Int := (rs[(v - 1).toNat]?.getD (0, 1)).1
def lenAt (rs : List (Int × Int)) (v : Int) : Int := (rs[(v - 1).toNat]?.getD (0, 1)).2
def inR (rs : List (Int × Int)) (p : Int × Int) : Prop := 0 ≤ p.1 ∧ p.1 ≤ (rs.length : Int)
/-! the points up to the root -/
def climbF (rs : List (Int × Int)) : Nat → Int × Int → List (Int × Int)
  | 0, _ => []
  | k + 1, p => p :: (if p.1 = 0 then [] else if p.2 + 1 = lenAt rs p.1 then climbF rs k (parAt rs p.1, 0) else climbF rs k (p.1, p.2 + 1))
def climb (rs : List (Int × Int)) (p : Int × Int) : List (Int × Int) := climbF rs (1 + (rs.map (·.2)).sum).toNat p
/-! the way of two points -/
def strip : List (Int × Int) → List (Int × Int) → List (Int × Int) × List (Int × Int)
  | x :: y :: l, u :: v :: r => if y = v then strip (y :: l) (v :: r) else (x :: y :: l, u :: v :: r)
  | l, r => (l, r)
def way (rs : List (Int × Int)) (p q : Int × Int) : List (Int × Int) := (strip (climb rs p).reverse (climb rs q).reverse).1.reverse ++ (strip (climb rs p).reverse (climb rs q).reverse).2.tail
/-! kinds -/
def isIntD : D → Bool
  | .int _ => true
  | _ => false
def isPrD : D → Bool
  | .tup [.int _, .int _] => true
  | _ => false
/-- a value whose kind is known: a built-in one, or a tree -/
def knT (st : Sto) (x : D) : Bool := (tyD st x).isSome || insCls st x == some "Tree"
/-- with its parts where it has two -/
def okTy (st : Sto) : D → Bool
  | .tup [a, b] => knT st a && knT st b
  | x => knT st x
def F_is_int (ds : List D) (st : Sto) : Res D := match ds with
  | [x] => if knT st x = true then .ok (.bl (isIntD x)) st else .bad
  | _ => .bad
def F_is_int_pair (ds : List D) (st : Sto) : Res D := match ds with
  | [x] => if okTy st x = true then .ok (.bl (isPrD x)) st else .bad
  | _ => .bad
def isRoad (node : Int) (p : Int × Int) : Bool := decide (0 ≤ p.1 ∧ p.1 < node) && decide (1 ≤ p.2)
def F_is_road (ds : List D) (st : Sto) : Res D := match ds with
  | [x, .int node] => match unP x with
    | some p => .ok (.bl (isRoad node p)) st
    | none => if okTy st x = true then .ok (.bl false) st else .bad
  | _ => .bad
def areRoads : Int → List (Int × Int) → Bool
  | _, [] => true
  | k, p :: r => isRoad k p && areRoads (k + 1) r
/-- any row of values -/
def areRoadsD : Int → List D → Bool
  | _, [] => true
  | k, x :: r => (match unP x with | some p => isRoad k p | none => false) && areRoadsD (k + 1) r
def F_are_roads (ds : List D) (st : Sto) : Res D := match ds with
  | [x] => match rdL st (match x with | .ref n => n | _ => st.length) with
    | some xs => if xs.length < 1000 ∧ xs.all (okTy st) = true then .ok (.bl (areRoadsD 1 xs)) st else .bad
    | none => if knT st x = true ∧ tyD st x ≠ some "list" then .ok (.bl false) st else .bad
  | _ => .bad
/-! a tree -/
def depF : List Int → List (Int × Int) → List Int
  | acc, [] => acc
  | acc, p :: r => depF (acc ++ [acc[p.1.toNat]?.getD 0 + p.2]) r
def parL (rs : List (Int × Int)) : List Int := 0 :: rs.map (·.1)
def lenL (rs : List (Int × Int)) : List Int := 1 :: rs.map (·.2)
def depL (rs : List (Int × Int)) : List Int := depF [0] rs
open Classical in
noncomputable def F_node_depths (ds : List D) (st : Sto) : Res D := match ds with
  | [.ref r] => match rdR st r with
    | some rs => if okR rs then .ok (.ref st.length) (st ++ [.lst ((depL rs).map .int)]) else .bad
    | none => .bad
  | _ => .bad
def treeF (n : Nat) : List (Str × D) := [("_roads", .ref n), ("_parents", .ref (n + 3)), ("_lengths", .ref (n + 6)), ("_depths", .ref (n + 7))]
def treeL (rs : List (Int × Int)) : Sto := [.lst (rs.map prD), .lst [.int 0], .lst ((rs.map (·.1)).map .int), .lst ((parL rs).map .int), .lst [.int 1], .lst ((rs.map (·.2)).map .int), .lst ((lenL rs).map .int), .lst ((depL rs).map .int)]
open Classical in
noncomputable def F_Tree_init (ds : List D) (st : Sto) : Res D := match ds with
  | [.ref n, .ref m] => match rdR st m with
    | some rs => if okR rs ∧ st[n]? = some (.ins "Tree" []) then .ok .non (st.set n (.ins "Tree" (treeF st.length)) ++ treeL rs) else .bad
    | none => .bad
  | _ => .bad
/-- an object is the tree of these roads -/
structure IsT (st : Sto) (n : Nat) (rs : List (Int × Int)) : Prop where
  ok : okR rs
  ex : ∃ m, st[n]? = some (.ins "Tree" (treeF m)) ∧ rdL st m = some (rs.map prD) ∧ rdL st (m + 3) = some ((parL rs).map .int) ∧ rdL st (m + 6) = some ((lenL rs).map .int) ∧ rdL st (m + 7) = some ((depL rs).map .int)
open Classical in
noncomputable def rdT (st : Sto) (d : D) : Option (List (Int × Int)) := match d with
  | .ref n => if h : ∃ rs, IsT st n rs then some (choose h) else none
  | _ => none
theorem rdT_some {st : Sto} {d : D} {rs : List (Int × Int)} (h : rdT st d = some rs) : ∃ n, d = .ref n ∧ IsT st n rs := by
  unfold rdT at h
  split at h
  · rename_i n
    split at h
    · rename_i q
      cases h
      exact ⟨n, rfl, Classical.choose_spec q⟩
    · cases h
  · cases h
theorem prD_inj {p q : Int × Int} (h : prD p = prD q) : p = q := by
  obtain ⟨a, b⟩ := p
  obtain ⟨c, d⟩ := q
  simp [prD] at h
  simp [h]
theorem mapP_inj : ∀ {xs ys : List (Int × Int)}, xs.map prD = ys.map prD → xs = ys
  | [], [], _ => rfl
  | [], _ :: _, h => by simp at h
  | _ :: _, [], h => by simp at h
  | x :: xs, y :: ys, h => by
    simp only [List.map_cons, List.cons.injEq] at h
    rw [prD_inj h.1, mapP_inj h.2]
theorem IsT.uniq {st : Sto} {n : Nat} {rs rs' : List (Int × Int)} (h : IsT st n rs) (h' : IsT st n rs') : rs = rs' := by
  obtain ⟨m, e1, e2, _⟩ := h.ex
  obtain ⟨m', f1, f2, _⟩ := h'.ex
  rw [e1] at f1
  simp [treeF] at f1
  subst f1
  rw [e2] at f2
  exact mapP_inj (Option.some.inj f2)
theorem rdT_of {st : Sto} {n : Nat} {rs : List (Int × Int)} (h : IsT st n rs) : rdT st (.ref n) = some rs := by
  have hh : ∃ rs, IsT st n rs := ⟨rs, h⟩
  unfold rdT
  simp only []
  rw [dif_pos hh]
  exact congrArg some ((Classical.choose_spec hh).uniq h)
def isPt (rs : List (Int × Int)) (p : Int × Int) : Bool := decide (0 ≤ p.1 ∧ p.1 ≤ (rs.length : Int)) && decide (0 ≤ p.2 ∧ p.2 < ((lenL rs)[p.1.toNat]?.getD 0))

/-- the point that a value is, if it is one of the tree -/
def ptD (rs : List (Int × Int)) (x : D) : Option (Int × Int) := match unP x with
  | some p => if isPt rs p = true then some p else none
  | none => none
theorem ptD_some {rs : List (Int × Int)} {x : D} {p : Int × Int} (h : ptD rs x = some p) : x = prD p ∧ isPt rs p = true := by
  unfold ptD at h
  split at h
  · rename_i q e
    split at h
    · cases h
      exact ⟨unP_some e, by assumption⟩
    · cases h
  · cases h
theorem ptD_of {rs : List (Int × Int)} {p : Int × Int} (h : isPt rs p = true) : ptD rs (prD p) = some p := by
  simp [ptD, h]
noncomputable def F_Tree_contains (ds : List D) (st : Sto) : Res D := match ds with
  | [t, x] => match rdT st t with
    | some rs => if okTy st x = true then .ok (.bl (ptD rs x).isSome) st else .bad
    | _ => .bad
  | _ => .bad
noncomputable def chkP (t : D) (st : Sto) : List D → Res D
  | [] => .ok .non st
  | x :: r => match F_Tree_contains [t, x] st with
    | .ok (.bl true) _ => chkP t st r
    | .ok (.bl false) _ => .exc "InvalidPoint" st
    | _ => .bad
noncomputable def F_Tree_check_points (ds : List D) (st : Sto) : Res D := match ds with
  | [t, .ref v] => match rdT st t, rdL st v with
    | some _, some xs => chkP t st xs
    | _, _ => .bad
  | _ => .bad
def depAt (rs : List (Int × Int)) (p : Int × Int) : Int := ((depL rs)[p.1.toNat]?.getD 0) - p.2
open Classical in
noncomputable def F_Tree_depth (ds : List D) (st : Sto) : Res D := match ds with
  | [t, x] => match rdT st t, unP x with
    | some rs, some p => if inR rs p then .ok (.int (depAt rs p)) st else .bad
    | _, _ => .bad
  | _ => .bad
def lineF (rs : List (Int × Int)) : Nat → Int → List Int
  | 0, v => [v]
  | k + 1, v => v :: (if v = 0 then [] else lineF rs k (parAt rs v))
def line (rs : List (Int × Int)) (v : Int) : List Int := lineF rs v.toNat v
open Classical in
noncomputable def F_Tree_line (ds : List D) (st : Sto) : Res D := match ds with
  | [t, .int v] => match rdT st t with
    | some rs => if 0 ≤ v ∧ v ≤ (rs.length : Int) then .ok (.ref st.length) (st ++ [.lst ((line rs v).map .int)]) else .bad
    | _ => .bad
  | _ => .bad
def topN (rs : List (Int × Int)) (p q : Int × Int) : Int := ((line rs p.1).filter fun v => (line rs q.1).contains v).headD 0
def topU (rs : List (Int × Int)) (p q : Int × Int) : Int := greatI (0 :: ([p, q].filter fun x => x.1 == topN rs p q).map (·.2))
def top (rs : List (Int × Int)) (p q : Int × Int) : Int × Int := (topN rs p q, topU rs p q)
open Classical in
noncomputable def F_Tree_top (ds : List D) (st : Sto) : Res D := match ds with
  | [t, x, y] => match rdT st t, unP x, unP y with
    | some rs, some p, some q => if (inR rs p ∧ inR rs q) ∧ 0 ≤ p.2 ∧ 0 ≤ q.2 then .ok (prD (top rs p q)) st else .bad
    | _, _, _ => .bad
  | _ => .bad
def wayLen (rs : List (Int × Int)) (p q : Int × Int) : Int := depAt rs p + depAt rs q - 2 * depAt rs (top rs p q)
open Classical in
noncomputable def F_Tree_way_length (ds : List D) (st : Sto) : Res D := match ds with
  | [t, x, y] => match rdT st t, unP x, unP y with
    | some rs, some p, some q => if (inR rs p ∧ inR rs q) ∧ 0 ≤ p.2 ∧ 0 ≤ q.2 then .ok (.int (wayLen rs p q)) st else .bad
    | _, _, _ => .bad
  | _ => .bad
noncomputable def F_Tree_distance (ds : List D) (st : Sto) : Res D := match ds with
  | [t, x, y] => match rdT st t with
    | some rs => if okTy st x = true ∧ okTy st y = true then (match ptD rs x, ptD rs y with
      | some p, some q => .ok (.int (wayLen rs p q)) st
      | _, _ => .exc "InvalidPoint" st) else .bad
    | _ => .bad
  | _ => .bad
noncomputable def F_Tree_on_way (ds : List D) (st : Sto) : Res D := match ds with
  | [t, z, x, y] => match rdT st t with
    | some rs => if okTy st z = true ∧ okTy st x = true ∧ okTy st y = true then (match ptD rs z, ptD rs x, ptD rs y with
      | some o, some p, some q => .ok (.bl (wayLen rs p o + wayLen rs o q == wayLen rs p q)) st
      | _, _, _ => .exc "InvalidPoint" st) else .bad
    | _ => .bad
  | _ => .bad
/-- the point far steps up -/
def upBy (rs : List (Int × Int)) (p : Int × Int) (far : Int) : Int × Int := (climb rs p)[far.toNat]?.getD p
def farOk (rs : List (Int × Int)) (p q : Int × Int) : D → Option Int
  | .int i => if 0 ≤ i ∧ i ≤ wayLen rs p q then some i else none
  | _ => none
def stepTo (rs : List (Int × Int)) (p q : Int × Int) (far : Int) : Int × Int :=
  if far ≤ depAt rs p - depAt rs (top rs p q) then upBy rs p far else upBy rs q (wayLen rs p q - far)
open Classical in
noncomputable def F_Tree_climb (ds : List D) (st : Sto) : Res D := match ds with
  | [t, x, .int far] => match rdT st t with
    | some rs => match ptD rs x with
      | some p => if 0 ≤ far ∧ far ≤ depAt rs p then .ok (prD (upBy rs p far)) st else .bad
      | none => .bad
    | _ => .bad
  | _ => .bad
noncomputable def F_Tree_towards (ds : List D) (st : Sto) : Res D := match ds with
  | [t, x, y, z] => match rdT st t with
    | some rs => if okTy st x = true ∧ okTy st y = true ∧ knT st z = true then (match ptD rs x, ptD rs y with
      | some p, some q => (match farOk rs p q z with
        | some far => .ok (prD (stepTo rs p q far)) st
        | none => .exc "InvalidPoint" st)
      | _, _ => .exc "InvalidPoint" st) else .bad
    | _ => .bad
  | _ => .bad
/-- the roads, a new list -/
noncomputable def F_Tree_roads (ds : List D) (st : Sto) : Res D := match ds with
  | [t] => match rdT st t with
    | some rs => .ok (.ref st.length) (st ++ [.lst (rs.map prD)])
    | _ => .bad
  | _ => .bad
noncomputable def F_Tree_len (ds : List D) (st : Sto) : Res D := match ds with
  | [t] => match rdT st t with
    | some rs => .ok (.int (rs.length + 1)) st
    | _ => .bad
  | _ => .bad
end Lw
set_option maxRecDepth 100000
set_option maxHeartbeats 4000000
namespace Lw
open PySem PySem.Spec PyProof.Rows L2 Dn
section
variable {rs : List (Int × Int)}
theorem okR_at (h : okR rs) {v : Int} (h1 : 0 < v) (h2 : v ≤ rs.length) : 0 ≤ parAt rs v ∧ parAt rs v < v ∧ 0 < lenAt rs v := by
  have hl : (v - 1).toNat < rs.length := by omega
  have e : rs[(v - 1).toNat]? = some rs[(v - 1).toNat] := List.getElem?_eq_getElem hl
  have := h.2 _ _ e
  unfold parAt lenAt
  rw [e]
  simp only [Option.getD_some]
  omega
/-! lines -/
theorem lineF_fuel (h : okR rs) : ∀ (j : Nat) (v : Int), 0 ≤ v → v ≤ (rs.length : Int) → v.toNat ≤ j → lineF rs j v = line rs v
  | 0, v, h0, h1, h2 => by
    have e : v = 0 := by omega
    subst e
    rfl
  | j + 1, v, h0, h1, h2 => by
    by_cases q : v = 0
    · subst q
      simp [line, lineF]
    · have := okR_at h (v := v) (by omega) h1
      obtain ⟨m, hm⟩ : ∃ m, v.toNat = m + 1 := ⟨v.toNat - 1, by omega⟩
      unfold line
      rw [hm]
      simp only [lineF, q, if_false]
      rw [lineF_fuel h j (parAt rs v) (by omega) (by omega) (by omega), lineF_fuel h m (parAt rs v) (by omega) (by omega) (by omega)]
theorem line_zero0 : line rs 0 = [0] := rfl
theorem line_rec (h : okR rs) {v : Int} (h1 : 0 < v) (h2 : v ≤ rs.length) : line rs v = v :: line rs (parAt rs v) := by
  have := okR_at h h1 h2
  rw [← lineF_fuel h (v.toNat + 1) v (by omega) h2 (by omega)]
  simp only [lineF, show ¬ v = 0 by omega, if_false]
  rw [lineF_fuel h _ _ (by omega) (by omega) (by omega)]
theorem line_bd (h : okR rs) : ∀ (j : Nat) (v : Int), 0 ≤ v → v ≤ (rs.length : Int) → v.toNat ≤ j → v ∈ line rs v ∧ 0 ∈ line rs v ∧ ∀ x ∈ line rs v, 0 ≤ x ∧ x ≤ v
  | 0, v, h0, h1, h2 => by
    have e : v = 0 := by omega
    subst e
    simp [line_zero0]
  | j + 1, v, h0, h1, h2 => by
    by_cases q : v = 0
    · subst q
      simp [line_zero0]
    · have k := okR_at h (v := v) (by omega) h1
      have ih := line_bd h j (parAt rs v) (by omega) (by omega) (by omega)
      rw [line_rec h (by omega) h1]
      refine ⟨by simp, by simp [ih.2.1], fun x hx => ?_⟩
      rcases List.mem_cons.mp hx with e | e
      · omega
      · have := ih.2.2 x e
        omega
theorem line_mem (h : okR rs) {v x : Int} (h0 : 0 ≤ v) (h1 : v ≤ rs.length) (hx : x ∈ line rs v) : 0 ≤ x ∧ x ≤ v := (line_bd h v.toNat v h0 h1 (Nat.le_refl _)).2.2 x hx
theorem line_self (h : okR rs) {v : Int} (h0 : 0 ≤ v) (h1 : v ≤ rs.length) : v ∈ line rs v := (line_bd h v.toNat v h0 h1 (Nat.le_refl _)).1
theorem line_root (h : okR rs) {v : Int} (h0 : 0 ≤ v) (h1 : v ≤ rs.length) : 0 ∈ line rs v := (line_bd h v.toNat v h0 h1 (Nat.le_refl _)).2.1
/-- the first of a line that has a property: all others that have it are over it -/
theorem line_first (h : okR rs) (S : Int → Bool) : ∀ (j : Nat) (w : Int), 0 ≤ w → w ≤ (rs.length : Int) → w.toNat ≤ j → ∀ v ∈ line rs w, S v = true → v ∈ line rs (((line rs w).filter S).headD 0) ∧ ((line rs w).filter S).headD 0 ∈ line rs w ∧ S (((line rs w).filter S).headD 0) = true
  | 0, w, h0, h1, h2, v, hv, hs => by
    have e : w = 0 := by omega
    subst e
    simp [line_zero0] at hv
    subst hv
    simp [line_zero0, hs]
  | j + 1, w, h0, h1, h2, v, hv, hs => by
    by_cases q : w = 0
    · subst q
      simp [line_zero0] at hv
      subst hv
      simp [line_zero0, hs]
    · have k := okR_at h (v := w) (by omega) h1
      have er := line_rec h (v := w) (by omega) h1
      by_cases hw : S w = true
      · have e : ((line rs w).filter S).headD 0 = w := by rw [er, List.filter_cons, if_pos hw]; rfl
        rw [e]
        exact ⟨hv, by rw [er]; simp, hw⟩
      · have e : (line rs w).filter S = (line rs (parAt rs w)).filter S := by rw [er, List.filter_cons, if_neg hw]
        rw [e]
        have hv' : v ∈ line rs (parAt rs w) := by
          rw [er] at hv
          rcases List.mem_cons.mp hv with z | z
          · subst z
            exact absurd hs hw
          · exact z
        have ih := line_first h S j (parAt rs w) (by omega) (by omega) (by omega) v hv' hs
        exact ⟨ih.1, by rw [er]; exact List.mem_cons_of_mem _ ih.2.1, ih.2.2⟩
/-! depths -/
def depV (rs : List (Int × Int)) (v : Int) : Int := (depL rs)[v.toNat]?.getD 0
theorem depF_pre : ∀ (qs : List (Int × Int)) (acc : List Int) (i : Nat), i < acc.length → (depF acc qs)[i]? = acc[i]?
  | [], acc, i, h => rfl
  | q :: qs, acc, i, h => by
    unfold depF
    rw [depF_pre qs _ i (by simp; omega), List.getElem?_append_left h]
theorem depF_at : ∀ (qs : List (Int × Int)) (acc : List Int) (i : Nat) (p : Int × Int), (∀ (i : Nat) (p : Int × Int), qs[i]? = some p → 0 ≤ p.1 ∧ p.1 < acc.length + (i : Int)) → qs[i]? = some p → (depF acc qs)[acc.length + i]?.getD 0 = (depF acc qs)[p.1.toNat]?.getD 0 + p.2
  | [], acc, i, p, h, e => by simp at e
  | q :: qs, acc, 0, p, h, e => by
    simp at e
    subst e
    have h0 := h 0 q rfl
    unfold depF
    rw [depF_pre qs _ _ (by simp), depF_pre qs _ _ (by simp; omega), List.getElem?_append_right (by simp), List.getElem?_append_left (by omega)]
    simp
  | q :: qs, acc, i + 1, p, h, e => by
    unfold depF
    have := depF_at qs (acc ++ [acc[q.1.toNat]?.getD 0 + q.2]) i p (fun i p e => by have := h (i + 1) p e; simp; omega) e
    rw [← this]
    congr 2
    simp
    omega
theorem depV_zero : depV rs 0 = 0 := by
  unfold depV depL
  rw [depF_pre rs [0] _ (by simp)]
  rfl
theorem depV_rec (h : okR rs) {v : Int} (h1 : 0 < v) (h2 : v ≤ rs.length) : depV rs v = depV rs (parAt rs v) + lenAt rs v := by
  have hl : (v - 1).toNat < rs.length := by omega
  have e : rs[(v - 1).toNat]? = some rs[(v - 1).toNat] := List.getElem?_eq_getElem hl
  have := depF_at rs [0] (v - 1).toNat _ (fun i p e => by have := h.2 i p e; simp; omega) e
  unfold depV depL parAt lenAt
  rw [e]
  simp only [Option.getD_some]
  rw [← this]
  congr 2
  simp
  omega
theorem depV_pos (h : okR rs) : ∀ (j : Nat) (v : Int), 0 ≤ v → v ≤ (rs.length : Int) → v.toNat ≤ j → 0 ≤ depV rs v
  | 0, v, h0, h1, h2 => by
    have e : v = 0 := by omega
    subst e
    rw [depV_zero]
    omega
  | j + 1, v, h0, h1, h2 => by
    by_cases q : v = 0
    · subst q
      rw [depV_zero]
      omega
    · have k := okR_at h (v := v) (by omega) h1
      have := depV_pos h j (parAt rs v) (by omega) (by omega) (by omega)
      rw [depV_rec h (by omega) h1]
      omega
theorem depV_line (h : okR rs) : ∀ (j : Nat) (v : Int), 0 ≤ v → v ≤ (rs.length : Int) → v.toNat ≤ j → ∀ x ∈ line rs v, depV rs x ≤ depV rs v
  | 0, v, h0, h1, h2, x, hx => by
    have e : v = 0 := by omega
    subst e
    simp [line_zero0] at hx
    subst hx
    omega
  | j + 1, v, h0, h1, h2, x, hx => by
    by_cases q : v = 0
    · subst q
      simp [line_zero0] at hx
      subst hx
      omega
    · have k := okR_at h (v := v) (by omega) h1
      rw [line_rec h (by omega) h1] at hx
      have e := depV_rec h (v := v) (by omega) h1
      rcases List.mem_cons.mp hx with z | z
      · subst z; omega
      · have := depV_line h j (parAt rs v) (by omega) (by omega) (by omega) x z
        omega
/-! prefix sums bound the depth -/
theorem sum_take_le (h : ∀ (i : Nat) (p : Int × Int), rs[i]? = some p → 0 < p.2) : ∀ (i j : Nat), i ≤ j → ((rs.take i).map (·.2)).sum ≤ ((rs.take j).map (·.2)).sum := by
  intro i j hij
  induction j with
  | zero =>
    have : i = 0 := by omega
    subst this
    omega
  | succ j ih =>
    by_cases q : i = j + 1
    · subst q; omega
    · have := ih (by omega)
      rw [List.take_add_one]
      cases e : rs[j]? with
      | none => simp; simpa using this
      | some p =>
        have := h j p e
        simp at *
        omega
theorem depV_sum (h : okR rs) : ∀ (j : Nat) (v : Int), 0 ≤ v → v ≤ (rs.length : Int) → v.toNat ≤ j → depV rs v ≤ ((rs.take v.toNat).map (·.2)).sum
  | 0, v, h0, h1, h2 => by
    have e : v = 0 := by omega
    subst e
    rw [depV_zero]
    simp
  | j + 1, v, h0, h1, h2 => by
    by_cases q : v = 0
    · subst q
      rw [depV_zero]
      simp
    · have k := okR_at h (v := v) (by omega) h1
      have ih := depV_sum h j (parAt rs v) (by omega) (by omega) (by omega)
      have mono := sum_take_le (rs := rs) (fun i p e => (h.2 i p e).2.1) (parAt rs v).toNat (v - 1).toNat (by omega)
      rw [depV_rec h (by omega) h1]
      have hl : (v - 1).toNat < rs.length := by omega
      have e : rs[(v - 1).toNat]? = some rs[(v - 1).toNat] := List.getElem?_eq_getElem hl
      have e2 : v.toNat = (v - 1).toNat + 1 := by omega
      have e3 : lenAt rs v = rs[(v - 1).toNat].2 := by unfold lenAt; rw [e]; rfl
      have e4 : ((rs.take ((v - 1).toNat + 1)).map (·.2)).sum = ((rs.take (v - 1).toNat).map (·.2)).sum + rs[(v - 1).toNat].2 := by
        rw [List.take_add_one, e, List.map_append, List.sum_append]
        simp
      rw [e2, e4, e3]
      omega
theorem depV_le (h : okR rs) {v : Int} (h0 : 0 ≤ v) (h1 : v ≤ rs.length) : depV rs v ≤ (rs.map (·.2)).sum := by
  have a := depV_sum h v.toNat v h0 h1 (Nat.le_refl _)
  have b := sum_take_le (rs := rs) (fun i p e => (h.2 i p e).2.1) v.toNat rs.length (by omega)
  rw [List.take_length] at b
  omega
/-! points -/
/-- a point of the tree -/
structure Vp (rs : List (Int × Int)) (p : Int × Int) : Prop where
  lo : 0 ≤ p.1
  hi : p.1 ≤ (rs.length : Int)
  ul : 0 ≤ p.2
  uz : p.1 = 0 → p.2 = 0
  uh : 0 < p.1 → p.2 < lenAt rs p.1
theorem lenL_val (h : okR rs) {v : Int} (h0 : 0 < v) (h1 : v ≤ rs.length) : (lenL rs)[v.toNat]?.getD 0 = lenAt rs v := by
  have hl : (v - 1).toNat < rs.length := by omega
  unfold lenL lenAt
  rw [show v.toNat = (v - 1).toNat + 1 by omega, List.getElem?_cons_succ, List.getElem?_map, List.getElem?_eq_getElem hl]
  rfl
theorem isPt_vp (h : okR rs) {p : Int × Int} (hp : isPt rs p = true) : Vp rs p := by
  simp only [isPt, Bool.and_eq_true, decide_eq_true_eq] at hp
  obtain ⟨⟨a, b⟩, c, d⟩ := hp
  refine ⟨a, b, c, fun z => ?_, fun z => ?_⟩
  · rw [z] at d
    simp [lenL] at d
    omega
  · rw [lenL_val h z b] at d
    exact d
/-- one step of 1 towards the root -/
def nextP (rs : List (Int × Int)) (p : Int × Int) : Int × Int := if p.2 + 1 = lenAt rs p.1 then (parAt rs p.1, 0) else (p.1, p.2 + 1)
theorem climbF_succ {k : Nat} {p : Int × Int} : climbF rs (k + 1) p = p :: (if p.1 = 0 then [] else climbF rs k (nextP rs p)) := by
  unfold nextP
  rw [climbF]
  split
  · rfl
  · split <;> rfl
theorem Vp.next (h : okR rs) {p : Int × Int} (c : Vp rs p) (hp : p.1 ≠ 0) : Vp rs (nextP rs p) := by
  have k := okR_at h (v := p.1) (by have := c.lo; omega) c.hi
  unfold nextP
  split
  · refine ⟨k.1, ?_, ?_, ?_, ?_⟩ <;> simp
    · have := c.hi; omega
    · intro z
      exact (okR_at h (v := parAt rs p.1) z (by have := c.hi; omega)).2.2
  · rename_i q
    refine ⟨c.lo, c.hi, ?_, ?_, ?_⟩ <;> simp
    · have := c.ul; omega
    · intro z; exact absurd z hp
    · intro z
      have := c.uh z
      omega
theorem depAt_eq {p : Int × Int} : depAt rs p = depV rs p.1 - p.2 := rfl
theorem depAt_next (h : okR rs) {p : Int × Int} (c : Vp rs p) (hp : p.1 ≠ 0) : depAt rs (nextP rs p) = depAt rs p - 1 := by
  have e := depV_rec h (v := p.1) (by have := c.lo; omega) c.hi
  unfold nextP
  split
  · rename_i q
    simp only [depAt_eq]
    omega
  · simp only [depAt_eq]
    omega
theorem depAt_root {p : Int × Int} (c : Vp rs p) (hp : p.1 = 0) : depAt rs p = 0 := by
  rw [depAt_eq, hp, depV_zero, c.uz hp]
  rfl
theorem depAt_nn (h : okR rs) {p : Int × Int} (c : Vp rs p) : 0 ≤ depAt rs p := by
  by_cases q : p.1 = 0
  · rw [depAt_root c q]
    omega
  · have k := okR_at h (v := p.1) (by have := c.lo; omega) c.hi
    have e := depV_rec h (v := p.1) (by have := c.lo; omega) c.hi
    have u := c.uh (by have := c.lo; omega)
    have := depV_pos h (parAt rs p.1).toNat (parAt rs p.1) k.1 (by have := c.hi; omega) (Nat.le_refl _)
    rw [depAt_eq]
    omega
theorem depAt_pos (h : okR rs) {p : Int × Int} (c : Vp rs p) (hp : p.1 ≠ 0) : 1 ≤ depAt rs p := by
  have := depAt_nn h (c.next h hp)
  rw [depAt_next h c hp] at this
  omega
/-- climbing with fuel to spare -/
theorem climbF_fuel (h : okR rs) : ∀ (k j : Nat) (p : Int × Int), Vp rs p → (depAt rs p).toNat < k → (depAt rs p).toNat < j → climbF rs k p = climbF rs j p
  | 0, _, _, _, hk, _ => by omega
  | _, 0, _, _, _, hj => by omega
  | k + 1, j + 1, p, c, hk, hj => by
    rw [climbF_succ, climbF_succ]
    by_cases q : p.1 = 0
    · simp [q]
    · have e := depAt_next h c q
      have d := depAt_pos h c q
      rw [if_neg q, if_neg q, climbF_fuel h k j _ (c.next h q) (by omega) (by omega)]
theorem depAt_le (h : okR rs) {p : Int × Int} (c : Vp rs p) : depAt rs p ≤ (rs.map (·.2)).sum := by
  have := depV_le h c.lo c.hi
  have := c.ul
  rw [depAt_eq]
  omega
theorem climb_fuel (h : okR rs) {p : Int × Int} (c : Vp rs p) {k : Nat} (hk : (depAt rs p).toNat < k) : climbF rs k p = climb rs p := by
  have := depAt_le h c
  have := depAt_nn h c
  exact climbF_fuel h _ _ p c hk (by omega)
theorem climb_rec (h : okR rs) {p : Int × Int} (c : Vp rs p) : climb rs p = p :: (if p.1 = 0 then [] else climb rs (nextP rs p)) := by
  rw [← climb_fuel h c (k := (depAt rs p).toNat + 1) (by omega), climbF_succ]
  by_cases q : p.1 = 0
  · rw [if_pos q, if_pos q]
  · have e := depAt_next h c q
    have d := depAt_pos h c q
    rw [if_neg q, if_neg q, climb_fuel h (c.next h q) (by omega)]
theorem climb_len (h : okR rs) : ∀ (k : Nat) (p : Int × Int), Vp rs p → (depAt rs p).toNat ≤ k → ((climb rs p).length : Int) = depAt rs p + 1
  | 0, p, c, hk => by
    by_cases q : p.1 = 0
    · rw [climb_rec h c, if_pos q, depAt_root c q]; rfl
    · have := depAt_pos h c q; omega
  | k + 1, p, c, hk => by
    by_cases q : p.1 = 0
    · rw [climb_rec h c, if_pos q, depAt_root c q]; rfl
    · have e := depAt_next h c q
      have := depAt_pos h c q
      have ih := climb_len h k _ (c.next h q) (by omega)
      rw [climb_rec h c, if_neg q, List.length_cons]
      omega
theorem climb_length (h : okR rs) {p : Int × Int} (c : Vp rs p) : ((climb rs p).length : Int) = depAt rs p + 1 := climb_len h _ p c (Nat.le_refl _)
/-- all of a climb: points; behind each of them its own climb -/
theorem climb_suf (h : okR rs) : ∀ (k : Nat) (p : Int × Int), Vp rs p → (depAt rs p).toNat ≤ k → ∀ x ∈ climb rs p, Vp rs x ∧ ∃ A, climb rs p = A ++ climb rs x
  | k, p, c, hk, x, hx => by
    rw [climb_rec h c] at hx
    rcases List.mem_cons.mp hx with z | z
    · subst z
      exact ⟨c, [], rfl⟩
    · by_cases q : p.1 = 0
      · rw [if_pos q] at z; cases z
      · rw [if_neg q] at z
        have e := depAt_next h c q
        have := depAt_pos h c q
        match k, hk with
        | 0, hk => omega
        | k + 1, hk =>
          obtain ⟨v, A, eA⟩ := climb_suf h k _ (c.next h q) (by omega) x z
          exact ⟨v, p :: A, by rw [climb_rec h c, if_neg q, eA]; rfl⟩
/-- where on a climb a point lies tells its depth -/
theorem climb_at' (h : okR rs) : ∀ (i : Nat) (p : Int × Int), Vp rs p → ∀ x, (climb rs p)[i]? = some x → depAt rs x = depAt rs p - (i : Int)
  | 0, p, c, x, e => by
    rw [climb_rec h c] at e
    simp at e
    subst e
    simp
  | i + 1, p, c, x, e => by
    rw [climb_rec h c] at e
    simp only [List.getElem?_cons_succ] at e
    by_cases q : p.1 = 0
    · rw [if_pos q] at e; simp at e
    · rw [if_neg q] at e
      have := climb_at' h i _ (c.next h q) x e
      rw [this, depAt_next h c q]
      push_cast
      omega
theorem climb_at (h : okR rs) {p x : Int × Int} (c : Vp rs p) {i : Nat} (e : (climb rs p)[i]? = some x) : depAt rs x = depAt rs p - (i : Int) := climb_at' h i p c x e
/-- what lies on a climb -/
theorem climb_mem (h : okR rs) : ∀ (k : Nat) (p : Int × Int), Vp rs p → (depAt rs p).toNat ≤ k → ∀ x, Vp rs x → (x ∈ climb rs p ↔ x.1 ∈ line rs p.1 ∧ (x.1 = p.1 → p.2 ≤ x.2))
  | k, p, c, hk, x, cx => by
    by_cases q : p.1 = 0
    · rw [climb_rec h c, if_pos q, q, line_zero0]
      have u := c.uz q
      constructor
      · intro z
        simp at z
        subst z
        exact ⟨by simp [q], fun _ => Int.le_refl _⟩
      · rintro ⟨z, _⟩
        simp at z
        have u2 := cx.uz z
        have : x = p := Prod.ext (by omega) (by omega)
        simp [this]
    · have e := depAt_next h c q
      have := depAt_pos h c q
      match k, hk with
      | 0, hk => omega
      | k + 1, hk =>
        have ih := climb_mem h k _ (c.next h q) (by omega) x cx
        have er := line_rec h (v := p.1) (by have := c.lo; omega) c.hi
        have ka := okR_at h (v := p.1) (by have := c.lo; omega) c.hi
        rw [climb_rec h c, if_neg q, List.mem_cons, ih]
        have up := c.uh (by have := c.lo; omega)
        by_cases q2 : p.2 + 1 = lenAt rs p.1
        · have en : nextP rs p = (parAt rs p.1, 0) := if_pos q2
          rw [en, er]
          simp only [List.mem_cons]
          constructor
          · rintro (z | ⟨z, _⟩)
            · subst z
              exact ⟨.inl rfl, fun _ => Int.le_refl _⟩
            · have := line_mem h ka.1 (by have := c.hi; omega) z
              exact ⟨.inr z, fun w => by omega⟩
          · rintro ⟨z | z, w⟩
            · left
              have w := w z
              have := cx.uh (by rw [z]; have := c.lo; omega)
              rw [z] at this
              exact Prod.ext z (by omega)
            · exact .inr ⟨z, fun _ => cx.ul⟩
        · have en : nextP rs p = (p.1, p.2 + 1) := if_neg q2
          rw [en]
          simp only
          constructor
          · rintro (z | ⟨z, w⟩)
            · subst z
              exact ⟨line_self h c.lo c.hi, fun _ => Int.le_refl _⟩
            · exact ⟨z, fun r => by have := w r; omega⟩
          · rintro ⟨z, w⟩
            by_cases q3 : x.1 = p.1
            · by_cases q4 : x.2 = p.2
              · exact .inl (Prod.ext q3 q4)
              · have := w q3
                exact .inr ⟨z, fun _ => by omega⟩
            · exact .inr ⟨z, fun r => absurd r q3⟩
theorem mem_climb (h : okR rs) {p x : Int × Int} (c : Vp rs p) (cx : Vp rs x) : x ∈ climb rs p ↔ x.1 ∈ line rs p.1 ∧ (x.1 = p.1 → p.2 ≤ x.2) := climb_mem h _ p c (Nat.le_refl _) x cx
end
end Lw
set_option maxRecDepth 100000
set_option maxHeartbeats 4000000
namespace Lw
open PySem PySem.Spec PyProof.Rows L2 Dn
section
variable {rs : List (Int × Int)}
theorem inR_vp {p : Int × Int} (c : Vp rs p) : inR rs p := ⟨c.lo, c.hi⟩
theorem topN_ok (h : okR rs) {p q : Int × Int} (cp : inR rs p) (cq : inR rs q) : topN rs p q ∈ line rs p.1 ∧ topN rs p q ∈ line rs q.1 ∧ ∀ v, v ∈ line rs p.1 → v ∈ line rs q.1 → v ∈ line rs (topN rs p q) := by
  have z0 := line_root h cp.1 cp.2
  have z1 := line_root h cq.1 cq.2
  have k := line_first h (fun v => (line rs q.1).contains v) _ p.1 cp.1 cp.2 (Nat.le_refl _) 0 z0 (by simpa using z1)
  refine ⟨k.2.1, by have := k.2.2; exact List.contains_iff_mem.mp this, fun v a b => ?_⟩
  exact (line_first h (fun v => (line rs q.1).contains v) _ p.1 cp.1 cp.2 (Nat.le_refl _) v a (by simpa using b)).1
theorem top_in (h : okR rs) {p q : Int × Int} (cp : inR rs p) (cq : inR rs q) : inR rs (top rs p q) := by
  have k := line_mem h cp.1 cp.2 (topN_ok h cp cq).1
  exact ⟨k.1, by have := cp.2; show topN rs p q ≤ _; omega⟩
theorem topU_eq {p q : Int × Int} (hp : 0 ≤ p.2) (hq : 0 ≤ q.2) : topU rs p q = max (if p.1 = topN rs p q then p.2 else 0) (if q.1 = topN rs p q then q.2 else 0) := by
  by_cases a : p.1 = topN rs p q <;> by_cases b : q.1 = topN rs p q <;> simp [topU, List.filter_cons, a, b, greatI] <;> (try split) <;> (try split) <;> omega
theorem top_vp (h : okR rs) {p q : Int × Int} (cp : Vp rs p) (cq : Vp rs q) : Vp rs (top rs p q) := by
  have k := topN_ok h (inR_vp cp) (inR_vp cq)
  have i := top_in h (inR_vp cp) (inR_vp cq)
  have e := topU_eq (rs := rs) cp.ul cq.ul
  have e1 : (top rs p q).1 = topN rs p q := rfl
  have e2 : (top rs p q).2 = topU rs p q := rfl
  have ulp := cp.ul
  have ulq := cq.ul
  refine ⟨i.1, i.2, ?_, fun z => ?_, fun z => ?_⟩
  · rw [e2, e]
    split <;> split <;> omega
  · rw [e1] at z
    rw [e2, e]
    have a := fun w : p.1 = topN rs p q => cp.uz (by omega)
    have b := fun w : q.1 = topN rs p q => cq.uz (by omega)
    split <;> split <;> (try have a := a ‹_›) <;> (try have b := b ‹_›) <;> omega
  · rw [e1] at z
    rw [e2, e, e1]
    have a := fun w : p.1 = topN rs p q => cp.uh (by omega)
    have b := fun w : q.1 = topN rs p q => cq.uh (by omega)
    have l := (okR_at h (v := topN rs p q) z i.2).2.2
    split <;> split <;> (try have a := a ‹_›) <;> (try have b := b ‹_›) <;> (try rw [‹p.1 = topN rs p q›] at a) <;> (try rw [‹q.1 = topN rs p q›] at b) <;> omega
theorem top_mem (h : okR rs) {p q : Int × Int} (cp : Vp rs p) (cq : Vp rs q) : top rs p q ∈ climb rs p ∧ top rs p q ∈ climb rs q := by
  have k := topN_ok h (inR_vp cp) (inR_vp cq)
  have ct := top_vp h cp cq
  have e := topU_eq (rs := rs) cp.ul cq.ul
  have e1 : (top rs p q).1 = topN rs p q := rfl
  have e2 : (top rs p q).2 = topU rs p q := rfl
  rw [mem_climb h cp ct, mem_climb h cq ct, e1, e2, e]
  refine ⟨⟨k.1, fun z => ?_⟩, k.2.1, fun z => ?_⟩
  · rw [if_pos z.symm]; omega
  · rw [if_pos z.symm]; omega
theorem top_max (h : okR rs) {p q x : Int × Int} (cp : Vp rs p) (cq : Vp rs q) (hp : x ∈ climb rs p) (hq : x ∈ climb rs q) : depAt rs x ≤ depAt rs (top rs p q) := by
  have cx := (climb_suf h _ p cp (Nat.le_refl _) x hp).1
  have k := topN_ok h (inR_vp cp) (inR_vp cq)
  have ct := top_vp h cp cq
  have e := topU_eq (rs := rs) cp.ul cq.ul
  have e1 : (top rs p q).1 = topN rs p q := rfl
  have e2 : (top rs p q).2 = topU rs p q := rfl
  rw [mem_climb h cp cx] at hp
  rw [mem_climb h cq cx] at hq
  have hN := k.2.2 x.1 hp.1 hq.1
  have ux := cx.ul
  rw [depAt_eq, depAt_eq, e1, e2]
  by_cases z : x.1 = topN rs p q
  · rw [z, e]
    have a := fun w : p.1 = topN rs p q => hp.2 (by omega)
    have b := fun w : q.1 = topN rs p q => hq.2 (by omega)
    split <;> split <;> (try have a := a ‹_›) <;> (try have b := b ‹_›) <;> omega
  · have n0 : topN rs p q ≠ 0 := by
      intro w
      rw [w, line_zero0] at hN
      simp at hN
      omega
    have lo := ct.lo
    have hi := ct.hi
    rw [e1] at lo hi
    have r := line_rec h (v := topN rs p q) (by omega) hi
    have d := depV_rec h (v := topN rs p q) (by omega) hi
    have ka := okR_at h (v := topN rs p q) (by omega) hi
    rw [r] at hN
    have hN := (List.mem_cons.mp hN).resolve_left z
    have dl := depV_line h _ _ ka.1 (by omega) (Nat.le_refl _) x.1 hN
    have uh := ct.uh (by rw [e1]; omega)
    rw [e1, e2] at uh
    omega
/-! the way -/
theorem strip_pre : ∀ (C A B : List (Int × Int)) (t : Int × Int), strip (C ++ t :: A) (C ++ t :: B) = strip (t :: A) (t :: B)
  | [], _, _, _ => rfl
  | [c], A, B, t => by simp [strip]
  | c :: d :: C, A, B, t => by
    have ih := strip_pre (d :: C) A B t
    simp only [List.cons_append] at ih ⊢
    rw [← ih, strip, if_pos rfl]
theorem strip_end {A B : List (Int × Int)} {t : Int × Int} (h : ∀ a A' b B', A = a :: A' → B = b :: B' → a ≠ b) : strip (t :: A) (t :: B) = (t :: A, t :: B) := by
  cases A with
  | nil => simp [strip]
  | cons a A =>
    cases B with
    | nil => simp [strip]
    | cons b B => rw [strip, if_neg (h a A b B rfl rfl)]
theorem climb_head (h : okR rs) {p : Int × Int} (c : Vp rs p) : ∃ A, climb rs p = p :: A := ⟨_, climb_rec h c⟩
theorem way_eq (h : okR rs) {p q : Int × Int} (cp : Vp rs p) (cq : Vp rs q) : ∃ A B, climb rs p = A ++ climb rs (top rs p q) ∧ climb rs q = B ++ climb rs (top rs p q) ∧ way rs p q = A ++ top rs p q :: B.reverse := by
  have m := top_mem h cp cq
  have ct := top_vp h cp cq
  obtain ⟨_, A, eA⟩ := climb_suf h _ p cp (Nat.le_refl _) _ m.1
  obtain ⟨_, B, eB⟩ := climb_suf h _ q cq (Nat.le_refl _) _ m.2
  obtain ⟨C, eC⟩ := climb_head h ct
  refine ⟨A, B, eA, eB, ?_⟩
  have e1 : (climb rs p).reverse = C.reverse ++ top rs p q :: A.reverse := by rw [eA, eC]; simp
  have e2 : (climb rs q).reverse = C.reverse ++ top rs p q :: B.reverse := by rw [eB, eC]; simp
  have s : strip (climb rs p).reverse (climb rs q).reverse = (top rs p q :: A.reverse, top rs p q :: B.reverse) := by
    rw [e1, e2, strip_pre]
    apply strip_end
    intro a A' b B' ha hb z
    subst z
    have ma : a ∈ climb rs p := by
      rw [eA]
      exact List.mem_append_left _ (List.mem_reverse.mp (ha ▸ List.mem_cons_self))
    have mb : a ∈ climb rs q := by
      rw [eB]
      exact List.mem_append_left _ (List.mem_reverse.mp (hb ▸ List.mem_cons_self))
    have le := top_max h cp cq ma mb
    have lt := climb_length h ct
    have lp := climb_length h cp
    have eA' : A = A'.reverse ++ [a] := by
      have := congrArg List.reverse ha
      simpa using this
    have e3 : climb rs p = A'.reverse ++ (a :: climb rs (top rs p q)) := by
      rw [eA, eA']
      simp
    have g : (climb rs p)[A'.reverse.length]? = some a := by
      rw [e3, List.getElem?_append_right (Nat.le_refl _)]
      simp
    have d := climb_at h cp g
    have ln := congrArg List.length e3
    simp only [List.length_append, List.length_cons, List.length_reverse] at ln d
    omega
  unfold way
  rw [s]
  simp
theorem dist_ok (h : okR rs) {p q : Int × Int} (hp : isPt rs p = true) (hq : isPt rs q = true) : wayLen rs p q = ((way rs p q).length : Int) - 1 := by
  have cp := isPt_vp h hp
  have cq := isPt_vp h hq
  have lp := climb_length h cp
  have lq := climb_length h cq
  have lt := climb_length h (top_vp h cp cq)
  obtain ⟨A, B, e1, e2, e3⟩ := way_eq h cp cq
  have n1 := congrArg List.length e1
  have n2 := congrArg List.length e2
  rw [e3]
  simp only [List.length_append, List.length_cons, List.length_reverse] at n1 n2 ⊢
  unfold wayLen
  omega
theorem way_sym (h : okR rs) {p q : Int × Int} (hp : isPt rs p = true) (hq : isPt rs q = true) : wayLen rs q p = wayLen rs p q := by
  have cp := isPt_vp h hp
  have cq := isPt_vp h hq
  have m1 := top_mem h cp cq
  have m2 := top_mem h cq cp
  have a := top_max h cp cq m2.2 m2.1
  have b := top_max h cq cp m1.2 m1.1
  unfold wayLen
  omega
theorem way_self (h : okR rs) {p : Int × Int} (hp : isPt rs p = true) : wayLen rs p p = 0 := by
  have cp := isPt_vp h hp
  obtain ⟨A, e⟩ := climb_head h cp
  have mp : p ∈ climb rs p := by rw [e]; simp
  have m := top_mem h cp cp
  have a := top_max h cp cp mp mp
  obtain ⟨_, B, eB⟩ := climb_suf h _ p cp (Nat.le_refl _) _ m.1
  have lp := climb_length h cp
  have lt := climb_length h (top_vp h cp cp)
  have ln := congrArg List.length eB
  simp only [List.length_append] at ln
  unfold wayLen
  omega
end
end Lw
set_option maxRecDepth 100000
set_option maxHeartbeats 4000000
namespace Lw
open PySem PySem.Spec PyProof.Rows L2 Dn
noncomputable def m_is_int : MS := (mRet (mAndV (mIsiO ["Tree"] "int" (mVar 0)) (mNotV (mIsiO ["Tree"] "bool" (mVar 0)))))
noncomputable def m_is_int_pair : MS := (mSeq (mIfS (mOr (mNot (mB (mIsiO ["Tree"] "tuple" (mVar 0)))) (mB (mOp fNe (mFn fLen (mCons (mVar 0) mNil)) (mC (.int 2))))) (mRet (mC (.bl false))) mNext) (mRet (mAndV (mCall F_is_int (mCons (mOp fIdx (mVar 0) (mC (.int 0))) mNil)) (mCall F_is_int (mCons (mOp fIdx (mVar 0) (mC (.int 1))) mNil)))))
noncomputable def m_is_road : MS := (mSeq (mIfS (mNot (mB (mCall F_is_int_pair (mCons (mVar 0) mNil)))) (mRet (mC (.bl false))) mNext) (mSeq (mAsg (mVar 0) (gT 2 (gConsM (gN 2) (gConsM (gN 3) gNilM)))) (mRet (mAndV (mChain fLe fLt (mC (.int 0)) (mVar 2) (mVar 1)) (mOp fGe (mVar 3) (mC (.int 1)))))))
noncomputable def m_are_roads : MS := (mSeq (mIfS (mNot (mB (mIsiO ["Tree"] "list" (mVar 0)))) (mRet (mC (.bl false))) mNext) (mRet (mFn fAll (mCons (mLc [1, 2] (mEnum (mC (.int 1)) (mVar 0)) (gT 2 (gConsM (gN 1) (gConsM (gN 2) gNilM))) mYes (mCall F_is_road (mCons (mVar 2) (mCons (mVar 1) mNil)))) mNil))))
noncomputable def b_node_depths_1 : MS := (mDrop (mMeth fAppend (mVar 1) (mCons (mOp fAdd (mOp fIdx (mVar 1) (mVar 2)) (mVar 3)) mNil)))
noncomputable def m_node_depths : MS := (mSeq (mSet 1 (mLst (mCons (mC (.int 0)) mNil))) (mSeq (mFor (mIter (mVar 0)) (gT 2 (gConsM (gN 2) (gConsM (gN 3) gNilM))) b_node_depths_1) (mRet (mVar 1))))
noncomputable def m_Tree_init : MS := (mSeq (mIfS (mNot (mB (mCall F_are_roads (mCons (mVar 1) mNil)))) (mRaise "InvalidTree") mNext) (mSeq (mSetF "Tree" "_roads" (mVar 0) (mLc [2, 3] (mIter (mVar 1)) (gT 2 (gConsM (gN 2) (gConsM (gN 3) gNilM))) mYes (mTup (mCons (mVar 2) (mCons (mVar 3) mNil))))) (mSeq (mSetF "Tree" "_parents" (mVar 0) (mOp fAdd (mLst (mCons (mC (.int 0)) mNil)) (mLc [4] (mIter (mFld "Tree" "_roads" (mVar 0))) (gN 4) mYes (mOp fIdx (mVar 4) (mC (.int 0)))))) (mSeq (mSetF "Tree" "_lengths" (mVar 0) (mOp fAdd (mLst (mCons (mC (.int 1)) mNil)) (mLc [4] (mIter (mFld "Tree" "_roads" (mVar 0))) (gN 4) mYes (mOp fIdx (mVar 4) (mC (.int 1)))))) (mSetF "Tree" "_depths" (mVar 0) (mCall F_node_depths (mCons (mFld "Tree" "_roads" (mVar 0)) mNil)))))))
noncomputable def m_Tree_contains : MS := (mSeq (mIfS (mNot (mB (mCall F_is_int_pair (mCons (mVar 1) mNil)))) (mRet (mC (.bl false))) mNext) (mSeq (mAsg (mVar 1) (gT 2 (gConsM (gN 2) (gConsM (gN 3) gNilM)))) (mSeq (mIfS (mOr (mB (mOp fLt (mVar 2) (mC (.int 0)))) (mB (mOp fGe (mVar 2) (mFn fLen (mCons (mFld "Tree" "_lengths" (mVar 0)) mNil))))) (mRet (mC (.bl false))) mNext) (mRet (mChain fLe fLt (mC (.int 0)) (mVar 3) (mOp fIdx (mFld "Tree" "_lengths" (mVar 0)) (mVar 2)))))))
noncomputable def b_Tree_check_points_1 : MS := (mIfS (mB (mOp (fInO "Tree" true F_Tree_contains) (mVar 2) (mVar 0))) (mRaise "InvalidPoint") mNext)
noncomputable def m_Tree_check_points : MS := (mFor (mIter (mVar 1)) (gN 2) b_Tree_check_points_1)
noncomputable def m_Tree_depth : MS := (mSeq (mAsg (mVar 1) (gT 2 (gConsM (gN 2) (gConsM (gN 3) gNilM)))) (mRet (mOp fSub (mOp fIdx (mFld "Tree" "_depths" (mVar 0)) (mVar 2)) (mVar 3))))
noncomputable def t_Tree_top_1 : MT := (mB (mOp fNe (mVar 3) (mVar 5)))
noncomputable def b_Tree_top_1 : MS := (mIfS (mB (mOp fGt (mVar 3) (mVar 5))) (mPar 3 4 (mOp fIdx (mFld "Tree" "_parents" (mVar 0)) (mVar 3)) (mC (.int 0))) (mPar 5 6 (mOp fIdx (mFld "Tree" "_parents" (mVar 0)) (mVar 5)) (mC (.int 0))))
noncomputable def m_Tree_top : MS := (mSeq (mAsg (mVar 1) (gT 2 (gConsM (gN 3) (gConsM (gN 4) gNilM)))) (mSeq (mAsg (mVar 2) (gT 2 (gConsM (gN 5) (gConsM (gN 6) gNilM)))) (mSeq (mWhile kw t_Tree_top_1 b_Tree_top_1) (mRet (mTup (mCons (mVar 3) (mCons (mFn fMax (mCons (mVar 4) (mCons (mVar 6) mNil))) mNil)))))))
noncomputable def m_Tree_way_length : MS := (mRet (mOp fSub (mOp fAdd (mMethO "Tree" "_depth" F_Tree_depth (mVar 0) (mCons (mVar 1) mNil)) (mMethO "Tree" "_depth" F_Tree_depth (mVar 0) (mCons (mVar 2) mNil))) (mOp fMul (mC (.int 2)) (mMethO "Tree" "_depth" F_Tree_depth (mVar 0) (mCons (mMethO "Tree" "_top" F_Tree_top (mVar 0) (mCons (mVar 1) (mCons (mVar 2) mNil))) mNil)))))
noncomputable def m_Tree_distance : MS := (mSeq (mDrop (mMethO "Tree" "_check_points" F_Tree_check_points (mVar 0) (mCons (mLst (mCons (mVar 1) (mCons (mVar 2) mNil))) mNil))) (mRet (mMethO "Tree" "_way_length" F_Tree_way_length (mVar 0) (mCons (mVar 1) (mCons (mVar 2) mNil)))))
noncomputable def m_Tree_on_way : MS := (mSeq (mDrop (mMethO "Tree" "_check_points" F_Tree_check_points (mVar 0) (mCons (mLst (mCons (mVar 1) (mCons (mVar 2) (mCons (mVar 3) mNil)))) mNil))) (mSeq (mSet 4 (mOp fAdd (mMethO "Tree" "_way_length" F_Tree_way_length (mVar 0) (mCons (mVar 2) (mCons (mVar 1) mNil))) (mMethO "Tree" "_way_length" F_Tree_way_length (mVar 0) (mCons (mVar 1) (mCons (mVar 3) mNil))))) (mRet (mOp fEq (mVar 4) (mMethO "Tree" "_way_length" F_Tree_way_length (mVar 0) (mCons (mVar 2) (mCons (mVar 3) mNil)))))))
noncomputable def t_Tree_climb_1 : MT := (mB (mOp fGe (mVar 4) (mOp fIdx (mFld "Tree" "_lengths" (mVar 0)) (mVar 3))))
noncomputable def b_Tree_climb_1 : MS := (mSeq (mSet 4 (mOp fSub (mVar 4) (mOp fIdx (mFld "Tree" "_lengths" (mVar 0)) (mVar 3)))) (mSet 3 (mOp fIdx (mFld "Tree" "_parents" (mVar 0)) (mVar 3))))
noncomputable def m_Tree_climb : MS := (mSeq (mAsg (mVar 1) (gT 2 (gConsM (gN 3) (gConsM (gN 4) gNilM)))) (mSeq (mSet 4 (mOp fAdd (mVar 4) (mVar 2))) (mSeq (mWhile kw t_Tree_climb_1 b_Tree_climb_1) (mRet (mTup (mCons (mVar 3) (mCons (mVar 4) mNil)))))))
noncomputable def m_Tree_towards : MS := (mSeq (mDrop (mMethO "Tree" "_check_points" F_Tree_check_points (mVar 0) (mCons (mLst (mCons (mVar 1) (mCons (mVar 2) mNil))) mNil))) (mSeq (mSet 4 (mMethO "Tree" "_way_length" F_Tree_way_length (mVar 0) (mCons (mVar 1) (mCons (mVar 2) mNil)))) (mSeq (mIfS (mOr (mNot (mB (mCall F_is_int (mCons (mVar 3) mNil)))) (mOr (mB (mOp fLt (mVar 3) (mC (.int 0)))) (mB (mOp fGt (mVar 3) (mVar 4))))) (mRaise "InvalidPoint") mNext) (mSeq (mIfS (mB (mOp fLe (mVar 3) (mOp fSub (mMethO "Tree" "_depth" F_Tree_depth (mVar 0) (mCons (mVar 1) mNil)) (mMethO "Tree" "_depth" F_Tree_depth (mVar 0) (mCons (mMethO "Tree" "_top" F_Tree_top (mVar 0) (mCons (mVar 1) (mCons (mVar 2) mNil))) mNil))))) (mRet (mMethO "Tree" "_climb" F_Tree_climb (mVar 0) (mCons (mVar 1) (mCons (mVar 3) mNil)))) mNext) (mRet (mMethO "Tree" "_climb" F_Tree_climb (mVar 0) (mCons (mVar 2) (mCons (mOp fSub (mVar 4) (mVar 3)) mNil))))))))
noncomputable def m_Tree_roads : MS := (mRet (mFn fList (mCons (mFld "Tree" "_roads" (mVar 0)) mNil)))
end Lw
set_option maxRecDepth 100000
set_option maxHeartbeats 4000000
namespace Lw
open PySem PySem.Spec PyProof.Rows L2 Dn
theorem okR_get {rs : List (Int × Int)} (h : okR rs) {v : Int} (h1 : 0 < v) (h2 : v ≤ rs.length) : ∃ p, rs[(v - 1).toNat]? = some p ∧ parAt rs v = p.1 ∧ lenAt rs v = p.2 ∧ 0 ≤ p.1 ∧ p.1 < v ∧ 0 < p.2 ∧ p.2 < 1000 := by
  have hl : (v - 1).toNat < rs.length := by omega
  have e : rs[(v - 1).toNat]? = some rs[(v - 1).toNat] := List.getElem?_eq_getElem hl
  have := h.2 _ _ e
  refine ⟨_, e, by unfold parAt; rw [e]; rfl, by unfold lenAt; rw [e]; rfl, this.1.1, by omega, this.2⟩
theorem atI_P {rs : List (Int × Int)} {v : Int} {p : Int × Int} (h1 : 0 < v) (e : rs[(v - 1).toNat]? = some p) : atI (rs.map prD) (v - 1) = some (prD p) := by
  refine atI_nat' (by omega) ?_
  rw [List.getElem?_map, e]
  rfl
@[simp] theorem eqD_pr {s : Sto} {a b c d : Int} : eqD s (.tup [.int a, .int b]) (.tup [.int c, .int d]) = some (a == c && b == d) := by
  simp [eqD, toPy, toPys, SeqAt.shaped, PyData.canLay0, PyData.depth, PyData.eqv, PyData.canLayAll0, PyData.depthAll, PyData.eqvAll]
@[simp] theorem eq_pr {s : Sto} {a b c d : Int} : fEq (.tup [.int a, .int b]) (.tup [.int c, .int d]) s = some (.bl (a == c && b == d), s) := by
  simp [fEq]
theorem atI_neg {α : Type} {xs : List α} {y : α} {ys : List α} {k : Int} (h : k = -((ys.length : Int) + 1)) : atI (xs ++ y :: ys) k = some y := by
  subst h
  rw [atI_at (j := xs.length)]
  · simp
  · unfold ixN
    simp
    have : ¬ (ys.length : Int) + 1 ≤ 0 := by omega
    simp [this]
    omega
@[simp] theorem atI_neg1 {α : Type} {xs : List α} {y : α} : atI (xs ++ [y]) (-1) = some y := atI_neg rfl
@[simp] theorem atI_neg2 {α : Type} {xs : List α} {y z : α} : atI (xs ++ [y, z]) (-2) = some y := atI_neg rfl
@[simp] theorem last_get {α : Type} {xs : List α} {y z : α} : (xs ++ [y, z])[xs.length + 1]? = some z := by
  rw [List.getElem?_append_right (by omega)]
  simp
@[simp] theorem last_drop {α : Type} {xs : List α} {y z : α} : (xs ++ [y, z]).dropLast = xs ++ [y] := by
  rw [List.dropLast_append_of_ne_nil (by simp)]
  rfl
theorem cut_m1 {xs : List D} : Dn.cutD xs none (some (-1)) = xs.dropLast := by
  unfold Dn.cutD
  rw [List.dropLast_eq_take]
  have e : HT.sIx xs.length xs.length (some (-1)) = xs.length - 1 := by
    show (if (-1 : Int) < 0 then (-1 + (xs.length : Int)).toNat else min (-1 : Int).toNat xs.length) = _
    rw [if_pos (by decide)]
    omega
  rw [e, HT.sIx_none]
  simp
theorem wf_map {α : Type} {N : Nat} {f : α → D} (h : ∀ x, wfD N (f x)) : ∀ {xs : List α}, wfD.wfDs N (xs.map f)
  | [] => trivial
  | x :: r => ⟨h x, wf_map h (xs := r)⟩
theorem sum_R : ∀ {rs : List (Int × Int)}, (∀ (i : Nat) (p : Int × Int), rs[i]? = some p → 0 < p.2 ∧ p.2 < 1000) → 0 ≤ (rs.map (·.2)).sum ∧ (rs.map (·.2)).sum ≤ 999 * rs.length
  | [], _ => by simp
  | p :: r, h => by
    have h1 := h 0 p rfl
    have h2 := sum_R (rs := r) fun i q e => h (i + 1) q e
    simp only [List.map_cons, List.sum_cons, List.length_cons]
    push_cast
    omega
theorem okR_sum {rs : List (Int × Int)} (h : okR rs) : 0 ≤ (rs.map (·.2)).sum ∧ (rs.map (·.2)).sum < 40000 := by
  have := sum_R fun i p e => (h.2 i p e).2
  have := h.1
  omega
theorem climbF_len {rs : List (Int × Int)} : ∀ {k : Nat} {p : Int × Int}, (climbF rs k p).length ≤ k
  | 0, _ => by simp [climbF]
  | k + 1, p => by
    unfold climbF
    simp only [List.length_cons]
    split
    · simp
    · split
      · have := climbF_len (rs := rs) (k := k) (p := (parAt rs p.1, 0)); omega
      · have := climbF_len (rs := rs) (k := k) (p := (p.1, p.2 + 1)); omega
theorem strip_len : ∀ (L R : List (Int × Int)), (strip L R).1.length ≤ L.length ∧ (strip L R).2.length ≤ R.length
  | [], R => by simp [strip]
  | [x], R => by simp [strip]
  | x :: y :: L, [] => by simp [strip]
  | x :: y :: L, [u] => by simp [strip]
  | x :: y :: L, u :: v :: R => by
    unfold strip
    split
    · have := strip_len (y :: L) (v :: R)
      simp at this ⊢
      omega
    · simp
theorem way_len {rs : List (Int × Int)} {p q : Int × Int} (c : okR rs) : (way rs p q).length ≤ 80000 := by
  have hl2 := strip_len (climb rs p).reverse (climb rs q).reverse
  have hs := okR_sum c
  have k1 := climbF_len (rs := rs) (k := (1 + (rs.map (·.2)).sum).toNat) (p := p)
  have k2 := climbF_len (rs := rs) (k := (1 + (rs.map (·.2)).sum).toNat) (p := q)
  simp [climb, way] at *
  omega
theorem ne_IR {st : Sto} {a r : Nat} {d : Int} {rs : List (Int × Int)} (h : rdL st a = some [.int d]) (h' : rdL st r = some (rs.map prD)) : a ≠ r := by
  intro z
  subst z
  rw [h] at h'
  cases rs with
  | nil => simp at h'
  | cons p r => simp [prD] at h'
theorem lc_snd {r : Nat} {rs : List (Int × Int)} {s : Sto} {e : En} {i j : Nat} (h : rdL s r = some (rs.map prD)) (hij : i ≠ j) (hj : j < e.length) :
    lcS [(r, rs.map prD)] [i, j] (gT 2 (gConsM (gN i) (gConsM (gN j) gNilM))) mYes (mVar j) e (rs.map prD) [] s = .ok ((rs.map (·.2)).map .int) s := by
  rw [lc_map (fun d => match d with | .tup [_, y] => y | _ => .non) (stays_one h)]
  · simp [prD]
  · intro x hx
    obtain ⟨p, hp, rfl⟩ := List.mem_map.mp hx
    refine ⟨_, by simp [prD]; rfl, ?_⟩
    rw [ev_var, List.getElem?_set_self (by simp [wipeE]; exact hj)]
    rfl
theorem hm_is_int : ∀ ds st0, ds.length = 1 → wfS st0 → wfD.wfDs st0.length ds → Fin st0.length (retR (m_is_int (startE 1 ds) st0)) (F_is_int ds st0) := by
  intro ds st0 hl hw hd
  unfold F_is_int
  split
  · split
    · rename_i x h
      have e : retR (m_is_int (startE 1 [x]) st0) = .ok (.bl (isIntD x)) st0 := by
        cases x with
        | ref n =>
          cases q : st0[n]? with
          | none => simp [knT, tyD, insCls, q] at h
          | some o =>
            cases o with
            | ins c f =>
              simp [knT, tyD, insCls, q] at h
              simp [m_is_int, startE, isiA, tyD, insCls, q, isIntD, h]
            | dk c => simp [m_is_int, startE, isiA, tyD, q, isIntD]
            | dt c => simp [m_is_int, startE, isiA, tyD, q, isIntD]
            | ex c => simp [knT, tyD, insCls, q] at h
            | lst xs => simp [m_is_int, startE, isiA, tyD, q, isIntD]
        | _ => simp [m_is_int, startE, isiA, tyD, isIntD]
      rw [e]
      exact fin_same (by simp) (wfS_N hw) trivial
    · exact fin_bad
  · exact fin_bad
theorem hm_is_int_pair : ∀ ds st0, ds.length = 1 → wfS st0 → wfD.wfDs st0.length ds → Fin st0.length (retR (m_is_int_pair (startE 1 ds) st0)) (F_is_int_pair ds st0) := by
  intro ds st0 hl hw hd
  unfold F_is_int_pair
  split
  · split
    · rename_i x h
      have e : retR (m_is_int_pair (startE 1 [x]) st0) = .ok (.bl (isPrD x)) st0 := by
        cases x with
        | ref n =>
          cases q : st0[n]? with
          | none => simp [okTy, knT, tyD, insCls, q] at h
          | some o =>
            cases o with
            | ins c f =>
              simp [okTy, knT, tyD, insCls, q] at h
              simp [m_is_int_pair, startE, isiA, tyD, insCls, q, isPrD, h]
            | dk c => simp [m_is_int_pair, startE, isiA, tyD, q, isPrD]
            | dt c => simp [m_is_int_pair, startE, isiA, tyD, q, isPrD]
            | ex c => simp [okTy, knT, tyD, insCls, q] at h
            | lst xs => simp [m_is_int_pair, startE, isiA, tyD, q, isPrD]
        | tup ds =>
          match ds, h with
          | [], _ => simp [m_is_int_pair, startE, isiA, tyD, isPrD, fNe]
          | [a], _ => simp [m_is_int_pair, startE, isiA, tyD, isPrD, fNe]
          | [a, b], h =>
            simp only [okTy, Bool.and_eq_true] at h
            have ht : tyD st0 (.tup [a, b]) = some "tuple" := rfl
            cases a <;> cases b <;> simp [m_is_int_pair, startE, isiA, ht, isPrD, fNe, F_is_int, isIntD, h.1, h.2]
          | a :: b :: c :: r, _ =>
            have : ¬ ((r.length : Int) + 1 + 1 + 1 = 2) := by omega
            simp [m_is_int_pair, startE, isiA, tyD, isPrD, fNe, this]
        | _ => simp [m_is_int_pair, startE, isiA, tyD, isPrD]
      rw [e]
      exact fin_same (by simp) (wfS_N hw) trivial
    · exact fin_bad
  · exact fin_bad
@[simp] theorem okTy_pr {st : Sto} {p : Int × Int} : okTy st (prD p) = true := rfl
@[simp] theorem isPr_pr {p : Int × Int} : isPrD (prD p) = true := rfl
theorem isPr_unP {x : D} : isPrD x = (unP x).isSome := by
  unfold isPrD unP
  split <;> simp
theorem hm_is_road : ∀ ds st0, ds.length = 2 → wfS st0 → wfD.wfDs st0.length ds → Fin st0.length (retR (m_is_road (startE 4 ds) st0)) (F_is_road ds st0) := by
  intro ds st0 hl hw hd
  unfold F_is_road
  split
  · split
    · rename_i x node _ p h
      have h := unP_some h
      subst h
      have e : retR (m_is_road (startE 4 [prD p, .int node]) st0) = .ok (.bl (isRoad node p)) st0 := by
        by_cases q : 0 ≤ p.1 <;> by_cases q2 : p.1 < node <;> simp [m_is_road, startE, F_is_int_pair] <;> simp [prD, isRoad, q, q2]
      rw [e]
      exact fin_same (by simp) (wfS_N hw) trivial
    · rename_i x node _ h
      split
      · rename_i k
        have e : retR (m_is_road (startE 4 [x, .int node]) st0) = .ok (.bl false) st0 := by
          simp [m_is_road, startE, F_is_int_pair, k, isPr_unP, h]
        rw [e]
        exact fin_same (by simp) (wfS_N hw) trivial
      · exact fin_bad
  · exact fin_bad
def roadsB : Int → List D → List Bool
  | _, [] => []
  | k, x :: r => (match unP x with | some p => isRoad k p | none => false) :: roadsB (k + 1) r
theorem enum_lc {r : Nat} {rs : List D} {s : Sto} {x : Option D} : ∀ (k : Int) (qs : List D) (acc : List D), rdL s r = some rs → (∀ q ∈ qs, okTy s q = true) →
    lcS [(r, rs)] [1, 2] (gT 2 (gConsM (gN 1) (gConsM (gN 2) gNilM))) mYes (mCall F_is_road (mCons (mVar 2) (mCons (mVar 1) mNil))) [x, none, none] (enumD k qs) acc s = .ok (acc ++ (roadsB k qs).map .bl) s
  | k, [], acc, h, _ => by
    simp [enumD, roadsB]
    exact lc_nil (stays_one h)
  | k, q :: qs, acc, h, ho => by
    simp only [enumD]
    rw [lc_cons (stays_one h)]
    have hq := ho q (by simp)
    cases e : unP q <;> simp [wipeE, F_is_road, roadsB, e, hq] <;> rw [enum_lc (k + 1) qs _ h fun q hq => ho q (by simp [hq])] <;> simp
theorem roadsB_all : ∀ (k : Int) (qs : List D), (roadsB k qs).all id = areRoadsD k qs
  | _, [] => rfl
  | k, q :: qs => by
    simp only [roadsB, areRoadsD, List.all_cons, roadsB_all (k + 1) qs]
    rfl
theorem hm_are_roads : ∀ ds st0, ds.length = 1 → wfS st0 → wfD.wfDs st0.length ds → Fin st0.length (retR (m_are_roads (startE 3 ds) st0)) (F_are_roads ds st0) := by
  intro ds st0 hl hw hd
  unfold F_are_roads
  split
  · rename_i x
    split
    · rename_i xs h
      split
      · rename_i c
        obtain ⟨n, rfl⟩ : ∃ n, x = .ref n := by
          cases x with
          | ref n => exact ⟨n, rfl⟩
          | _ => simp [rdL] at h
        have t : st0[n]? = some (.lst xs) := rdL_some h
        have b1 : xs.length ≤ 100000 := by omega
        have ha : ∀ q ∈ xs, okTy st0 q = true := fun q hq => List.all_eq_true.mp c.2 q hq
        simp only [] at h
        have e : retR (m_are_roads (startE 3 [.ref n]) st0) = .ok (.bl (areRoadsD 1 xs)) (st0 ++ [.lst ((roadsB 1 xs).map .bl)]) := by
          simp [m_are_roads, startE, isiA, tyD, t, mEnum, h, enumD_length, b1, enum_lc 1 xs [] h ha, rdL_append, roadsB_all]
        rw [e]
        exact fin_drop rfl (by simp) (wfS_N hw) trivial
      · exact fin_bad
    · split
      · rename_i h c
        have e : retR (m_are_roads (startE 3 [x]) st0) = .ok (.bl false) st0 := by
          cases x with
          | ref n =>
            cases q : st0[n]? with
            | none => simp [knT, tyD, insCls, q] at c
            | some o =>
              cases o with
              | ins cc ff =>
                simp [knT, tyD, insCls, q] at c
                simp [m_are_roads, startE, isiA, tyD, insCls, q, c]
              | ex cc => simp [knT, tyD, insCls, q] at c
              | _ => simp [m_are_roads, startE, isiA, tyD, q] at c ⊢
          | _ => simp [m_are_roads, startE, isiA, tyD] at c ⊢
        rw [e]
        exact fin_same (by simp) (wfS_N hw) trivial
      · exact fin_bad
  · exact fin_bad
theorem areRoadsD_map : ∀ (k : Int) (rs : List (Int × Int)), areRoadsD k (rs.map prD) = areRoads k rs
  | _, [] => rfl
  | k, p :: r => by simp [areRoadsD, areRoads, areRoadsD_map (k + 1) r]
theorem okTy_map {st : Sto} {rs : List (Int × Int)} : (rs.map prD).all (okTy st) = true := by
  rw [List.all_eq_true]
  intro x hx
  obtain ⟨p, _, rfl⟩ := List.mem_map.mp hx
  rfl
theorem are_map {st : Sto} {n : Nat} {rs : List (Int × Int)} (h : rdL st n = some (rs.map prD)) (hl : rs.length < 1000) : F_are_roads [.ref n] st = .ok (.bl (areRoads 1 rs)) st := by
  simp [F_are_roads, h, hl, areRoadsD_map]
theorem atI_I {xs : List Int} {v : Int} (h0 : 0 ≤ v) (h1 : v < xs.length) : atI (xs.map D.int) v = some (.int (xs[v.toNat]?.getD 0)) := by
  refine atI_nat' h0 ?_
  have hl : v.toNat < xs.length := by omega
  rw [List.getElem?_map, List.getElem?_eq_getElem hl]
  rfl
theorem dep_loop {r : Nat} {rs : List (Int × Int)} {st0 : Sto} (h : rdL st0 r = some (rs.map prD)) : ∀ (qs : List (Int × Int)) (acc : List Int) (x y : Option D), (∀ (i : Nat) (p : Int × Int), qs[i]? = some p → 0 ≤ p.1 ∧ p.1 < acc.length + i) → acc.length + qs.length < 90000 →
    ∃ x' y', forS [(r, rs.map prD)] (gT 2 (gConsM (gN 2) (gConsM (gN 3) gNilM))) b_node_depths_1 (qs.map prD) [some (.ref r), some (.ref st0.length), x, y] (st0 ++ [.lst (acc.map .int)]) = .nx [some (.ref r), some (.ref st0.length), x', y'] (st0 ++ [.lst ((depF acc qs).map .int)]) := by
  have lr := rdL_lt h
  intro qs
  induction qs with
  | nil =>
    intro acc x y _ _
    exact ⟨x, y, by simp only [List.map_nil, depF]; rw [for_nil (stays_one (by simp [rdL_append, lr, h]))]⟩
  | cons q qs ih =>
    intro acc x y hq hl
    have q0 := hq 0 q rfl
    obtain ⟨x', y', e⟩ := ih (acc ++ [acc[q.1.toNat]?.getD 0 + q.2]) (some (.int q.1)) (some (.int q.2)) (fun i p hp => by have := hq (i + 1) p hp; simp; omega) (by simp at hl ⊢; omega)
    refine ⟨x', y', ?_⟩
    have w : acc.length < 100000 := by omega
    have a1 := atI_I q0.1 (by simpa using q0.2)
    rw [List.map_cons, for_cons (stays_one (by simp [rdL_append, lr, h]))]
    simp [b_node_depths_1, prD, rdL_append, a1, w, depF] at e ⊢
    exact e
theorem depF_len : ∀ (qs : List (Int × Int)) (acc : List Int), (depF acc qs).length = acc.length + qs.length
  | [], acc => rfl
  | q :: qs, acc => by unfold depF; rw [depF_len]; simp; omega
theorem hm_node_depths : ∀ ds st0, ds.length = 1 → wfS st0 → wfD.wfDs st0.length ds → Fin st0.length (retR (m_node_depths (startE 4 ds) st0)) (F_node_depths ds st0) := by
  intro ds st0 hl hw hd
  unfold F_node_depths
  split
  · split
    · split
      · rename_i r _ rs h c
        have h := rdR_some h
        have lr := rdL_lt h
        obtain ⟨x', y', e⟩ := dep_loop h rs [0] none none (fun i p hp => by have := c.2 i p hp; simp; omega) (by have := c.1; simp; omega)
        have e : retR (m_node_depths (startE 4 [.ref r]) st0) = .ok (.ref st0.length) (st0 ++ [.lst ((depL rs).map .int)]) := by
          simp at e
          simp [m_node_depths, startE, rdL_append, lr, h, e, depL]
        rw [e]
        exact fin_new (t := st0) (m := 0) rfl rfl (wfS_N hw) (wf_map (f := D.int) fun p => trivial) rfl rfl
      · exact fin_bad
    · exact fin_bad
  · exact fin_bad
theorem areRoads_ok : ∀ (rs : List (Int × Int)) (k : Int), (∀ (i : Nat) (p : Int × Int), rs[i]? = some p → (0 ≤ p.1 ∧ p.1 < k + (i : Int)) ∧ 0 < p.2) → areRoads k rs = true
  | [], _, _ => rfl
  | q :: rs, k, h => by
    have q0 := h 0 q rfl
    simp at q0
    have := areRoads_ok rs (k + 1) fun i p e => by have := h (i + 1) p e; simp at this; omega
    simp only [areRoads, this, Bool.and_true]
    simp [isRoad]
    omega
theorem insOf_ref {s : Sto} {c : Str} {n : Nat} {fs : List (Str × D)} (h : s[n]? = some (.ins c fs)) : insOf s c (.ref n) = some (n, fs) := by
  unfold insOf
  simp [h]
theorem lc_id {r : Nat} {rs : List (Int × Int)} {s : Sto} {e : En} {i j : Nat} (h : rdL s r = some (rs.map prD)) (hij : i ≠ j) (hi : i < e.length) (hj : j < e.length) :
    lcS [(r, rs.map prD)] [i, j] (gT 2 (gConsM (gN i) (gConsM (gN j) gNilM))) mYes (mTup (mCons (mVar i) (mCons (mVar j) mNil))) e (rs.map prD) [] s = .ok (rs.map prD) s := by
  rw [lc_map (fun d => d) (stays_one h)]
  · simp
  · intro x hx
    obtain ⟨p, hp, rfl⟩ := List.mem_map.mp hx
    refine ⟨_, by simp [prD]; rfl, ?_⟩
    rw [ev_tup, ev_cons, ev_var, List.getElem?_set_ne (Ne.symm hij), List.getElem?_set_self (by simp [wipeE]; exact hi)]
    simp only [bind_ok]
    rw [ev_cons, ev_var, List.getElem?_set_self (by simp [wipeE]; exact hj)]
    simp [prD]
theorem lc_at {r : Nat} {rs : List (Int × Int)} {s : Sto} {e : En} {i : Nat} (h : rdL s r = some (rs.map prD)) (hi : i < e.length) :
    lcS [(r, rs.map prD)] [i] (gN i) mYes (mOp fIdx (mVar i) (mC (.int 0))) e (rs.map prD) [] s = .ok ((rs.map (·.1)).map .int) s ∧
    lcS [(r, rs.map prD)] [i] (gN i) mYes (mOp fIdx (mVar i) (mC (.int 1))) e (rs.map prD) [] s = .ok ((rs.map (·.2)).map .int) s := by
  constructor
  · rw [lc_map (fun d => match d with | .tup [x, _] => x | _ => .non) (stays_one h)]
    · simp [prD]
    · intro x hx
      obtain ⟨p, hp, rfl⟩ := List.mem_map.mp hx
      refine ⟨_, by simp [prD]; rfl, ?_⟩
      rw [ev_op, ev_var, List.getElem?_set_self (by simp [wipeE]; exact hi)]
      simp [prD]
  · rw [lc_map (fun d => match d with | .tup [_, x] => x | _ => .non) (stays_one h)]
    · simp [prD]
    · intro x hx
      obtain ⟨p, hp, rfl⟩ := List.mem_map.mp hx
      refine ⟨_, by simp [prD]; rfl, ?_⟩
      rw [ev_op, ev_var, List.getElem?_set_self (by simp [wipeE]; exact hi)]
      simp [prD]
theorem lc_at0 {r : Nat} {rs : List (Int × Int)} {s : Sto} {e : En} {i : Nat} (h : rdL s r = some (rs.map prD)) (hi : i < e.length) :
    lcS [(r, rs.map prD)] [i] (gN i) mYes (mOp fIdx (mVar i) (mC (.int 0))) e (rs.map prD) [] s = .ok ((rs.map (·.1)).map .int) s := (lc_at h hi).1
theorem lc_at1 {r : Nat} {rs : List (Int × Int)} {s : Sto} {e : En} {i : Nat} (h : rdL s r = some (rs.map prD)) (hi : i < e.length) :
    lcS [(r, rs.map prD)] [i] (gN i) mYes (mOp fIdx (mVar i) (mC (.int 1))) e (rs.map prD) [] s = .ok ((rs.map (·.2)).map .int) s := (lc_at h hi).2
theorem wf_intL {N : Nat} {xs : List Int} : wfD.wfDs N (xs.map D.int) := wf_ints
theorem treeL_wf {N : Nat} {rs : List (Int × Int)} : wfN N (treeL rs) := by
  intro o ho
  simp [treeL, -List.map_map] at ho
  rcases ho with rfl | rfl | rfl | rfl | rfl | rfl | rfl | rfl
  · exact wf_prs
  · exact ⟨trivial, trivial⟩
  · exact wf_ints
  · exact wf_ints
  · exact ⟨trivial, trivial⟩
  · exact wf_ints
  · exact wf_ints
  · exact wf_ints
theorem hm_Tree_init : ∀ ds st0, ds.length = 2 → wfS st0 → wfD.wfDs st0.length ds → Fin st0.length (retR (m_Tree_init (startE 5 ds) st0)) (F_Tree_init ds st0) := by
  intro ds st0 hl hw hd
  unfold F_Tree_init
  split
  · split
    · split
      · rename_i n m _ rs h c
        have h := rdR_some h
        have lm := rdL_lt h
        obtain ⟨c, hn⟩ := c
        have ln : n < st0.length := (List.getElem?_eq_some_iff.mp hn).1
        have hmn : n ≠ m := by
          intro z
          subst z
          rw [rdL_some h] at hn
          cases hn
        have a1 : areRoads 1 rs = true := areRoads_ok rs 1 fun i p e => by have := c.2 i p e; omega
        have b0 : rs.length < 1000 := by have := c.1; omega
        have b1 : rs.length ≤ 100000 := by omega
        have b2 : 1 + rs.length ≤ 100000 := by omega
        have e : retR (m_Tree_init (startE 5 [.ref n, .ref m]) st0) = .ok .non (st0.set n (.ins "Tree" (treeF st0.length)) ++ treeL rs) := by
          simp [m_Tree_init, startE, are_map (rs := rs), rdR_of, rdR, rdL_append, h, b0, b1, a1, lc_id h, insOf_get, obj_append, obj_set, ln, obj_of hn, putD, List.set_append, rdL_append, rdL_set, lm, hmn, List.lookup, lc_at0, lc_at1, F_node_depths, c, b2, treeL, treeF, parL, lenL, -List.map_map]
        rw [e]
        refine fin_same (by simp) (wfN_app (wfN_set (wfN_mono (by simp) (wfS_N hw)) ?_) treeL_wf) trivial
        simp [wfO, wfF, treeF, wfD, treeL]
      · exact fin_bad
    · exact fin_bad
  · exact fin_bad
theorem IsT.app {st g : Sto} {n : Nat} {rs : List (Int × Int)} (T : IsT st n rs) : IsT (st ++ g) n rs := by
  obtain ⟨m, e1, e2, e3, e4, e5⟩ := T.ex
  exact ⟨T.ok, m, by rw [List.getElem?_append_left (List.getElem?_eq_some_iff.mp e1).1]; exact e1, rdL_app' e2, rdL_app' e3, rdL_app' e4, rdL_app' e5⟩
theorem rdT_app {st g : Sto} {n : Nat} {rs : List (Int × Int)} (T : IsT st n rs) : rdT (st ++ g) (.ref n) = some rs := rdT_of T.app
theorem stays_iff {s : Sto} {n : Nat} {xs : List D} : Stays [(n, xs)] s ↔ rdL s n = some xs := ⟨fun h => h (n, xs) (by simp), stays_one⟩
theorem ptD_pr {rs : List (Int × Int)} {p : Int × Int} : (ptD rs (prD p)).isSome = isPt rs p := by
  cases h : isPt rs p <;> simp [ptD, h]
theorem hm_Tree_contains : ∀ ds st0, ds.length = 2 → wfS st0 → wfD.wfDs st0.length ds → Fin st0.length (retR (m_Tree_contains (startE 4 ds) st0)) (F_Tree_contains ds st0) := by
  intro ds st0 hl hw hd
  unfold F_Tree_contains
  split
  · split
    · rename_i t x _ rs ht
      split
      · rename_i hk
        obtain ⟨n, rfl, T⟩ := rdT_some ht
        obtain ⟨m, e1, e2, e3, e4, e5⟩ := T.ex
        have o1 := obj_of e1
        have b0 : (lenL rs).length = rs.length + 1 := by simp [lenL]
        have e : retR (m_Tree_contains (startE 4 [.ref n, x]) st0) = .ok (.bl (ptD rs x).isSome) st0 := by
          cases hx : unP x with
          | none => simp [m_Tree_contains, startE, F_is_int_pair, hk, isPr_unP, hx, ptD]
          | some p =>
            have hx := unP_some hx
            subst hx
            rw [ptD_pr]
            by_cases q1 : p.1 < 0
            · have q1' : ¬ 0 ≤ p.1 := by omega
              simp [m_Tree_contains, startE, F_is_int_pair, insOf_get, o1, treeF, List.lookup, e4, q1, q1', isPt, b0]
              simp [prD, q1, q1']
            · have q1' : 0 ≤ p.1 := by omega
              by_cases q2 : (rs.length : Int) < p.1
              · have q2' : ¬ p.1 ≤ (rs.length : Int) := by omega
                have q2'' : (rs.length : Int) + 1 ≤ p.1 := by omega
                simp [m_Tree_contains, startE, F_is_int_pair]
                simp [prD, insOf_get, o1, treeF, List.lookup, e4, q1, q1', q2', q2'', isPt, b0]
              · have q2' : p.1 ≤ (rs.length : Int) := by omega
                have q2'' : ¬ (rs.length : Int) + 1 ≤ p.1 := by omega
                have a1 := atI_I (xs := lenL rs) q1' (by omega)
                by_cases q3 : 0 ≤ p.2
                · simp [m_Tree_contains, startE, F_is_int_pair]
                  simp [prD, insOf_get, o1, treeF, List.lookup, e4, q1, q1', q2', q2'', isPt, b0, a1, q3]
                · simp [m_Tree_contains, startE, F_is_int_pair]
                  simp [prD, insOf_get, o1, treeF, List.lookup, e4, q1, q1', q2', q2'', isPt, b0, a1, q3]
        rw [e]
        exact fin_same (by simp) (wfS_N hw) trivial
      · exact fin_bad
    · exact fin_bad
  · exact fin_bad
theorem hm_Tree_depth : ∀ ds st0, ds.length = 2 → wfS st0 → wfD.wfDs st0.length ds → Fin st0.length (retR (m_Tree_depth (startE 4 ds) st0)) (F_Tree_depth ds st0) := by
  intro ds st0 hl hw hd
  unfold F_Tree_depth
  split
  · split
    · split
      · rename_i t x _ _ rs p ht hx c
        obtain ⟨n, rfl, T⟩ := rdT_some ht
        have hx := unP_some hx
        subst hx
        obtain ⟨m, e1, e2, e3, e4, e5⟩ := T.ex
        have o1 := obj_of e1
        have b0 : (depL rs).length = 1 + rs.length := by rw [depL, depF_len]; rfl
        have a1 := atI_I (xs := depL rs) c.1 (by have := c.2; omega)
        have e : retR (m_Tree_depth (startE 4 [.ref n, prD p]) st0) = .ok (.int (depAt rs p)) st0 := by
          simp [m_Tree_depth, startE, prD, insOf_get, o1, treeF, List.lookup, e5, a1, depAt]
        rw [e]
        exact fin_same (by simp) (wfS_N hw) trivial
      · exact fin_bad
    · exact fin_bad
  · exact fin_bad
theorem par_at {rs : List (Int × Int)} (c : okR rs) {v : Int} (h0 : 0 < v) (h1 : v ≤ rs.length) : atI ((parL rs).map D.int) v = some (.int (parAt rs v)) ∧ 0 ≤ parAt rs v ∧ parAt rs v < v := by
  obtain ⟨p, g1, g2, g3, p0, p1, l0, l1⟩ := okR_get c h0 h1
  refine ⟨?_, by omega, by omega⟩
  rw [atI_I (by omega) (by simp [parL]; omega)]
  congr 2
  unfold parL
  rw [show v.toNat = (v - 1).toNat + 1 by omega, List.getElem?_cons_succ, List.getElem?_map, g1, g2]
  rfl
theorem len_at {rs : List (Int × Int)} (c : okR rs) {v : Int} (h0 : 0 < v) (h1 : v ≤ rs.length) : atI ((lenL rs).map D.int) v = some (.int (lenAt rs v)) ∧ 0 < lenAt rs v := by
  obtain ⟨p, g1, g2, g3, p0, p1, l0, l1⟩ := okR_get c h0 h1
  refine ⟨?_, by omega⟩
  rw [atI_I (by omega) (by simp [lenL]; omega)]
  congr 2
  unfold lenL
  rw [show v.toNat = (v - 1).toNat + 1 by omega, List.getElem?_cons_succ, List.getElem?_map, g1, g3]
  rfl
/-- the greater node goes up -/
theorem topN_up {rs : List (Int × Int)} (c : okR rs) {p q : Int × Int} (hp : inR rs p) (hq : inR rs q) (h : q.1 < p.1) : topN rs p q = topN rs (parAt rs p.1, 0) q ∧ topN rs p q ≠ p.1 := by
  have hp1 := hp.1
  have hp2 := hp.2
  have hq1 := hq.1
  have k := okR_at c (v := p.1) (by omega) hp2
  have e := line_rec c (v := p.1) (by omega) hp2
  have no : (line rs q.1).contains p.1 = false := by
    rw [Bool.eq_false_iff]
    intro z
    have := line_mem c hq1 hq.2 (List.contains_iff_mem.mp z)
    omega
  constructor
  · unfold topN
    rw [e, List.filter_cons, no]
    rfl
  · intro z
    have t := (topN_ok c hp hq).2.1
    rw [z] at t
    have := line_mem c hq1 hq.2 t
    omega
theorem topN_sym {rs : List (Int × Int)} (c : okR rs) {p q : Int × Int} (hp : inR rs p) (hq : inR rs q) : topN rs p q = topN rs q p := by
  have a := topN_ok c hp hq
  have b := topN_ok c hq hp
  have lo := line_mem c hp.1 hp.2 a.1
  have lo2 := line_mem c hq.1 hq.2 b.1
  have hp2 := hp.2
  have hq2 := hq.2
  have x := line_mem c (v := topN rs p q) (by omega) (by omega) (a.2.2 _ b.2.1 b.1)
  have y := line_mem c (v := topN rs q p) (by omega) (by omega) (b.2.2 _ a.2.1 a.1)
  omega
theorem topN_same {rs : List (Int × Int)} (c : okR rs) {v u w : Int} (h0 : 0 ≤ v) (h1 : v ≤ rs.length) : topN rs (v, u) (v, w) = v := by
  have s := line_self c h0 h1
  unfold topN
  by_cases q : v = 0
  · subst q
    simp [line_zero0]
  · rw [line_rec c (by omega) h1] at s ⊢
    simp
/-- the loop that finds the top -/
theorem top_loop {n : Nat} {rs : List (Int × Int)} {st0 : Sto} {x1 x2 : Option D} (T : IsT st0 n rs) : ∀ (j k : Nat) (a u b w : Int), (0 ≤ a ∧ a ≤ (rs.length : Int)) → (0 ≤ b ∧ b ≤ (rs.length : Int)) → 0 ≤ u → 0 ≤ w → a.toNat + b.toNat ≤ j → j ≤ k →
    ∃ a' u' b' w', mWhile (k + 1) t_Tree_top_1 b_Tree_top_1 [some (.ref n), x1, x2, some (.int a), some (.int u), some (.int b), some (.int w)] st0 = .nx [some (.ref n), x1, x2, some (.int a'), some (.int u'), some (.int b'), some (.int w')] st0 ∧ (a', if u' < w' then w' else u') = top rs (a, u) (b, w) := by
  obtain ⟨m, e1, e2, e3, e4, e5⟩ := T.ex
  have o1 := obj_of e1
  have fin : ∀ (k : Nat) (a u w : Int), 0 ≤ a → a ≤ (rs.length : Int) → 0 ≤ u → 0 ≤ w → mWhile (k + 1) t_Tree_top_1 b_Tree_top_1 [some (.ref n), x1, x2, some (.int a), some (.int u), some (.int a), some (.int w)] st0 = .nx [some (.ref n), x1, x2, some (.int a), some (.int u), some (.int a), some (.int w)] st0 ∧ (a, if u < w then w else u) = top rs (a, u) (a, w) := by
    intro k a u w h0 h1 hu hw
    constructor
    · rw [ev_while]
      simp [t_Tree_top_1]
    · have e := topN_same T.ok (u := u) (w := w) h0 h1
      have e2 := topU_eq (rs := rs) (p := (a, u)) (q := (a, w)) hu hw
      unfold top
      rw [e2, e]
      simp only [if_true]
      congr 1
      split <;> omega
  intro j
  induction j with
  | zero =>
    intro k a u b w ha hb hu hw h1 h2
    have : b = a := by omega
    subst this
    exact ⟨_, _, _, _, fin k b u w ha.1 ha.2 hu hw⟩
  | succ j ih =>
    intro k a u b w ha hb hu hw h1 h2
    by_cases q : a = b
    · subst q
      exact ⟨_, _, _, _, fin k a u w ha.1 ha.2 hu hw⟩
    · obtain ⟨k, rfl⟩ : ∃ k', k = k' + 1 := ⟨k - 1, by omega⟩
      by_cases q2 : b < a
      · obtain ⟨a1, p0, p1⟩ := par_at T.ok (v := a) (by omega) ha.2
        obtain ⟨a', u', b', w', e, r⟩ := ih k (parAt rs a) 0 b w ⟨p0, by omega⟩ hb (by omega) hw (by omega) (by omega)
        refine ⟨a', u', b', w', ?_, ?_⟩
        · rw [ev_while]
          simp [t_Tree_top_1, b_Tree_top_1, q, q2, insOf_get, o1, treeF, List.lookup, e3, a1] at e ⊢
          exact e
        · rw [r]
          have t := topN_up T.ok (p := (a, u)) (q := (b, w)) ha hb q2
          have e1 := topU_eq (rs := rs) (p := (a, u)) (q := (b, w)) hu hw
          have e2 := topU_eq (rs := rs) (p := (parAt rs a, 0)) (q := (b, w)) (by simp) hw
          unfold top
          rw [e1, e2, ← t.1]
          simp only [if_neg (Ne.symm t.2)]
          congr 1
          simp
      · obtain ⟨a1, p0, p1⟩ := par_at T.ok (v := b) (by omega) hb.2
        obtain ⟨a', u', b', w', e, r⟩ := ih k a u (parAt rs b) 0 ha ⟨p0, by omega⟩ hu (by omega) (by omega) (by omega)
        refine ⟨a', u', b', w', ?_, ?_⟩
        · rw [ev_while]
          simp [t_Tree_top_1, b_Tree_top_1, q, q2, insOf_get, o1, treeF, List.lookup, e3, a1] at e ⊢
          exact e
        · rw [r]
          have hb' : inR rs (parAt rs b, 0) := ⟨p0, by show parAt rs b ≤ _; omega⟩
          have t := topN_up T.ok (p := (b, w)) (q := (a, u)) hb ha (by show a < b; omega)
          have s1 := topN_sym T.ok (p := (a, u)) (q := (b, w)) ha hb
          have s2 := topN_sym T.ok (p := (a, u)) (q := (parAt rs b, 0)) ha hb'
          have e1 := topU_eq (rs := rs) (p := (a, u)) (q := (b, w)) hu hw
          have e2 := topU_eq (rs := rs) (p := (a, u)) (q := (parAt rs b, 0)) hu (by simp)
          unfold top
          rw [e1, e2, s2, s1, ← t.1]
          simp only [if_neg (Ne.symm t.2)]
          congr 1
          simp
theorem hm_Tree_top : ∀ ds st0, ds.length = 3 → wfS st0 → wfD.wfDs st0.length ds → Fin st0.length (retR (m_Tree_top (startE 7 ds) st0)) (F_Tree_top ds st0) := by
  intro ds st0 hl hw hd
  unfold F_Tree_top
  split
  · split
    · split
      · rename_i t x y _ _ _ rs p q ht hx hy c
        obtain ⟨n, rfl, T⟩ := rdT_some ht
        have hx := unP_some hx
        have hy := unP_some hy
        subst hx hy
        obtain ⟨⟨hp, hq⟩, up, uq⟩ := c
        have hr := T.ok.1
        have hp1 := hp.1
        have hp2 := hp.2
        have hq1 := hq.1
        have hq2 := hq.2
        obtain ⟨a', u', b', w', e1, r⟩ := top_loop (x1 := some (prD p)) (x2 := some (prD q)) T (p.1.toNat + q.1.toNat) 999999 p.1 p.2 q.1 q.2 hp hq up uq (Nat.le_refl _) (by omega)
        have e : retR (m_Tree_top (startE 7 [.ref n, prD p, prD q]) st0) = .ok (prD (top rs p q)) st0 := by
          rw [show (999999 + 1 : Nat) = kw from rfl] at e1
          rw [← r]
          simp [m_Tree_top, startE, prD] at e1 ⊢
          simp [e1]
        rw [e]
        exact fin_same (by simp) (wfS_N hw) ⟨trivial, trivial, trivial⟩
      · exact fin_bad
    · exact fin_bad
  · exact fin_bad
end Lw
set_option maxRecDepth 100000
set_option maxHeartbeats 4000000
namespace Lw
open PySem PySem.Spec PyProof.Rows L2 Dn
theorem tyD_app {st g : Sto} {x : D} (h : (tyD st x).isSome = true) : tyD (st ++ g) x = tyD st x := by
  cases x with
  | ref n =>
    unfold tyD at h ⊢
    simp only at h ⊢
    by_cases q : n < st.length
    · rw [List.getElem?_append_left q]
    · rw [List.getElem?_eq_none (by omega)] at h
      simp at h
  | _ => rfl
theorem insCls_app {st g : Sto} {x : D} {c : Str} (h : insCls st x = some c) : insCls (st ++ g) x = some c := by
  cases x with
  | ref n =>
    unfold insCls at h ⊢
    simp only at h ⊢
    by_cases q : n < st.length
    · rw [List.getElem?_append_left q]
      exact h
    · rw [List.getElem?_eq_none (by omega)] at h
      simp at h
  | _ => cases h
theorem knT_app {st g : Sto} {x : D} (h : knT st x = true) : knT (st ++ g) x = true := by
  unfold knT at h ⊢
  rw [Bool.or_eq_true] at h ⊢
  rcases h with h | h
  · left
    rw [tyD_app h]
    exact h
  · right
    have h : insCls st x = some "Tree" := by simpa using h
    rw [insCls_app h]
    simp
theorem okTy_app {st g : Sto} {x : D} (h : okTy st x = true) : okTy (st ++ g) x = true := by
  unfold okTy at h ⊢
  split
  · simp only [Bool.and_eq_true] at h ⊢
    exact ⟨knT_app h.1, knT_app h.2⟩
  · rename_i q
    split at h
    · rename_i a b
      exact absurd rfl (q a b)
    · exact knT_app h
theorem hm_Tree_way_length : ∀ ds st0, ds.length = 3 → wfS st0 → wfD.wfDs st0.length ds → Fin st0.length (retR (m_Tree_way_length (startE 3 ds) st0)) (F_Tree_way_length ds st0) := by
  intro ds st0 hl hw hd
  unfold F_Tree_way_length
  split
  · split
    · split
      · rename_i t x y _ _ _ rs p q ht hx hy c
        obtain ⟨n, rfl, T⟩ := rdT_some ht
        have hx := unP_some hx
        have hy := unP_some hy
        subst hx hy
        obtain ⟨m, e1, e2, e3, e4, e5⟩ := T.ex
        have o1 := obj_of e1
        have ct := top_in T.ok c.1.1 c.1.2
        have e : retR (m_Tree_way_length (startE 3 [.ref n, prD p, prD q]) st0) = .ok (.int (wayLen rs p q)) st0 := by
          simp [m_Tree_way_length, startE, insOf_get, o1, treeF, List.lookup, F_Tree_depth, F_Tree_top, ht, c, ct, wayLen]
        rw [e]
        exact fin_same (by simp) (wfS_N hw) trivial
      · exact fin_bad
    · exact fin_bad
  · exact fin_bad
theorem hm_Tree_check_points : ∀ ds st0, ds.length = 2 → wfS st0 → wfD.wfDs st0.length ds → Fin st0.length (retR (m_Tree_check_points (startE 3 ds) st0)) (F_Tree_check_points ds st0) := by
  intro ds st0 hl hw hd
  unfold F_Tree_check_points
  split
  · split
    · rename_i t v _ _ rs xs ht hv
      obtain ⟨n, rfl, T⟩ := rdT_some ht
      obtain ⟨m, e1, e2, e3, e4, e5⟩ := T.ex
      have o1 := obj_of e1
      have key : ∀ (ys : List D) (z : Option D), Fin st0.length (retR (forS [(v, xs)] (gN 2) b_Tree_check_points_1 ys [some (.ref n), some (.ref v), z] st0)) (chkP (.ref n) st0 ys) := by
        intro ys
        induction ys with
        | nil =>
          intro z
          rw [for_nil (stays_one hv)]
          exact fin_same (by simp) (wfS_N hw) trivial
        | cons y ys ih =>
          intro z
          rw [for_cons (stays_one hv)]
          by_cases hy : okTy st0 y = true
          · cases hb : (ptD rs y).isSome with
            | true =>
              simp [chkP, F_Tree_contains, ht, hy, hb, b_Tree_check_points_1, fInO, insOf_get, o1]
              exact ih _
            | false =>
              simp [chkP, F_Tree_contains, ht, hy, hb, b_Tree_check_points_1, fInO, insOf_get, o1]
              exact fin_exc (g := []) (by simp) (Nat.le_refl _) (wfS_N hw)
          · simp [chkP, F_Tree_contains, ht, hy, fin_bad]
      have := key xs none
      simpa [m_Tree_check_points, startE, hv] using this
    · exact fin_bad
  · exact fin_bad
theorem vp_in {rs : List (Int × Int)} {p : Int × Int} (hp : isPt rs p = true) : inR rs p ∧ 0 ≤ p.2 := by
  simp [isPt] at hp
  exact ⟨hp.1, hp.2.1⟩
theorem ptD_cases {rs : List (Int × Int)} (x : D) : ptD rs x = none ∨ ∃ p, x = prD p ∧ isPt rs p = true ∧ ptD rs x = some p := by
  cases h : ptD rs x with
  | none => exact .inl rfl
  | some p => exact .inr ⟨p, (ptD_some h).1, (ptD_some h).2, rfl⟩
theorem hm_Tree_distance : ∀ ds st0, ds.length = 3 → wfS st0 → wfD.wfDs st0.length ds → Fin st0.length (retR (m_Tree_distance (startE 3 ds) st0)) (F_Tree_distance ds st0) := by
  intro ds st0 hl hw hd
  unfold F_Tree_distance
  split
  · split
    · rename_i t x y _ rs ht
      split
      · rename_i hk
        obtain ⟨n, rfl, T⟩ := rdT_some ht
        obtain ⟨m, e1, e2, e3, e4, e5⟩ := T.ex
        have o1 := obj_of e1
        have ln : n < st0.length := (List.getElem?_eq_some_iff.mp e1).1
        have kx := okTy_app (g := [Ob.lst [x, y]]) hk.1
        have ky := okTy_app (g := [Ob.lst [x, y]]) hk.2
        rcases ptD_cases (rs := rs) x with hx | ⟨p, rfl, hp, hx⟩
        · have e : retR (m_Tree_distance (startE 3 [.ref n, x, y]) st0) = .exc "InvalidPoint" (st0 ++ [.lst [x, y]]) := by
            simp [m_Tree_distance, startE, insOf_get, obj_append, ln, o1, treeF, List.lookup, F_Tree_check_points, F_Tree_way_length, rdT_app T, rdL_append, chkP, F_Tree_contains, kx, ky, hx]
          rw [e, hx]
          exact fin_exc rfl (by simp) (wfS_N hw)
        · rcases ptD_cases (rs := rs) y with hy | ⟨q, rfl, hq, hy⟩
          · have e : retR (m_Tree_distance (startE 3 [.ref n, prD p, y]) st0) = .exc "InvalidPoint" (st0 ++ [.lst [prD p, y]]) := by
              simp [m_Tree_distance, startE, insOf_get, obj_append, ln, o1, treeF, List.lookup, F_Tree_check_points, F_Tree_way_length, rdT_app T, rdL_append, chkP, F_Tree_contains, kx, ky, hx, hy]
            rw [e, hx, hy]
            exact fin_exc rfl (by simp) (wfS_N hw)
          · have ip := vp_in hp
            have iq := vp_in hq
            have e : retR (m_Tree_distance (startE 3 [.ref n, prD p, prD q]) st0) = .ok (.int (wayLen rs p q)) (st0 ++ [.lst [prD p, prD q]]) := by
              simp [m_Tree_distance, startE, insOf_get, obj_append, ln, o1, treeF, List.lookup, F_Tree_check_points, F_Tree_way_length, rdT_app T, rdL_append, chkP, F_Tree_contains, kx, ky, hx, hy, ip, iq]
            rw [e, hx, hy]
            exact fin_drop rfl (by simp) (wfS_N hw) trivial
      · exact fin_bad
    · exact fin_bad
  · exact fin_bad
@[simp] theorem eq_bl {s : Sto} {a b : Bool} : fEq (.bl a) (.bl b) s = some (.bl (a == b), s) := by
  cases a <;> cases b <;> simp [fEq, eqD, toPy, SeqAt.shaped, PyData.canLay0, PyData.depth, PyData.eqv]
@[simp] theorem ne_bl {s : Sto} {a b : Bool} : fNe (.bl a) (.bl b) s = some (.bl (!(a == b)), s) := by
  cases a <;> cases b <;> simp [fNe, eqD, toPy, SeqAt.shaped, PyData.canLay0, PyData.depth, PyData.eqv]
theorem hm_Tree_on_way : ∀ ds st0, ds.length = 4 → wfS st0 → wfD.wfDs st0.length ds → Fin st0.length (retR (m_Tree_on_way (startE 5 ds) st0)) (F_Tree_on_way ds st0) := by
  intro ds st0 hl hw hd
  unfold F_Tree_on_way
  split
  · split
    · rename_i t z x y _ rs ht
      split
      · rename_i hk
        obtain ⟨n, rfl, T⟩ := rdT_some ht
        obtain ⟨m, e1, e2, e3, e4, e5⟩ := T.ex
        have o1 := obj_of e1
        have ln : n < st0.length := (List.getElem?_eq_some_iff.mp e1).1
        have kz := okTy_app (g := [Ob.lst [z, x, y]]) hk.1
        have kx := okTy_app (g := [Ob.lst [z, x, y]]) hk.2.1
        have ky := okTy_app (g := [Ob.lst [z, x, y]]) hk.2.2
        rcases ptD_cases (rs := rs) z with hz | ⟨o, rfl, ho, hz⟩
        · have e : retR (m_Tree_on_way (startE 5 [.ref n, z, x, y]) st0) = .exc "InvalidPoint" (st0 ++ [.lst [z, x, y]]) := by
            simp [m_Tree_on_way, startE, insOf_get, obj_append, ln, o1, treeF, List.lookup, F_Tree_check_points, rdT_app T, rdL_append, chkP, F_Tree_contains, kx, ky, kz, hz]
          rw [e, hz]
          exact fin_exc rfl (by simp) (wfS_N hw)
        · rcases ptD_cases (rs := rs) x with hx | ⟨p, rfl, hp, hx⟩
          · have e : retR (m_Tree_on_way (startE 5 [.ref n, prD o, x, y]) st0) = .exc "InvalidPoint" (st0 ++ [.lst [prD o, x, y]]) := by
              simp [m_Tree_on_way, startE, insOf_get, obj_append, ln, o1, treeF, List.lookup, F_Tree_check_points, rdT_app T, rdL_append, chkP, F_Tree_contains, kx, ky, kz, hz, hx]
            rw [e, hz, hx]
            exact fin_exc rfl (by simp) (wfS_N hw)
          · rcases ptD_cases (rs := rs) y with hy | ⟨q, rfl, hq, hy⟩
            · have e : retR (m_Tree_on_way (startE 5 [.ref n, prD o, prD p, y]) st0) = .exc "InvalidPoint" (st0 ++ [.lst [prD o, prD p, y]]) := by
                simp [m_Tree_on_way, startE, insOf_get, obj_append, ln, o1, treeF, List.lookup, F_Tree_check_points, rdT_app T, rdL_append, chkP, F_Tree_contains, kx, ky, kz, hz, hx, hy]
              rw [e, hz, hx, hy]
              exact fin_exc rfl (by simp) (wfS_N hw)
            · have io := vp_in ho
              have ip := vp_in hp
              have iq := vp_in hq
              have e : retR (m_Tree_on_way (startE 5 [.ref n, prD o, prD p, prD q]) st0) = .ok (.bl (wayLen rs p o + wayLen rs o q == wayLen rs p q)) (st0 ++ [.lst [prD o, prD p, prD q]]) := by
                simp [m_Tree_on_way, startE, insOf_get, obj_append, ln, o1, treeF, List.lookup, F_Tree_check_points, F_Tree_way_length, rdT_app T, rdL_append, chkP, F_Tree_contains, kx, ky, kz, hz, hx, hy, io, ip, iq]
              rw [e, hz, hx, hy]
              exact fin_drop rfl (by simp) (wfS_N hw) trivial
      · exact fin_bad
    · exact fin_bad
  · exact fin_bad
theorem hm_Tree_roads : ∀ ds st0, ds.length = 1 → wfS st0 → wfD.wfDs st0.length ds → Fin st0.length (retR (m_Tree_roads (startE 1 ds) st0)) (F_Tree_roads ds st0) := by
  intro ds st0 hl hw hd
  unfold F_Tree_roads
  split
  · split
    · rename_i t _ rs ht
      obtain ⟨n, rfl, T⟩ := rdT_some ht
      obtain ⟨m, e1, e2, e3, e4, e5⟩ := T.ex
      have o1 := obj_of e1
      have e : retR (m_Tree_roads (startE 1 [.ref n]) st0) = .ok (.ref st0.length) (st0 ++ [.lst (rs.map prD)]) := by
        simp [m_Tree_roads, startE, insOf_get, o1, treeF, List.lookup, e2]
      rw [e]
      exact fin_new (t := st0) (m := 0) rfl rfl (wfS_N hw) wf_prs rfl rfl
    · exact fin_bad
  · exact fin_bad
end Lw
set_option maxRecDepth 100000
set_option maxHeartbeats 4000000
namespace Lw
open PySem PySem.Spec PyProof.Rows L2 Dn
section
variable {rs : List (Int × Int)}
theorem climb_vp (h : okR rs) {p x : Int × Int} (c : Vp rs p) (hx : x ∈ climb rs p) : Vp rs x := (climb_suf h _ p c (Nat.le_refl _) x hx).1
theorem climb_self (h : okR rs) {p : Int × Int} (c : Vp rs p) : p ∈ climb rs p := by
  obtain ⟨A, e⟩ := climb_head h c
  rw [e]; simp
theorem climb_trans (h : okR rs) {p x y : Int × Int} (c : Vp rs p) (hx : x ∈ climb rs p) (hy : y ∈ climb rs x) : y ∈ climb rs p := by
  obtain ⟨_, A, e⟩ := climb_suf h _ p c (Nat.le_refl _) x hx
  rw [e]
  exact List.mem_append_right _ hy
theorem climb_dle (h : okR rs) {p x : Int × Int} (c : Vp rs p) (hx : x ∈ climb rs p) : depAt rs x ≤ depAt rs p := by
  obtain ⟨i, hi, e⟩ := List.getElem_of_mem hx
  have := climb_at h c (i := i) (by rw [List.getElem?_eq_getElem hi, e])
  omega
theorem climb_uniq (h : okR rs) {p x y : Int × Int} (c : Vp rs p) (hx : x ∈ climb rs p) (hy : y ∈ climb rs p) (e : depAt rs x = depAt rs y) : x = y := by
  obtain ⟨i, hi, ex⟩ := List.getElem_of_mem hx
  obtain ⟨j, hj, ey⟩ := List.getElem_of_mem hy
  have a := climb_at h c (i := i) (by rw [List.getElem?_eq_getElem hi, ex])
  have b := climb_at h c (i := j) (by rw [List.getElem?_eq_getElem hj, ey])
  have : i = j := by omega
  subst this
  rw [← ex, ← ey]
theorem climb_cmp (h : okR rs) {p x y : Int × Int} (c : Vp rs p) (hx : x ∈ climb rs p) (hy : y ∈ climb rs p) (e : depAt rs x ≤ depAt rs y) : x ∈ climb rs y := by
  obtain ⟨cy, A, ey⟩ := climb_suf h _ p c (Nat.le_refl _) y hy
  rw [ey] at hx
  rcases List.mem_append.mp hx with hx | hx
  · exfalso
    obtain ⟨i, hi, ex⟩ := List.getElem_of_mem hx
    have a := climb_at h c (x := x) (i := i) (by rw [ey, List.getElem?_append_left hi, List.getElem?_eq_getElem hi, ex])
    have l1 := climb_length h c
    have l2 := climb_length h cy
    have ln := congrArg List.length ey
    rw [List.length_append] at ln
    omega
  · exact hx
/-- the points of a way -/
theorem mem_way (h : okR rs) {p q x : Int × Int} (cp : Vp rs p) (cq : Vp rs q) : x ∈ way rs p q ↔ (x ∈ climb rs p ∨ x ∈ climb rs q) ∧ depAt rs (top rs p q) ≤ depAt rs x := by
  obtain ⟨A, B, e1, e2, e3⟩ := way_eq h cp cq
  have ct := top_vp h cp cq
  have m := top_mem h cp cq
  have lt := climb_length h ct
  have lp := climb_length h cp
  have lq := climb_length h cq
  have n1 := congrArg List.length e1
  have n2 := congrArg List.length e2
  rw [List.length_append] at n1 n2
  have key : ∀ {r : Int × Int} {C : List (Int × Int)}, Vp rs r → climb rs r = C ++ climb rs (top rs p q) → (x ∈ C ∨ x = top rs p q ↔ x ∈ climb rs r ∧ depAt rs (top rs p q) ≤ depAt rs x) := by
    intro r C cr e
    have n := congrArg List.length e
    have lr := climb_length h cr
    rw [List.length_append] at n
    constructor
    · rintro (hx | rfl)
      · refine ⟨by rw [e]; exact List.mem_append_left _ hx, ?_⟩
        obtain ⟨i, hi, ex⟩ := List.getElem_of_mem hx
        have a := climb_at h cr (x := x) (i := i) (by rw [e, List.getElem?_append_left hi, List.getElem?_eq_getElem hi, ex])
        omega
      · exact ⟨by rw [e]; exact List.mem_append_right _ (climb_self h ct), Int.le_refl _⟩
    · rintro ⟨hx, hd⟩
      rw [e] at hx
      rcases List.mem_append.mp hx with hx | hx
      · exact .inl hx
      · have := climb_dle h ct hx
        exact .inr (climb_uniq h ct hx (climb_self h ct) (by omega))
  have k1 := key cp e1
  have k2 := key cq e2
  rw [e3]
  simp only [List.mem_append, List.mem_cons, List.mem_reverse]
  constructor
  · rintro (z | z | z)
    · have := k1.mp (.inl z); exact ⟨.inl this.1, this.2⟩
    · have := k1.mp (.inr z); exact ⟨.inl this.1, this.2⟩
    · have := k2.mp (.inl z); exact ⟨.inr this.1, this.2⟩
  · rintro ⟨z | z, d⟩
    · rcases k1.mpr ⟨z, d⟩ with w | w
      · exact .inl w
      · exact .inr (.inl w)
    · rcases k2.mpr ⟨z, d⟩ with w | w
      · exact .inr (.inr w)
      · exact .inr (.inl w)
theorem top_sym (h : okR rs) {p q : Int × Int} (cp : Vp rs p) (cq : Vp rs q) : top rs p q = top rs q p := by
  have m1 := top_mem h cp cq
  have m2 := top_mem h cq cp
  have a := top_max h cp cq m2.2 m2.1
  have b := top_max h cq cp m1.2 m1.1
  exact climb_uniq h cp m1.1 m2.2 (by omega)
theorem way_on (h : okR rs) {p q o : Int × Int} (cp : Vp rs p) (cq : Vp rs q) (co : Vp rs o) : wayLen rs p o + wayLen rs o q = wayLen rs p q ↔ o ∈ way rs p q := by
  rw [mem_way h cp cq]
  have m := top_mem h cp cq
  have m1 := top_mem h cp co
  have m2 := top_mem h co cq
  have d1 := climb_dle h co m1.2
  have d2 := climb_dle h co m2.1
  unfold wayLen
  constructor
  · intro e
    rcases Int.le_total (depAt rs (top rs o q)) (depAt rs (top rs p o)) with l | l
    · have k := climb_cmp h co m2.1 m1.2 l
      have k2 := climb_trans h cp m1.1 k
      have k3 := top_max h cp cq k2 m2.2
      have k4 := climb_uniq h co m1.2 (climb_self h co) (by omega)
      rw [← k4]
      exact ⟨.inl m1.1, by rw [k4]; omega⟩
    · have k := climb_cmp h co m1.2 m2.1 l
      have k2 := climb_trans h cq m2.2 k
      have k3 := top_max h cp cq m1.1 k2
      have k4 := climb_uniq h co m2.1 (climb_self h co) (by omega)
      rw [← k4]
      exact ⟨.inr m2.2, by rw [k4]; omega⟩
  · rintro ⟨hx | hx, d⟩
    · have a := top_max h cp co hx (climb_self h co)
      have k1 := climb_cmp h cp m.1 hx d
      have a2 := top_max h co cq k1 m.2
      have a3 := top_max h cp cq (climb_trans h cp hx m2.1) m2.2
      omega
    · have a := top_max h co cq (climb_self h co) hx
      have k1 := climb_cmp h cq m.2 hx d
      have a2 := top_max h cp co m.1 k1
      have a3 := top_max h cp cq m1.1 (climb_trans h cq hx m1.2)
      omega
/-- the point far steps along a way -/
theorem way_at (h : okR rs) {p q : Int × Int} (cp : Vp rs p) (cq : Vp rs q) {far : Nat} (hf : (far : Int) ≤ wayLen rs p q) : (way rs p q)[far]? = some (stepTo rs p q far) := by
  obtain ⟨A, B, e1, e2, e3⟩ := way_eq h cp cq
  have ct := top_vp h cp cq
  have lt := climb_length h ct
  have lp := climb_length h cp
  have lq := climb_length h cq
  have n1 := congrArg List.length e1
  have n2 := congrArg List.length e2
  rw [List.length_append] at n1 n2
  obtain ⟨C, eC⟩ := climb_head h ct
  have hw : wayLen rs p q = (A.length : Int) + B.length := by unfold wayLen; omega
  unfold stepTo upBy
  rw [e3]
  by_cases c : (far : Int) ≤ depAt rs p - depAt rs (top rs p q)
  · rw [if_pos c, e1, eC]
    have hA : far ≤ A.length := by omega
    simp only [Int.toNat_natCast]
    by_cases q1 : far < A.length
    · rw [List.getElem?_append_left q1, List.getElem?_append_left q1, List.getElem?_eq_getElem q1]
      rfl
    · have : far = A.length := by omega
      subst this
      simp
  · rw [if_neg c, e2]
    have hA : A.length < far := by omega
    have hB : (wayLen rs p q - far).toNat = A.length + B.length - far := by omega
    have hlt : A.length + B.length - far < B.length := by omega
    rw [hB, List.getElem?_append_left hlt, List.getElem?_append_right (by omega)]
    obtain ⟨k, hk⟩ : ∃ k, far - A.length = k + 1 := ⟨far - A.length - 1, by omega⟩
    rw [hk, List.getElem?_cons_succ, List.getElem?_reverse (by omega), show B.length - 1 - k = A.length + B.length - far by omega, List.getElem?_eq_getElem hlt]
    rfl
theorem stepTo_mem (h : okR rs) {p q : Int × Int} (cp : Vp rs p) (cq : Vp rs q) {far : Int} (h0 : 0 ≤ far) (hf : far ≤ wayLen rs p q) : stepTo rs p q far ∈ way rs p q := by
  have := way_at h cp cq (far := far.toNat) (by omega)
  rw [show ((far.toNat : Nat) : Int) = far by omega] at this
  exact List.mem_of_getElem? this
theorem way_vp (h : okR rs) {p q x : Int × Int} (cp : Vp rs p) (cq : Vp rs q) (hx : x ∈ way rs p q) : Vp rs x := by
  rcases ((mem_way h cp cq).mp hx).1 with m | m
  · exact climb_vp h cp m
  · exact climb_vp h cq m
theorem vp_isPt (h : okR rs) {p : Int × Int} (c : Vp rs p) : isPt rs p = true := by
  have lo := c.lo
  have hi := c.hi
  have ul := c.ul
  by_cases q : p.1 = 0
  · have := c.uz q
    simp [isPt, q, this, lenL]
  · have := c.uh (by omega)
    have e := lenL_val h (v := p.1) (by omega) hi
    simp [isPt, e]
    omega
end
end Lw
set_option maxRecDepth 100000
set_option maxHeartbeats 4000000
namespace Lw
open PySem PySem.Spec PyProof.Rows L2 Dn
theorem toPys_ints {s : Sto} : ∀ {xs : List Int} {k : Nat}, xs.length < k → toPys s (k + 1) (xs.map D.int) = some (xs.map PyData.int)
  | [], k, _ => by simp [toPys]
  | x :: xs, k, h => by
    obtain ⟨k, rfl⟩ : ∃ j, k = j + 1 := ⟨k - 1, by simp at h; omega⟩
    have := toPys_ints (s := s) (xs := xs) (k := k) (by simp at h; omega)
    simp [toPys, toPy, this]
theorem shaped_ints : ∀ {xs : List Int}, SeqAt.shaped (.list (xs.map PyData.int)) = true := by
  intro xs
  have h : PyData.canLayAll0 (xs.map PyData.int) = true ∧ PyData.depthAll (xs.map PyData.int) ≤ 1 := by
    induction xs with
    | nil => simp [PyData.canLayAll0, PyData.depthAll]
    | cons x xs ih => simp [PyData.canLayAll0, PyData.depthAll, PyData.canLay0, PyData.depth, ih.1, ih.2]
  simp [SeqAt.shaped, PyData.canLay0, PyData.depth, h.1]
  omega
theorem any_ints {v : Int} : ∀ {xs : List Int}, (xs.map PyData.int).any (fun z => PyData.eqv z (.int v)) = xs.contains v
  | [] => by simp
  | x :: xs => by
    rw [List.map_cons, List.any_cons, any_ints, List.contains_cons]
    have e : PyData.eqv (.int x) (.int v) = (v == x) := by
      simp only [PyData.eqv]
      exact Bool.beq_comm
    rw [e]
theorem in_ints {s : Sto} {n : Nat} {xs : List Int} {v : Int} (h : rdL s n = some (xs.map D.int)) (hl : xs.length < 100000) : fIn (.int v) (.ref n) s = some (.bl (xs.contains v), s) := by
  have e : toPys s 100001 (xs.map D.int) = some (xs.map PyData.int) := toPys_ints (by omega)
  have sh := shaped_ints (xs := xs)
  have sv : SeqAt.shaped (.int v) = true := by simp [SeqAt.shaped, PyData.canLay0, PyData.depth]
  have ea : anyEq s (.int v) (.ref n) = some (xs.contains v) := by
    simp only [anyEq, toPy, h, e, Option.map_some, sh, sv, and_self, if_true, any_ints]
  simp [fIn, isTupD, ea]
def prP (p : Int × Int) : PyData := .tuple [.int p.1, .int p.2]
theorem toPy_pr {s : Sto} {p : Int × Int} {k : Nat} : toPy s (k + 5) (prD p) = some (prP p) := by
  simp [prD, prP, toPy, toPys]
theorem toPys_prs {s : Sto} : ∀ {xs : List (Int × Int)} {k : Nat}, xs.length < k → toPys s (k + 6) (xs.map prD) = some (xs.map prP)
  | [], k, _ => by simp [toPys]
  | x :: xs, k, h => by
    obtain ⟨k, rfl⟩ : ∃ j, k = j + 1 := ⟨k - 1, by simp at h; omega⟩
    have := toPys_prs (s := s) (xs := xs) (k := k) (by simp at h; omega)
    have e2 := toPy_pr (s := s) (p := x) (k := k + 1)
    simp only [List.map_cons, toPys]
    rw [show k + 1 + 5 = k + 6 from by omega, show k + 6 = k + 1 + 5 from by omega, e2, show k + 1 + 5 = k + 6 from by omega, this]
theorem shaped_prs {xs : List (Int × Int)} : SeqAt.shaped (.list (xs.map prP)) = true := by
  have h : PyData.canLayAll0 (xs.map prP) = true ∧ PyData.depthAll (xs.map prP) ≤ 2 := by
    induction xs with
    | nil => simp [PyData.canLayAll0, PyData.depthAll]
    | cons x xs ih => simp [prP, PyData.canLayAll0, PyData.depthAll, PyData.canLay0, PyData.depth] at ih ⊢; exact ⟨ih.1, by omega⟩
  simp [SeqAt.shaped, PyData.canLay0, PyData.depth, h.1]
  omega
theorem shaped_pr {p : Int × Int} : SeqAt.shaped (prP p) = true := by
  simp [SeqAt.shaped, prP, PyData.canLay0, PyData.depth, PyData.canLayAll0, PyData.depthAll]
theorem eqv_pr {a b : Int × Int} : PyData.eqv (prP a) (prP b) = (a == b) := by
  simp [prP, PyData.eqv, PyData.eqvAll]
  rfl
theorem any_prs {v : Int × Int} : ∀ {xs : List (Int × Int)}, (xs.map prP).any (fun z => PyData.eqv z (prP v)) = xs.contains v
  | [] => by simp
  | x :: xs => by
    rw [List.map_cons, List.any_cons, any_prs, List.contains_cons, eqv_pr]
    rw [show (x == v) = (v == x) from Bool.beq_comm]
theorem in_prs {s : Sto} {n : Nat} {xs : List (Int × Int)} {v : Int × Int} (h : rdL s n = some (xs.map prD)) (hl : xs.length < 99000) : fIn (prD v) (.ref n) s = some (.bl (xs.contains v), s) := by
  have e : toPys s 100001 (xs.map prD) = some (xs.map prP) := toPys_prs (k := 99995) (by omega)
  have ev : toPy s 100002 (prD v) = some (prP v) := toPy_pr (k := 99997)
  have el : toPy s 100002 (.ref n) = some (.list (xs.map prP)) := by
    simp only [toPy, h, e, Option.map_some]
  have ea : anyEq s (prD v) (.ref n) = some (xs.contains v) := by
    simp only [anyEq, ev, el, shaped_prs, shaped_pr, and_self, if_true, any_prs]
  simp [fIn, isTupD, ea]
theorem eqvAll_prs : ∀ {xs ys : List (Int × Int)}, PyData.eqvAll (xs.map prP) (ys.map prP) = (xs == ys)
  | [], [] => by simp [PyData.eqvAll]
  | [], _ :: _ => by simp [PyData.eqvAll]
  | _ :: _, [] => by simp [PyData.eqvAll]
  | x :: xs, y :: ys => by
    rw [List.map_cons, List.map_cons, PyData.eqvAll, eqvAll_prs, eqv_pr]
    rfl
/-- two rows of pairs -/
theorem eqD_prs {s : Sto} {n m : Nat} {xs ys : List (Int × Int)} (h1 : rdL s n = some (xs.map prD)) (h2 : rdL s m = some (ys.map prD)) (l1 : xs.length < 99000) (l2 : ys.length < 99000) : eqD s (.ref n) (.ref m) = some (xs == ys) := by
  have e1 : toPys s 100001 (xs.map prD) = some (xs.map prP) := toPys_prs (k := 99995) (by omega)
  have e2 : toPys s 100001 (ys.map prD) = some (ys.map prP) := toPys_prs (k := 99995) (by omega)
  have f1 : toPy s 100002 (.ref n) = some (.list (xs.map prP)) := by simp only [toPy, h1, e1, Option.map_some]
  have f2 : toPy s 100002 (.ref m) = some (.list (ys.map prP)) := by simp only [toPy, h2, e2, Option.map_some]
  simp only [eqD, f1, f2, shaped_prs, and_self, if_true]
  rw [PyData.eqv, eqvAll_prs]
theorem upBy_mem {rs : List (Int × Int)} (h : okR rs) {p : Int × Int} (c : Vp rs p) {far : Int} : upBy rs p far ∈ climb rs p := by
  unfold upBy
  cases e : (climb rs p)[far.toNat]? with
  | none => exact climb_self h c
  | some x => exact List.mem_of_getElem? e
/-- within a road, or over its end -/
theorem upBy_in {rs : List (Int × Int)} (h : okR rs) : ∀ (k : Nat) (p : Int × Int), Vp rs p → (p.1 = 0 → k = 0) → (0 < p.1 → p.2 + k < lenAt rs p.1) → upBy rs p k = (p.1, p.2 + k)
  | 0, p, c, _, _ => by
    obtain ⟨A, e⟩ := climb_head h c
    simp [upBy, e]
  | k + 1, p, c, h0, hk => by
    have lo := c.lo
    have n0 : p.1 ≠ 0 := fun z => by have := h0 z; omega
    have nx : nextP rs p = (p.1, p.2 + 1) := by
      unfold nextP
      rw [if_neg (by have := hk (by omega); omega)]
    have cn := c.next h n0
    rw [nx] at cn
    have ih := upBy_in h k (p.1, p.2 + 1) cn (fun z => absurd z n0) (fun z => by have := hk z; simp only; push_cast at this; omega)
    have hk2 := hk (by omega)
    unfold upBy at ih ⊢
    rw [climb_rec h c, if_neg n0, nx]
    simp only [Int.toNat_natCast] at ih ⊢
    rw [List.getElem?_cons_succ]
    have hl : k < (climb rs (p.1, p.2 + 1)).length := by
      have := climb_length h cn
      have d := depAt_eq (rs := rs) (p := (p.1, p.2 + 1))
      have r := depV_rec h (v := p.1) (by omega) c.hi
      have kk := okR_at h (v := p.1) (by omega) c.hi
      have z := depV_pos h (parAt rs p.1).toNat (parAt rs p.1) kk.1 (by have := c.hi; omega) (Nat.le_refl _)
      simp only at d
      push_cast at hk2
      omega
    rw [List.getElem?_eq_getElem hl] at ih ⊢
    simp only [Option.getD_some] at ih ⊢
    rw [ih]
    ext <;> simp <;> omega
theorem upBy_zero {rs : List (Int × Int)} (h : okR rs) {p : Int × Int} (c : Vp rs p) : upBy rs p 0 = p := by
  obtain ⟨A, e⟩ := climb_head h c
  simp [upBy, e]
theorem upBy_next {rs : List (Int × Int)} (h : okR rs) {p : Int × Int} (c : Vp rs p) (n0 : p.1 ≠ 0) {far : Int} (h0 : 0 < far) (h1 : far ≤ depAt rs p) : upBy rs p far = upBy rs (nextP rs p) (far - 1) := by
  have cn := c.next h n0
  have dn := depAt_next h c n0
  have ln := climb_length h cn
  unfold upBy
  rw [climb_rec h c, if_neg n0, show far.toNat = (far - 1).toNat + 1 by omega, List.getElem?_cons_succ, List.getElem?_eq_getElem (by omega)]
  rfl
/-- over the rest of a road -/
theorem upBy_over {rs : List (Int × Int)} (h : okR rs) : ∀ (k : Nat) (p : Int × Int) (far : Int), Vp rs p → p.1 ≠ 0 → (k : Int) = lenAt rs p.1 - p.2 → (k : Int) ≤ far → far ≤ depAt rs p → upBy rs p far = upBy rs (parAt rs p.1, 0) (far - k)
  | 0, p, far, c, n0, hk, h0, h1 => by
    have lo := c.lo
    have := c.uh (by omega)
    omega
  | k + 1, p, far, c, n0, hk, h0, h1 => by
    have lo := c.lo
    rw [upBy_next h c n0 (by omega) h1]
    have cn := c.next h n0
    have dn := depAt_next h c n0
    by_cases q : p.2 + 1 = lenAt rs p.1
    · have nx : nextP rs p = (parAt rs p.1, 0) := if_pos q
      have : k = 0 := by omega
      subst this
      rw [nx]
      rfl
    · have nx : nextP rs p = (p.1, p.2 + 1) := if_neg q
      rw [nx] at cn dn ⊢
      rw [upBy_over h k (p.1, p.2 + 1) (far - 1) cn n0 (by simp only; push_cast at hk; omega) (by push_cast at h0; omega) (by omega)]
      congr 1
      push_cast
      omega
theorem climb_walk {n : Nat} {rs : List (Int × Int)} {st0 : Sto} {x1 x2 : Option D} (T : IsT st0 n rs) : ∀ (j k : Nat) (p : Int × Int) (far : Int), Vp rs p → 0 ≤ far → far ≤ depAt rs p → p.1.toNat ≤ j → j ≤ k →
    ∃ a u, mWhile (k + 1) t_Tree_climb_1 b_Tree_climb_1 [some (.ref n), x1, x2, some (.int p.1), some (.int (p.2 + far))] st0 = .nx [some (.ref n), x1, x2, some (.int a), some (.int u)] st0 ∧ (a, u) = upBy rs p far := by
  obtain ⟨m, e1, e2, e3, e4, e5⟩ := T.ex
  have o1 := obj_of e1
  have h := T.ok
  have stop : ∀ (k : Nat) (p : Int × Int) (far : Int), Vp rs p → 0 ≤ far → far ≤ depAt rs p → (0 < p.1 → p.2 + far < lenAt rs p.1) → 
    ∃ a u, mWhile (k + 1) t_Tree_climb_1 b_Tree_climb_1 [some (.ref n), x1, x2, some (.int p.1), some (.int (p.2 + far))] st0 = .nx [some (.ref n), x1, x2, some (.int a), some (.int u)] st0 ∧ (a, u) = upBy rs p far := by
    intro k p far c h0 h1 hlt
    have lo := c.lo
    refine ⟨p.1, p.2 + far, ?_, ?_⟩
    · rw [ev_while]
      by_cases q : p.1 = 0
      · have d := depAt_root c q
        have u := c.uz q
        have : far = 0 := by omega
        subst this
        simp [t_Tree_climb_1, insOf_get, o1, treeF, List.lookup, e4, q, u, lenL]
      · have a1 := len_at h (v := p.1) (by omega) c.hi
        have := hlt (by omega)
        have nle : ¬ lenAt rs p.1 ≤ p.2 + far := by omega
        simp [t_Tree_climb_1, insOf_get, o1, treeF, List.lookup, e4, a1.1, nle]
    · have := upBy_in h far.toNat p c (fun q => by have := depAt_root c q; omega) (fun z => by have := hlt z; omega)
      rw [show ((far.toNat : Nat) : Int) = far by omega] at this
      exact this.symm
  intro j
  induction j with
  | zero =>
    intro k p far c h0 h1 h2 h3
    have lo := c.lo
    exact stop k p far c h0 h1 (fun z => by omega)
  | succ j ih =>
    intro k p far c h0 h1 h2 h3
    have lo := c.lo
    have hi := c.hi
    by_cases q : 0 < p.1 ∧ lenAt rs p.1 ≤ p.2 + far
    · obtain ⟨k, rfl⟩ : ∃ k', k = k' + 1 := ⟨k - 1, by omega⟩
      have ka := okR_at h (v := p.1) q.1 hi
      have a1 := len_at h (v := p.1) q.1 hi
      obtain ⟨a2, p0, p1⟩ := par_at h (v := p.1) q.1 hi
      have uh := c.uh q.1
      have ul := c.ul
      have cn : Vp rs (parAt rs p.1, 0) := by
        refine ⟨p0, by show parAt rs p.1 ≤ _; omega, by simp, by simp, fun z => ?_⟩
        have := okR_at h (v := parAt rs p.1) z (by omega)
        exact this.2.2
      have dr := depV_rec h (v := p.1) q.1 hi
      have dp := depAt_eq (rs := rs) (p := p)
      have dn := depAt_eq (rs := rs) (p := (parAt rs p.1, 0))
      simp only at dn
      obtain ⟨a, u, e, r⟩ := ih k (parAt rs p.1, 0) (p.2 + far - lenAt rs p.1) cn (by omega) (by omega) (by simp only; omega) (by omega)
      refine ⟨a, u, ?_, ?_⟩
      · rw [ev_while]
        simp [t_Tree_climb_1, b_Tree_climb_1, insOf_get, o1, treeF, List.lookup, e3, e4, a1.1, a2, q.2] at e ⊢
        exact e
      · rw [r, upBy_over h (lenAt rs p.1 - p.2).toNat p far c (by omega) (by omega) (by omega) h1]
        congr 1
        omega
    · exact stop k p far c h0 h1 (fun z => by
        have : ¬ lenAt rs p.1 ≤ p.2 + far := fun w => q ⟨z, w⟩
        omega)
theorem hm_Tree_climb : ∀ ds st0, ds.length = 3 → wfS st0 → wfD.wfDs st0.length ds → Fin st0.length (retR (m_Tree_climb (startE 5 ds) st0)) (F_Tree_climb ds st0) := by
  intro ds st0 hl hw hd
  unfold F_Tree_climb
  split
  · split
    · split
      · split
        · rename_i t x far _ rs ht _ p hx c
          obtain ⟨n, rfl, T⟩ := rdT_some ht
          obtain ⟨rfl, hp⟩ := ptD_some hx
          have cp := isPt_vp T.ok hp
          have hr := T.ok.1
          have hi := cp.hi
          have lo := cp.lo
          obtain ⟨a, u, e1, r⟩ := climb_walk (x1 := some (prD p)) (x2 := some (.int far)) T p.1.toNat 999999 p far cp c.1 c.2 (Nat.le_refl _) (by omega)
          have e : retR (m_Tree_climb (startE 5 [.ref n, prD p, .int far]) st0) = .ok (prD (upBy rs p far)) st0 := by
            rw [show (999999 + 1 : Nat) = kw from rfl] at e1
            rw [← r]
            simp [m_Tree_climb, startE, prD] at e1 ⊢
            simp [e1]
          rw [e]
          exact fin_same (by simp) (wfS_N hw) ⟨trivial, trivial, trivial⟩
        · exact fin_bad
      · exact fin_bad
    · exact fin_bad
  · exact fin_bad
theorem hm_Tree_towards : ∀ ds st0, ds.length = 4 → wfS st0 → wfD.wfDs st0.length ds → Fin st0.length (retR (m_Tree_towards (startE 5 ds) st0)) (F_Tree_towards ds st0) := by
  intro ds st0 hl hw hd
  unfold F_Tree_towards
  split
  · split
    · rename_i t x y z _ rs ht
      split
      · rename_i hk
        obtain ⟨n, rfl, T⟩ := rdT_some ht
        obtain ⟨m, e1, e2, e3, e4, e5⟩ := T.ex
        have o1 := obj_of e1
        have ln : n < st0.length := (List.getElem?_eq_some_iff.mp e1).1
        have kx := okTy_app (g := [Ob.lst [x, y]]) hk.1
        have ky := okTy_app (g := [Ob.lst [x, y]]) hk.2.1
        have kz := knT_app (g := [Ob.lst [x, y]]) hk.2.2
        rcases ptD_cases (rs := rs) x with hx | ⟨p, rfl, hp, hx⟩
        · have e : retR (m_Tree_towards (startE 5 [.ref n, x, y, z]) st0) = .exc "InvalidPoint" (st0 ++ [.lst [x, y]]) := by
            simp [m_Tree_towards, startE, insOf_get, obj_append, ln, o1, treeF, List.lookup, F_Tree_check_points, rdT_app T, rdL_append, chkP, F_Tree_contains, kx, ky, hx]
          rw [e, hx]
          exact fin_exc rfl (by simp) (wfS_N hw)
        · rcases ptD_cases (rs := rs) y with hy | ⟨q, rfl, hq, hy⟩
          · have e : retR (m_Tree_towards (startE 5 [.ref n, prD p, y, z]) st0) = .exc "InvalidPoint" (st0 ++ [.lst [prD p, y]]) := by
              simp [m_Tree_towards, startE, insOf_get, obj_append, ln, o1, treeF, List.lookup, F_Tree_check_points, rdT_app T, rdL_append, chkP, F_Tree_contains, kx, ky, hx, hy]
            rw [e, hx, hy]
            exact fin_exc rfl (by simp) (wfS_N hw)
          · have ip := vp_in hp
            have iq := vp_in hq
            have cp := isPt_vp T.ok hp
            have cq := isPt_vp T.ok hq
            have it := top_in T.ok ip.1 iq.1
            rw [hx, hy]
            simp only []
            have bad : ∀ {z : D}, knT (st0 ++ [Ob.lst [prD p, prD q]]) z = true → farOk rs p q z = none → retR (m_Tree_towards (startE 5 [.ref n, prD p, prD q, z]) st0) = .exc "InvalidPoint" (st0 ++ [.lst [prD p, prD q]]) := by
              intro z kz hz
              cases z with
              | int i =>
                have : i < 0 ∨ wayLen rs p q < i := by
                  by_cases c : 0 ≤ i ∧ i ≤ wayLen rs p q
                  · simp only [farOk, if_pos c] at hz
                    cases hz
                  · omega
                by_cases q1 : i < 0
                · simp [m_Tree_towards, startE, insOf_get, obj_append, ln, o1, treeF, List.lookup, F_Tree_check_points, F_Tree_way_length, rdT_app T, rdL_append, chkP, F_Tree_contains, kx, ky, hx, hy, ip, iq, F_is_int, knT, tyD, isIntD, q1]
                · have q2 := this.resolve_left q1
                  simp [m_Tree_towards, startE, insOf_get, obj_append, ln, o1, treeF, List.lookup, F_Tree_check_points, F_Tree_way_length, rdT_app T, rdL_append, chkP, F_Tree_contains, kx, ky, hx, hy, ip, iq, F_is_int, knT, tyD, isIntD, q1, q2]
              | _ => simp [m_Tree_towards, startE, insOf_get, obj_append, ln, o1, treeF, List.lookup, F_Tree_check_points, F_Tree_way_length, rdT_app T, rdL_append, chkP, F_Tree_contains, kx, ky, hx, hy, ip, iq, F_is_int, kz, isIntD]
            cases hz : farOk rs p q z with
            | none =>
              rw [bad kz hz]
              exact fin_exc rfl (by simp) (wfS_N hw)
            | some far =>
              have hz' : z = .int far ∧ 0 ≤ far ∧ far ≤ wayLen rs p q := by
                unfold farOk at hz
                split at hz
                · split at hz
                  · cases hz
                    exact ⟨rfl, by assumption⟩
                  · cases hz
                · cases hz
              obtain ⟨rfl, f0, f1⟩ := hz'
              have n0 : ¬ far < 0 := by omega
              have n1 : ¬ wayLen rs p q < far := by omega
              have tn := depAt_nn T.ok (top_vp T.ok cp cq)
              have hw2 : wayLen rs p q = depAt rs p + depAt rs q - 2 * depAt rs (top rs p q) := rfl
              have e : retR (m_Tree_towards (startE 5 [.ref n, prD p, prD q, .int far]) st0) = .ok (prD (stepTo rs p q far)) (st0 ++ [.lst [prD p, prD q]]) := by
                by_cases q1 : far ≤ depAt rs p - depAt rs (top rs p q)
                · have c1 : far ≤ depAt rs p := by omega
                  simp [m_Tree_towards, startE, insOf_get, obj_append, ln, o1, treeF, List.lookup, F_Tree_check_points, F_Tree_way_length, rdT_app T, rdL_append, chkP, F_Tree_contains, kx, ky, hx, hy, ip, iq, F_is_int, knT, tyD, isIntD, n0, n1, F_Tree_depth, F_Tree_top, it, q1, F_Tree_climb, f0, c1, stepTo]
                · have c1 : wayLen rs p q - far ≤ depAt rs q := by omega
                  have c0 : 0 ≤ wayLen rs p q - far := by omega
                  simp [m_Tree_towards, startE, insOf_get, obj_append, ln, o1, treeF, List.lookup, F_Tree_check_points, F_Tree_way_length, rdT_app T, rdL_append, chkP, F_Tree_contains, kx, ky, hx, hy, ip, iq, F_is_int, knT, tyD, isIntD, n0, n1, F_Tree_depth, F_Tree_top, it, q1, F_Tree_climb, f1, c1, stepTo]
              rw [e]
              exact fin_drop rfl (by simp) (wfS_N hw) ⟨trivial, trivial, trivial⟩
      · exact fin_bad
    · exact fin_bad
  · exact fin_bad
end Lw
set_option maxRecDepth 100000
set_option maxHeartbeats 4000000
namespace Dn
open PySem PySem.Spec PyProof.Rows L2
section
variable {s : Sto} {n m : Nat}
@[simp] theorem ext_ref : fExtend (.ref n) [.ref m] s = match rdL s n, rdL s m with
    | some ys, some zs => if ys.length + zs.length ≤ 100000 then some (.non, s.set n (.lst (ys ++ zs))) else none
    | _, _ => none := rfl
@[simp] theorem noXS_nx {e : En} : noXS (.nx e s) = .nx e s := rfl
@[simp] theorem ev_try {mt : Str → Option Bool} {b h : MS} {e : En} : mTry mt b h e s = match b e s with
  | .exc c e1 s1 => match mt c with
    | some true => noXS (h e1 s1)
    | some false => .exc c e1 s1
    | none => .bad
  | r => r := rfl
@[simp] theorem mt1_self {x : Str} : Dn.mt1 x x = some true := if_pos rfl
end
end Dn
namespace Lw
open PySem PySem.Spec PyProof.Rows L2 Dn
theorem xm_of {K : PySem.W.Frag} {C : Addr} (h1 : PySem.W.subIn K (.ref C) (.type "BaseException") = some true) (h2 : PySem.W.typeIn K (.ref C) = some (.type "type")) (h3 : PySem.W.isClsIn K C = true) (h4 : PySem.W.subIn K (.ref C) (.ref C) = some true) : PySem.W.exmOne K (.ref C) (.ref C) = some true := by
  unfold PySem.W.exmOne PySem.W.kitCls
  unfold PySem.W.isClsIn at h3
  simp only [h1, h2, h3]
  simpa using h4
end Lw
namespace Dn
open PySem PySem.Spec PyProof.Rows L2
/-- a loop keeps what each turn keeps -/
theorem for_inv {ck : Chk} {g : MG} {b : MS} {I : En → Sto → Prop} : ∀ (xs : List D), (∀ d ∈ xs, ∀ e s, I e s → ∃ e1 s1 e2 s2, g d e s = .nx e1 s1 ∧ b e1 s1 = .nx e2 s2 ∧ I e2 s2) → (∀ e s, I e s → Stays ck s) → ∀ e s, I e s → ∃ e' s', forS ck g b xs e s = .nx e' s' ∧ I e' s'
  | [], _, hs, e, s, h => ⟨e, s, for_nil (hs e s h), h⟩
  | d :: xs, hb, hs, e, s, h => by
    obtain ⟨e1, s1, e2, s2, q1, q2, h2⟩ := hb d (by simp) e s h
    obtain ⟨e', s', q, h'⟩ := for_inv xs (fun d hd => hb d (by simp [hd])) hs e2 s2 h2
    refine ⟨e', s', ?_, h'⟩
    rw [for_cons (hs e s h), q1]
    simp only []
    rw [q2, loopS_nx, q]
theorem mem_rng {lo : Int} {n : Nat} {d : D} (h : d ∈ rng lo n) : ∃ i : Int, d = .int i ∧ lo ≤ i ∧ i < lo + n := by
  obtain ⟨i, hi, rfl⟩ := List.mem_map.mp h
  have := List.mem_range.mp hi
  exact ⟨_, rfl, by omega, by omega⟩
end Dn
set_option maxRecDepth 100000
set_option maxHeartbeats 2000000
/-! try .. except C as n: .. over the store, isinstance of what was caught -/
namespace Dn
open PySem PySem.Spec PyProof.Rows L2
def delS (i : Nat) : SR → SR
  | .nx e s => .nx (e.set i none) s
  | .brk e s => .brk (e.set i none) s
  | .cnt e s => .cnt (e.set i none) s
  | r => r
def mTryN (mt : Str → Option Bool) (i : Nat) (body hand : MS) : MS := fun e s => match body e s with
  | .exc c e1 s1 => match mt c with
    | some true => delS i (noXS (hand (e1.set i (some (.ref s1.length))) (s1 ++ [.ex c])))
    | some false => .exc c e1 s1
    | none => .bad
  | r => r
theorem ER.unset {K : PySem.W.Frag} {H : Hp} {N : Nat} {loc : Nat → Addr} {env : En} {σ : L2.St} (i : Nat) (e : ER K H N loc env σ) : ER K H N loc (env.set i none) (σ.set i none) := by
  refine ⟨by rw [List.length_set, List.length_set]; exact e.1, fun j d h => ?_⟩
  by_cases hj : i = j
  · subst hj
    rw [List.getElem?_set] at h
    split at h
    · split at h <;> cases h
    · exact absurd rfl ‹_›
  · rw [List.getElem?_set_ne hj] at h ⊢
    exact e.2 j d h
theorem ds_tryN {X : Cx} {cA : Str → Addr} {W : WX} {x n : Str} {c : Value} {i : Nat} {body suite : List Stmt} {b₀ : Stmt} {np pos pos' : Pos} {mb mh : MS} {mt : Str → Option Bool}
    (hs : X.stack = X.env :: X.outer) (hf : X.env.frame = some X.env.locals) (hx : X.ex = []) (hN : X.N.Nodup) (hi : X.N[i]? = some n) (hln : X.env.kindOf n = some .local) (hc : Names X x c) (tk : Takes X W) (hm : ∀ c' b, mt c' = some b → PySem.W.exmOne X.K (.ref (cA c')) c = some b)
    (hb : ∀ (W' : WX) (pn : List (Addr × Obj)) (xe : Value → Shared → Prop), Takes (X.tr pn xe) W' → DSs (X.tr pn xe) cA W' body mb)
    (hh : ∀ (a : Addr) (pn : List (Addr × Obj)), DSs (X.suite a pn) cA (fun _ _ _ _ => False) (b₀ :: suite) mh) :
    DS X cA W (.Try body [.ExceptHandler (some (.Name x np)) (some n) (b₀ :: suite) pos'] [] [] pos) (mTryN mt i mb mh) := by
  refine ⟨_, ps_try_tr (tb := fun W' => tOf ⟨X.K, cA⟩ W' mb) (ts := tOf ⟨X.K, cA⟩ (fun _ _ _ _ => False) mh) hs hf hx hN hi hln hc tk ?_ ?_, ⟨fun D σ H env st loc er R h => ?_⟩⟩
  · intro W' pn xe tk' _
    obtain ⟨te, p1, s1⟩ := hb W' pn xe tk'
    refine ⟨fun pins s σ H D I h => ?_⟩
    obtain ⟨env, st, loc, er, R, po⟩ := h
    exact p1.run pins s σ H D I (s1.run D σ H env st loc er R po)
  · intro a pn
    obtain ⟨te, p1, s1⟩ := hh a pn
    refine ⟨fun pins s σ H D I h => ?_⟩
    obtain ⟨env, st, loc, er, R, po⟩ := h
    exact p1.run pins s σ H D I (s1.run D σ H env st loc er R po)
  · refine ⟨env, st, loc, er, R, ?_⟩
    unfold mTryN at h
    cases q : mb env st with
    | exc c' e1 s1 =>
      rw [q] at h
      simp only [] at h
      intro loc' H' σ' g R' er'
      cases q2 : mt c' with
      | none => simp only [q2] at h; exact h.elim
      | some b =>
        refine ⟨b, hm c' b q2, fun e => ?_, fun e => ⟨cA c', rfl, rfl, fun a ha => ?_⟩⟩
        · subst e
          simp only [q2] at h
          exact h loc' H' σ' g R' er'
        · subst e
          simp only [q2] at h
          have er' : ER X.K H' s1.length loc' e1 σ' := er'
          have G : Grow s1.length loc' H' (s1.length + 1) (put loc' s1.length a) (upd H' a (ExI (cA c') a)) := Grow.lay ha _ _
          have R2 : Rel ⟨X.K, cA⟩ (put loc' s1.length a) (s1 ++ [.ex c']) (upd H' a (ExI (cA c') a)) := (R'.new ha).adopt (R'.ne_new ha) upd_same
          have rr : DR X.K (upd H' a (ExI (cA c') a)) (s1.length + 1) (put loc' s1.length a) (.ref s1.length) (.ref a) := by
            have e : (V.ref a) = .ref (put loc' s1.length a s1.length) := by rw [put_same]
            rw [e]
            exact .ref (Nat.lt_succ_self _)
          have E2 : ER X.K (upd H' a (ExI (cA c') a)) (s1 ++ [Ob.ex c']).length (put loc' s1.length a) (e1.set i (some (.ref s1.length))) (σ'.set i (some (.ref a))) := by
            rw [List.length_append]
            exact (er'.grow G).set i rr
          refine ⟨_, _, _, E2, R2, ?_⟩
          have h := PostS.shift (g.trans G) h
          have eL : s1.length + 1 = (s1 ++ [Ob.ex c']).length := by simp
          rw [eL] at h
          revert h
          cases mh (e1.set i (some (.ref s1.length))) (s1 ++ [Ob.ex c']) with
          | nx e2 s2 => exact fun h loc2 H2 σ2 g2 R2 er2 => h loc2 H2 _ g2 R2 (er2.unset i)
          | ret d s2 => exact fun h => h
          | brk e2 s2 => exact fun h loc2 H2 σ2 g2 R2 er2 => h loc2 H2 _ g2 R2 (er2.unset i)
          | cnt e2 s2 => exact fun h loc2 H2 σ2 g2 R2 er2 => h loc2 H2 _ g2 R2 (er2.unset i)
          | exc c2 e2 s2 => exact fun h => (show False from h).elim
          | bad => exact fun h => (show False from h).elim
    | nx e1 s1 => rw [q] at h; exact h
    | ret e1 s1 => rw [q] at h; exact h
    | brk e1 s1 => rw [q] at h; exact h
    | cnt e1 s1 => rw [q] at h; exact h
    | bad => rw [q] at h; exact h
/-- the classes cs are all caught -/
def mtL (cs : List Str) : Str → Option Bool := fun c => if c ∈ cs then some true else none
theorem mtL_ok {K : PySem.W.Frag} {cA : Str → Addr} {x : Str} {cs : List Str} (h : ∀ c ∈ cs, PySem.W.exmOne K (.ref (cA c)) (.ref (cA x)) = some true) : ∀ c' b, mtL cs c' = some b → PySem.W.exmOne K (.ref (cA c')) (.ref (cA x)) = some b := by
  intro c' b e
  unfold mtL at e
  split at e
  · rename_i q
    cases e
    exact h _ q
  · cases e
/-! ### isinstance of what was caught -/
def rIsX (K : PySem.W.Frag) : List V → Hp → VK → Prop := fun xs H Q => ∃ (a C : Addr) (c : V) (cv : Value) (b : Bool), xs = [.ref a, c] ∧ (∀ u, RelV c u → u = cv) ∧ H a = some (ExI C a) ∧ ExcC K C ∧ PySem.W.kitOne K (.ref C) cv = some b ∧ Q (.bl b) H
theorem call_isX {X : Cx} : CallR X (.builtin "isinstance") (rIsX X.K) := by
  intro pins s σ H xs us Q I r h
  obtain ⟨a, C, c, cv, b, rfl, hcv, ha, E, k, q⟩ := h
  obtain ⟨u1, u2, rfl, r1, r2⟩ := vals2 r
  have e2 := hcv _ r2
  subst e2
  cases r1
  obtain ⟨⟨oe, vs, g, z, d⟩, _, _⟩ := I.hok a _ ha
  have J : PySem.W.InstAt s.heap a oe C none := by
    obtain ⟨oc, od, oda, osl⟩ := oe
    obtain ⟨h1, h2⟩ := z
    dsimp only at h1 h2 d
    subst h1 h2 d
    exact ⟨g, rfl, rfl, trivial⟩
  exact PySem.W.kia_one (PySem.W.handS_kitx_exc E.hg E.hk E.hs E.hd E.ha E.hn E.ht E.hm) I.kIn J k (fun z => nomatch z) fun tk => ⟨.bl b, H, I.tok tk, rfl, q⟩
def excCls (s : Sto) : D → Option Str
  | .ref n => match s[n]? with
    | some (.ex c) => some c
    | _ => none
  | _ => none
def isX (ys ns : List Str) (s : Sto) (x : D) : Option Bool := match excCls s x with
  | some c => if c ∈ ys then some true else if c ∈ ns then some false else none
  | none => none
def mIsX (ys ns : List Str) (a : ME) : ME := fun e s => (a e s).bind fun x s1 => match isX ys ns s1 x with
  | some b => .ok (.bl b) s1
  | none => .bad
@[simp] theorem ev_isX {ys ns : List Str} {x : ME} {e : En} {s : Sto} : mIsX ys ns x e s = (x e s).bind fun a s1 => match isX ys ns s1 a with
  | some b => .ok (.bl b) s1
  | none => .bad := rfl
@[simp] theorem ev_tryN {mt : Str → Option Bool} {i : Nat} {b h : MS} {e : En} {s : Sto} : mTryN mt i b h e s = match b e s with
  | .exc c e1 s1 => match mt c with
    | some true => delS i (noXS (h (e1.set i (some (.ref s1.length))) (s1 ++ [.ex c])))
    | some false => .exc c e1 s1
    | none => .bad
  | r => r := rfl
@[simp] theorem delS_nx {i : Nat} {e : En} {s : Sto} : delS i (.nx e s) = .nx (e.set i none) s := rfl
@[simp] theorem delS_ret {i : Nat} {d : D} {s : Sto} : delS i (.ret d s) = .ret d s := rfl
@[simp] theorem noXS_ret {d : D} {s : Sto} : noXS (.ret d s) = .ret d s := rfl
theorem isX_t {ys ns : List Str} {s : Sto} {n : Nat} {c : Str} (h : s[n]? = some (.ex c)) (m : c ∈ ys) : isX ys ns s (.ref n) = some true := by
  simp [isX, excCls, h, m]
theorem isX_f {ys ns : List Str} {s : Sto} {n : Nat} {c : Str} (h : s[n]? = some (.ex c)) (m : c ∉ ys) (m2 : c ∈ ns) : isX ys ns s (.ref n) = some false := by
  simp [isX, excCls, h, m, m2]
structure IsX (K : PySem.W.Frag) (cA : Str → Addr) (cv : Value) (ys ns : List Str) : Prop where
  y : ∀ c ∈ ys, ExcC K (cA c) ∧ PySem.W.kitOne K (.ref (cA c)) cv = some true
  n : ∀ c ∈ ns, ExcC K (cA c) ∧ PySem.W.kitOne K (.ref (cA c)) cv = some false
section
variable {X : Cx} {cA : Str → Addr} {W : WX} {pos : Pos}
theorem isX_run {st : Sto} {H : Hp} {loc : Nat → Addr} {x : D} {v : V} {cv : Value} {b : Bool} {ys ns : List Str} {c : V} {Q : VK} (R : Rel ⟨X.K, cA⟩ loc st H) (r : DR X.K H st.length loc x v) (h : isX ys ns st x = some b) (k : IsX X.K cA cv ys ns) (hc : ∀ u, RelV c u → u = cv) (q : Q (.bl b) H) : rIsX X.K [v, c] H Q := by
  unfold isX at h
  cases r with
  | @ref n hn =>
    cases e : st[n]? with
    | none => simp [excCls, e] at h
    | some o =>
      cases o with
      | ex c' =>
        have o' : H (loc n) = some (ExI (cA c') (loc n)) := R.ob n _ e
        simp only [excCls, e] at h
        split at h
        · rename_i m; cases h; exact ⟨_, _, _, cv, true, rfl, hc, o', (k.y _ m).1, (k.y _ m).2, q⟩
        · split at h
          · rename_i m; cases h; exact ⟨_, _, _, cv, false, rfl, hc, o', (k.n _ m).1, (k.n _ m).2, q⟩
          · cases h
      | _ => simp [excCls, e] at h
  | _ => simp [excCls] at h
theorem de_isX {C : Str} {a : Expr} {ma : ME} {ys ns : List Str} {p p2 pos : Pos} (hm : X.mg "isinstance" = none) (hm2 : X.mg C = some (.ref (cA C))) (hO : IsX X.K cA (.ref (cA C)) ys ns) (ha : DE X cA W a ma) (hg : Gl X "isinstance" := by rfl) (hg2 : Gl X C := by rfl)
    (hv : bootBuiltins "isinstance" = some (.builtin "isinstance") := by decide +kernel) (hdb2 : (C == ("__debug__" : Str)) = false := by decide)
    (he : starEach [a, .Name C p2] X.env = (false, eval a X.env) :: starEach [.Name C p2] X.env := by rfl) (he2 : starEach [.Name C p2] X.env = (false, eval (.Name C p2) X.env) :: starEach [] X.env := by rfl) (hpl : (backTo pos (starEach [.Name C p2] X.env)).any (·.1) = false := by rfl) :
    DE X cA W (.Call (.Name "isinstance" p) [a, .Name C p2] [] pos) (mIsX ys ns ma) := by
  obtain ⟨ta, p1, s1⟩ := ha
  refine ⟨_, pe_callB call_isX hg hm hv (pa_cons p1 (pa_cons (pe_glob (v := .ref (cA C)) hg2 hm2 rfl hdb2) pa_nil he2) he) (by decide) (by decide) he hpl, ⟨fun σ H env st loc Q er R h => ?_⟩⟩
  refine s1.run σ H env st loc _ er R (post_bind h fun x s1 loc1 H1 v g1 R1 d1 h1 => ?_)
  cases q : isX ys ns s1 x with
  | none => simp only [q] at h1; exact h1.elim
  | some b =>
    simp only [q] at h1
    exact isX_run R1 d1 q hO (fun u r => r) (h1 loc1 H1 _ (Grow.refl _ _ _) R1 (.bl b))
theorem de_isXB {T : String} {x : Str} {a : Expr} {ma : ME} {ys ns : List Str} {p p2 pos : Pos} (hm : X.mg "isinstance" = none) (hm2 : X.mg x = none) (hO : IsX X.K cA (.type T) ys ns) (ha : DE X cA W a ma) (hv2 : bootBuiltins x = some (.type T) := by decide +kernel) (hg : Gl X "isinstance" := by rfl) (hg2 : Gl X x := by rfl)
    (hv : bootBuiltins "isinstance" = some (.builtin "isinstance") := by decide +kernel) (hn2 : x ≠ "__name__" := by decide) (hdb2 : (x == ("__debug__" : Str)) = false := by decide)
    (he : starEach [a, .Name x p2] X.env = (false, eval a X.env) :: starEach [.Name x p2] X.env := by rfl) (he2 : starEach [.Name x p2] X.env = (false, eval (.Name x p2) X.env) :: starEach [] X.env := by rfl) (hpl : (backTo pos (starEach [.Name x p2] X.env)).any (·.1) = false := by rfl) :
    DE X cA W (.Call (.Name "isinstance" p) [a, .Name x p2] [] pos) (mIsX ys ns ma) := by
  obtain ⟨ta, p1, s1⟩ := ha
  refine ⟨_, pe_callB call_isX hg hm hv (pa_cons p1 (pa_cons (pe_bltn (v := .ty T) hg2 hm2 hv2 rfl hn2 hdb2) pa_nil he2) he) (by decide) (by decide) he hpl, ⟨fun σ H env st loc Q er R h => ?_⟩⟩
  refine s1.run σ H env st loc _ er R (post_bind h fun x s1 loc1 H1 v g1 R1 d1 h1 => ?_)
  cases q : isX ys ns s1 x with
  | none => simp only [q] at h1; exact h1.elim
  | some b =>
    simp only [q] at h1
    exact isX_run R1 d1 q hO (fun u r => r) (h1 loc1 H1 _ (Grow.refl _ _ _) R1 (.bl b))
/-- the facts, from what the written part says -/
theorem kit_yes {K : PySem.W.Frag} {C D : Addr} (ic : PySem.W.isClsIn K D = true) (tc : PySem.W.typeIn K (.ref D) = some (.type "type")) (su : PySem.W.subIn K (.ref C) (.ref D) = some true) : PySem.W.kitOne K (.ref C) (.ref D) = some true := by
  unfold PySem.W.kitOne
  split
  · rfl
  · unfold PySem.W.kitCls
    unfold PySem.W.isClsIn at ic
    simp only [ic, tc]
    simpa using su
theorem kit_not {K : PySem.W.Frag} {C D : Addr} (ic : PySem.W.isClsIn K D = true) (tc : PySem.W.typeIn K (.ref D) = some (.type "type")) (sf : PySem.W.subIn K (.ref D) (.ref D) = some true) (su : PySem.W.subIn K (.ref C) (.ref D) = some false) : PySem.W.kitOne K (.ref C) (.ref D) = some false := by
  unfold PySem.W.kitOne
  split
  · rename_i q
    have q : C = D := by simpa using q
    subst q
    rw [su] at sf
    cases sf
  · unfold PySem.W.kitCls
    unfold PySem.W.isClsIn at ic
    simp only [ic, tc]
    simpa using su
theorem kit_bv {K : PySem.W.Frag} {C : Addr} {T : String} {b : Bool} (k : PySem.W.kitMeta T = true) (su : PySem.W.subIn K (.ref C) (.type T) = some b) : PySem.W.kitOne K (.ref C) (.type T) = some b := by
  unfold PySem.W.kitOne
  have e : ((Value.ref C) == .type T) = false := rfl
  rw [e, if_neg (by simp)]
  unfold PySem.W.kitCls
  dsimp only
  rw [if_pos k]
  exact su
end
end Dn
namespace Dn
open PySem PySem.Spec PyProof.Rows L2
section
variable {K : PySem.W.Frag} {cA : Str → Addr} {cv : Value} {ys ns : List Str} {c : Str}
theorem isx_nil : IsX K cA cv [] [] := ⟨(fun _ h => by cases h), (fun _ h => by cases h)⟩
theorem isx_y (e : ExcC K (cA c)) (k : PySem.W.kitOne K (.ref (cA c)) cv = some true) (r : IsX K cA cv ys ns) : IsX K cA cv (c :: ys) ns :=
  ⟨fun d h => by
    rcases List.mem_cons.mp h with rfl | h
    · exact ⟨e, k⟩
    · exact r.y d h, r.n⟩
theorem isx_n (e : ExcC K (cA c)) (k : PySem.W.kitOne K (.ref (cA c)) cv = some false) (r : IsX K cA cv ys ns) : IsX K cA cv ys (c :: ns) :=
  ⟨r.y, fun d h => by
    rcases List.mem_cons.mp h with rfl | h
    · exact ⟨e, k⟩
    · exact r.n d h⟩
theorem xs_of {C D : Addr} (h1 : PySem.W.subIn K (.ref D) (.type "BaseException") = some true) (h2 : PySem.W.typeIn K (.ref D) = some (.type "type")) (h3 : PySem.W.isClsIn K D = true) (h4 : PySem.W.subIn K (.ref C) (.ref D) = some true) : PySem.W.exmOne K (.ref C) (.ref D) = some true := by
  unfold PySem.W.exmOne PySem.W.kitCls
  unfold PySem.W.isClsIn at h3
  simp only [h1, h2, h3]
  simpa using h4
theorem mtL_nil {x : Str} : ∀ c ∈ ([] : List Str), PySem.W.exmOne K (.ref (cA c)) (.ref (cA x)) = some true := fun _ h => by cases h
theorem mtL_cons {x c : Str} {cs : List Str} (h : PySem.W.exmOne K (.ref (cA c)) (.ref (cA x)) = some true) (r : ∀ c ∈ cs, PySem.W.exmOne K (.ref (cA c)) (.ref (cA x)) = some true) : ∀ d ∈ c :: cs, PySem.W.exmOne K (.ref (cA d)) (.ref (cA x)) = some true := fun d hd => by
  rcases List.mem_cons.mp hd with rfl | hd
  · exact h
  · exact r d hd
@[simp] theorem mtL_in {cs : List Str} {c : Str} (h : c ∈ cs) : mtL cs c = some true := if_pos h
end
end Dn
set_option maxRecDepth 100000
namespace Lw
open PySem PySem.Spec PyProof.Rows L2 Dn
def mixF : Nat → Int → Int → Int → Int
  | 0, _, _, t => t
  | j + 1, k, n, t => mixF j (k + 1) ((n * n * 5 + n * 7907 + k * 1299709 + 17) % 2305843009213693951) (t * 2305843009213693951 + (n * n * 5 + n * 7907 + k * 1299709 + 17) % 2305843009213693951)
def mixI (c : Int) : Int := mixF 10 0 (c % 2305843009213693907 + 2) 0
def F_law_mixed (ds : List D) (st : Sto) : Res D := match ds with
  | [.int c] => .ok (.int (mixI c)) st
  | _ => .bad
def srcF : Int → List Int → Int
  | t, [] => t
  | t, c :: r => srcF (if 1000000000000000000 ≤ c then t * 1000003 + (c - 1000000000000000000) else t * 1000003 + mixI c) r
def F_law_source (ds : List D) (st : Sto) : Res D := match ds with
  | [.fz xs] => match intsD xs with
    | some ns => .ok (.ref st.length) (st ++ [.lst [.int (srcF 0 ns)]])
    | none => .bad
  | _ => .bad
def F_law_pick (ds : List D) (st : Sto) : Res D := match ds with
  | [.ref a, .int m] => match rdI st a with
    | some d => if 0 < m ∧ m < 1073741824 then .ok (.int (d % m)) (put1 st a (d / m)) else .bad
    | _ => .bad
  | _ => .bad
end Lw
set_option maxRecDepth 100000
namespace Lw
open PySem PySem.Spec PyProof.Rows L2 Dn
def F_law_is_integer (ds : List D) (st : Sto) : Res D := F_is_int ds st
/-! roads -/
def lenM (longest even first d : Int) : Int := if even = 2 then first else 1 + d % longest
def parM (shape v d : Int) : Int := if shape = 2 then v - 1 else if shape = 1 then 0 else d % v
def genM (longest shape even first : Int) : Nat → Int → Int → List (Int × Int) × Int
  | 0, _, d => ([], d)
  | k + 1, v, d => ((parM shape v (d / longest), lenM longest even first d) :: (genM longest shape even first k (v + 1) (d / longest / v)).1, (genM longest shape even first k (v + 1) (d / longest / v)).2)
def rdsM (d least : Int) : List (Int × Int) × Int :=
  let longest : Int := [6, 2, 40, 1][(d % 4).toNat]?.getD 1
  let shape := d / 4 % 4
  let even := d / 4 / 4 % 3
  let first := 1 + d / 4 / 4 / 3 % longest
  let e := d / 4 / 4 / 3 / longest
  genM longest shape even first (least + e % (10 - least)).toNat 1 (e / (10 - least))
def F_law_roads (ds : List D) (st : Sto) : Res D := match ds with
  | [.ref a, .int least] => match rdI st a with
    | some d => if 0 ≤ least ∧ least < 10 then .ok (.ref st.length) (put1 st a (rdsM d least).2 ++ [.lst ((rdsM d least).1.map prD)]) else .bad
    | _ => .bad
  | _ => .bad
/-! a point -/
def genQ (rs : List (Int × Int)) (d : Int) : (Int × Int) × Int :=
  let v := d / 2 % (rs.length + 1)
  if v = 0 ∨ d % 2 = 0 then ((v, 0), d / 2 / (rs.length + 1)) else ((v, d / 2 / (rs.length + 1) % lenAt rs v), d / 2 / (rs.length + 1) / lenAt rs v)
open Classical in
noncomputable def F_law_point (ds : List D) (st : Sto) : Res D := match ds with
  | [.ref a, .ref r] => match rdI st a, rdR st r with
    | some d, some rs => if okR rs then .ok (prD (genQ rs d).1) (put1 st a (genQ rs d).2) else .bad
    | _, _ => .bad
  | _ => .bad
def ptAt (ps : List (Int × Int)) (k : Int) : Int × Int := ps[k.toNat]?.getD (0, 0)
def hlpF (rs : List (Int × Int)) : Nat → Int → Int → List (Int × Int) → List (Int × Int) × Int
  | 0, _, d, acc => (acc, d)
  | j + 1, k, d, acc => if d % 4 = 3 ∧ 0 < k then hlpF rs j (k + 1) (d / 4 / k) (acc ++ [ptAt acc (d / 4 % k)]) else hlpF rs j (k + 1) (genQ rs (d / 4)).2 (acc ++ [(genQ rs (d / 4)).1])
open Classical in
noncomputable def F_law_helpers (ds : List D) (st : Sto) : Res D := match ds with
  | [.ref a, .ref r, .int many] => match rdI st a, rdR st r with
    | some d, some rs => if okR rs ∧ 0 ≤ many ∧ many < 100 then .ok (.ref st.length) (put1 st a (hlpF rs many.toNat 0 d []).2 ++ [.lst ((hlpF rs many.toNat 0 d []).1.map prD)]) else .bad
    | _, _ => .bad
  | _ => .bad
def calF (rs crew : List (Int × Int)) : Nat → Int → Int → List (Int × Int) → List (Int × Int) × Int
  | 0, _, d, acc => (acc, d)
  | j + 1, k, d, acc => if d % 5 = 4 then calF rs crew j (k + 1) (d / 5 / crew.length) (acc ++ [ptAt crew (d / 5 % crew.length)])
    else if d % 5 = 3 ∧ 0 < k then calF rs crew j (k + 1) (d / 5 / k) (acc ++ [ptAt acc (d / 5 % k)])
    else calF rs crew j (k + 1) (genQ rs (d / 5)).2 (acc ++ [(genQ rs (d / 5)).1])
open Classical in
noncomputable def F_law_calls (ds : List D) (st : Sto) : Res D := match ds with
  | [.ref a, .ref r, .ref c, .int many] => match rdI st a, rdR st r, rdR st c with
    | some d, some rs, some crew => if okR rs ∧ (0 ≤ many ∧ many < 100) ∧ 0 < crew.length ∧ crew.length < 100 then .ok (.ref st.length) (put1 st a (calF rs crew many.toNat 0 d []).2 ++ [.lst ((calF rs crew many.toNat 0 d []).1.map prD)]) else .bad
    | _, _, _ => .bad
  | _ => .bad
open Classical in
noncomputable def F_law_far (ds : List D) (st : Sto) : Res D := match ds with
  | [.ref r, x, y] => match rdR st r, unP x, unP y with
    | some rs, some p, some q => if okR rs ∧ isPt rs p = true ∧ isPt rs q = true then .ok (.int (wayLen rs p q)) st else .bad
    | _, _, _ => .bad
  | _ => .bad
end Lw
set_option maxRecDepth 100000
set_option maxHeartbeats 4000000
namespace Lw
open PySem PySem.Spec PyProof.Rows L2 Dn
noncomputable def b_law_mixed_1 : MS := (mSeq (mSet 4 (mOp fAdd (mOp fMul (mOp fMul (mVar 1) (mVar 1)) (mC (.int 5))) (mOp fMul (mVar 1) (mC (.int 7907))))) (mSeq (mSet 1 (mOp fMod (mFn fInt (mCons (mOp fAdd (mOp fAdd (mVar 4) (mOp fMul (mVar 3) (mC (.int 1299709)))) (mC (.int 17))) mNil)) (mC (.int 2305843009213693951)))) (mSet 2 (mOp fAdd (mOp fMul (mVar 2) (mC (.int 2305843009213693951))) (mVar 1)))))
noncomputable def m_law_mixed : MS := (mSeq (mSet 1 (mOp fAdd (mOp fMod (mFn fInt (mCons (mVar 0) mNil)) (mC (.int 2305843009213693907))) (mC (.int 2)))) (mSeq (mSet 2 (mC (.int 0))) (mSeq (mFor (mRng (mCons (mC (.int 10)) mNil)) (gN 3) b_law_mixed_1) (mRet (mVar 2)))))
noncomputable def b_law_source_1 : MS := (mIfS (mB (mOp fGe (mVar 2) (mOp fPow (mC (.int 10)) (mC (.int 18))))) (mSet 1 (mOp fAdd (mOp fMul (mVar 1) (mC (.int 1000003))) (mOp fSub (mVar 2) (mOp fPow (mC (.int 10)) (mC (.int 18)))))) (mSet 1 (mOp fAdd (mOp fMul (mVar 1) (mC (.int 1000003))) (mCall F_law_mixed (mCons (mVar 2) mNil)))))
noncomputable def m_law_source : MS := (mSeq (mSet 1 (mC (.int 0))) (mSeq (mFor (mIter (mVar 0)) (gN 2) b_law_source_1) (mRet (mLst (mCons (mVar 1) mNil)))))
noncomputable def m_law_pick : MS := (mSeq (mSet 2 (mOp fMod (mFn fInt (mCons (mOp fIdx (mVar 0) (mC (.int 0))) mNil)) (mVar 1))) (mSeq (mAsg (mOp fDiv (mOp fIdx (mVar 0) (mC (.int 0))) (mVar 1)) (gSubM fSetI (mVar 0) (mC (.int 0)))) (mRet (mVar 2))))
noncomputable def m_law_is_integer : MS := (mRet (mAndV (mIsiO ["Tree"] "int" (mVar 0)) (mNotV (mIsiO ["Tree"] "bool" (mVar 0)))))
noncomputable def b_law_roads_1 : MS := (mSeq (mSet 8 (mOp fAdd (mC (.int 1)) (mCall F_law_pick (mCons (mVar 0) (mCons (mVar 2) mNil))))) (mSeq (mIfS (mB (mOp fEq (mVar 4) (mC (.int 2)))) (mSet 8 (mVar 5)) mNext) (mSeq (mSet 9 (mCall F_law_pick (mCons (mVar 0) (mCons (mVar 7) mNil)))) (mSeq (mIfS (mB (mOp fEq (mVar 3) (mC (.int 1)))) (mSet 9 (mC (.int 0))) mNext) (mSeq (mIfS (mB (mOp fEq (mVar 3) (mC (.int 2)))) (mSet 9 (mOp fSub (mVar 7) (mC (.int 1)))) mNext) (mDrop (mMeth fAppend (mVar 6) (mCons (mTup (mCons (mVar 9) (mCons (mVar 8) mNil))) mNil))))))))
noncomputable def m_law_roads : MS := (mSeq (mSet 2 (mOp fIdx (mLst (mCons (mC (.int 6)) (mCons (mC (.int 2)) (mCons (mC (.int 40)) (mCons (mC (.int 1)) mNil))))) (mCall F_law_pick (mCons (mVar 0) (mCons (mC (.int 4)) mNil))))) (mSeq (mSet 3 (mCall F_law_pick (mCons (mVar 0) (mCons (mC (.int 4)) mNil)))) (mSeq (mSet 4 (mCall F_law_pick (mCons (mVar 0) (mCons (mC (.int 3)) mNil)))) (mSeq (mSet 5 (mOp fAdd (mC (.int 1)) (mCall F_law_pick (mCons (mVar 0) (mCons (mVar 2) mNil))))) (mSeq (mSet 6 (mLst mNil)) (mSeq (mFor (mRng (mCons (mC (.int 1)) (mCons (mOp fAdd (mOp fAdd (mC (.int 1)) (mVar 1)) (mCall F_law_pick (mCons (mVar 0) (mCons (mOp fSub (mC (.int 10)) (mVar 1)) mNil)))) mNil))) (gN 7) b_law_roads_1) (mRet (mVar 6))))))))
noncomputable def m_law_point : MS := (mSeq (mSet 2 (mCall F_law_pick (mCons (mVar 0) (mCons (mC (.int 2)) mNil)))) (mSeq (mSet 3 (mCall F_law_pick (mCons (mVar 0) (mCons (mOp fAdd (mFn fLen (mCons (mVar 1) mNil)) (mC (.int 1))) mNil)))) (mSeq (mIfS (mOr (mB (mOp fEq (mVar 3) (mC (.int 0)))) (mB (mOp fEq (mVar 2) (mC (.int 0))))) (mRet (mTup (mCons (mVar 3) (mCons (mC (.int 0)) mNil)))) mNext) (mRet (mTup (mCons (mVar 3) (mCons (mCall F_law_pick (mCons (mVar 0) (mCons (mOp fIdx (mOp fIdx (mVar 1) (mOp fSub (mVar 3) (mC (.int 1)))) (mC (.int 1))) mNil))) mNil)))))))
noncomputable def b_law_helpers_1 : MS := (mSeq (mSet 5 (mCall F_law_pick (mCons (mVar 0) (mCons (mC (.int 4)) mNil)))) (mIfS (mAnd (mB (mOp fEq (mVar 5) (mC (.int 3)))) (mB (mOp fGt (mVar 4) (mC (.int 0))))) (mDrop (mMeth fAppend (mVar 3) (mCons (mOp fIdx (mVar 3) (mCall F_law_pick (mCons (mVar 0) (mCons (mVar 4) mNil)))) mNil))) (mDrop (mMeth fAppend (mVar 3) (mCons (mCall F_law_point (mCons (mVar 0) (mCons (mVar 1) mNil))) mNil)))))
noncomputable def m_law_helpers : MS := (mSeq (mSet 3 (mLst mNil)) (mSeq (mFor (mRng (mCons (mVar 2) mNil)) (gN 4) b_law_helpers_1) (mRet (mVar 3))))
noncomputable def b_law_calls_1 : MS := (mSeq (mSet 6 (mCall F_law_pick (mCons (mVar 0) (mCons (mC (.int 5)) mNil)))) (mIfS (mB (mOp fEq (mVar 6) (mC (.int 4)))) (mDrop (mMeth fAppend (mVar 4) (mCons (mOp fIdx (mVar 2) (mCall F_law_pick (mCons (mVar 0) (mCons (mFn fLen (mCons (mVar 2) mNil)) mNil)))) mNil))) (mIfS (mAnd (mB (mOp fEq (mVar 6) (mC (.int 3)))) (mB (mOp fGt (mVar 5) (mC (.int 0))))) (mDrop (mMeth fAppend (mVar 4) (mCons (mOp fIdx (mVar 4) (mCall F_law_pick (mCons (mVar 0) (mCons (mVar 5) mNil)))) mNil))) (mDrop (mMeth fAppend (mVar 4) (mCons (mCall F_law_point (mCons (mVar 0) (mCons (mVar 1) mNil))) mNil))))))
noncomputable def m_law_calls : MS := (mSeq (mSet 4 (mLst mNil)) (mSeq (mFor (mRng (mCons (mVar 3) mNil)) (gN 5) b_law_calls_1) (mRet (mVar 4))))
noncomputable def b_law_far_1 : MS := (mSeq (mIfS (mB (mOp fEq (mVar 4) (mVar 6))) (mRet (mOp fAdd (mVar 3) (mFn fAbs (mCons (mOp fSub (mVar 5) (mVar 7)) mNil)))) mNext) (mIfS (mB (mOp fGt (mVar 4) (mVar 6))) (mSeq (mSet 3 (mOp fSub (mOp fAdd (mVar 3) (mOp fIdx (mOp fIdx (mVar 0) (mOp fSub (mVar 4) (mC (.int 1)))) (mC (.int 1)))) (mVar 5))) (mPar 4 5 (mOp fIdx (mOp fIdx (mVar 0) (mOp fSub (mVar 4) (mC (.int 1)))) (mC (.int 0))) (mC (.int 0)))) (mSeq (mSet 3 (mOp fSub (mOp fAdd (mVar 3) (mOp fIdx (mOp fIdx (mVar 0) (mOp fSub (mVar 6) (mC (.int 1)))) (mC (.int 1)))) (mVar 7))) (mPar 6 7 (mOp fIdx (mOp fIdx (mVar 0) (mOp fSub (mVar 6) (mC (.int 1)))) (mC (.int 0))) (mC (.int 0))))))
noncomputable def m_law_far : MS := (mSeq (mSet 3 (mC (.int 0))) (mSeq (mAsg (mVar 1) (gT 2 (gConsM (gN 4) (gConsM (gN 5) gNilM)))) (mSeq (mAsg (mVar 2) (gT 2 (gConsM (gN 6) (gConsM (gN 7) gNilM)))) (mSeq (mFor (mRng (mCons (mOp fAdd (mOp fMul (mC (.int 2)) (mFn fLen (mCons (mVar 0) mNil))) (mC (.int 2))) mNil)) (gN 8) b_law_far_1) (mRet (mVar 3))))))
end Lw
set_option maxRecDepth 100000
set_option maxHeartbeats 4000000
namespace Lw
open PySem PySem.Spec PyProof.Rows L2 Dn
theorem mixed_loop {x0 : Option D} {st : Sto} : ∀ (j : Nat) (k n t : Int) (z3 z4 : Option D), 0 ≤ n → n < 4611686018427387904 →
    ∃ z1' z3' z4', forS [] (gN 3) b_law_mixed_1 (rng k j) [x0, some (.int n), some (.int t), z3, z4] st = .nx [x0, z1', some (.int (mixF j k n t)), z3', z4'] st := by
  intro j
  induction j with
  | zero => intro k n t z3 z4 _ _; exact ⟨_, _, _, by rw [rng_nil, for_nil0]; rfl⟩
  | succ j ih =>
    intro k n t z3 z4 h0 h1
    have n0 := Int.emod_nonneg (n * n * 5 + n * 7907 + k * 1299709 + 17) (show (2305843009213693951 : Int) ≠ 0 by omega)
    have n1 := Int.emod_lt_of_pos (n * n * 5 + n * 7907 + k * 1299709 + 17) (show (0 : Int) < 2305843009213693951 by omega)
    obtain ⟨z1', z3', z4', e⟩ := ih (k + 1) _ (t * 2305843009213693951 + (n * n * 5 + n * 7907 + k * 1299709 + 17) % 2305843009213693951) (some (.int k)) (some (.int (n * n * 5 + n * 7907))) n0 (by omega)
    refine ⟨z1', z3', z4', ?_⟩
    have hv : -18446744073709551616 < n ∧ n < 18446744073709551616 := by omega
    rw [rng_cons, for_cons0]
    have step : b_law_mixed_1 [x0, some (.int n), some (.int t), some (.int k), z4] st = .nx [x0, some (.int ((n * n * 5 + n * 7907 + k * 1299709 + 17) % 2305843009213693951)), some (.int (t * 2305843009213693951 + (n * n * 5 + n * 7907 + k * 1299709 + 17) % 2305843009213693951)), some (.int k), some (.int (n * n * 5 + n * 7907))] st := by
      simp [b_law_mixed_1, hv]
    simp only [ev_gN, List.set_cons_succ, List.set_cons_zero]
    rw [step, loopS_nx, e]
    rfl
theorem hm_law_mixed : ∀ ds st0, ds.length = 1 → wfS st0 → wfD.wfDs st0.length ds → Fin st0.length (retR (m_law_mixed (startE 5 ds) st0)) (F_law_mixed ds st0) := by
  intro ds st0 hl hw hd
  unfold F_law_mixed
  split
  · rename_i c
    have n0 := Int.emod_nonneg c (show (2305843009213693907 : Int) ≠ 0 by omega)
    have n1 := Int.emod_lt_of_pos c (show (0 : Int) < 2305843009213693907 by omega)
    obtain ⟨z1', z3', z4', e⟩ := mixed_loop (x0 := some (.int c)) (st := st0) 10 0 (c % 2305843009213693907 + 2) 0 none none (by omega) (by omega)
    have e : retR (m_law_mixed (startE 5 [.int c]) st0) = .ok (.int (mixI c)) st0 := by
      simp [m_law_mixed, startE, e, mixI]
    rw [e]
    exact fin_same (by simp) (wfS_N hw) trivial
  · exact fin_bad
theorem source_loop {x0 : Option D} {st : Sto} : ∀ (ns : List Int) (t : Int) (z : Option D), ∃ z', forS [] (gN 2) b_law_source_1 (ns.map .int) [x0, some (.int t), z] st = .nx [x0, some (.int (srcF t ns)), z'] st := by
  intro ns
  induction ns with
  | nil => intro t z; exact ⟨z, by rw [List.map_nil, for_nil0]; rfl⟩
  | cons c ns ih =>
    intro t z
    obtain ⟨z', e⟩ := ih (if 1000000000000000000 ≤ c then t * 1000003 + (c - 1000000000000000000) else t * 1000003 + mixI c) (some (.int c))
    refine ⟨z', ?_⟩
    rw [List.map_cons, for_cons0]
    have step : b_law_source_1 [x0, some (.int t), some (.int c)] st = .nx [x0, some (.int (if 1000000000000000000 ≤ c then t * 1000003 + (c - 1000000000000000000) else t * 1000003 + mixI c)), some (.int c)] st := by
      by_cases q : (1000000000000000000 : Int) ≤ c <;> simp [b_law_source_1, q, F_law_mixed]
    simp only [ev_gN, List.set_cons_succ, List.set_cons_zero]
    rw [step, loopS_nx, e]
    rfl
theorem hm_law_source : ∀ ds st0, ds.length = 1 → wfS st0 → wfD.wfDs st0.length ds → Fin st0.length (retR (m_law_source (startE 3 ds) st0)) (F_law_source ds st0) := by
  intro ds st0 hl hw hd
  unfold F_law_source
  split
  · split
    · rename_i xs _ ns h
      have hx := intsD_map h
      subst hx
      obtain ⟨z', e⟩ := source_loop (x0 := some (.fz (ns.map .int))) (st := st0) ns 0 none
      have e : retR (m_law_source (startE 3 [.fz (ns.map .int)]) st0) = .ok (.ref st0.length) (st0 ++ [.lst [.int (srcF 0 ns)]]) := by
        simp [m_law_source, startE, e]
      rw [e]
      exact fin_new (t := st0) (m := 0) rfl rfl (wfS_N hw) ⟨trivial, trivial⟩ rfl rfl
    · exact fin_bad
  · exact fin_bad
theorem hm_law_pick : ∀ ds st0, ds.length = 2 → wfS st0 → wfD.wfDs st0.length ds → Fin st0.length (retR (m_law_pick (startE 3 ds) st0)) (F_law_pick ds st0) := by
  intro ds st0 hl hw hd
  unfold F_law_pick
  split
  · split
    · split
      · rename_i a m _ d h c
        have h := rdI_some h
        have e : retR (m_law_pick (startE 3 [.ref a, .int m]) st0) = .ok (.int (d % m)) (put1 st0 a (d / m)) := by
          simp [m_law_pick, startE, h, c]
        rw [e]
        exact fin_same (by simp) (by simp only [List.length_set]; exact wfN_put1 (wfS_N hw)) trivial
      · exact fin_bad
    · exact fin_bad
  · exact fin_bad
theorem put1_put1 {s : Sto} {a : Nat} {x y : Int} : put1 (put1 s a x) a y = put1 s a y := by simp [put1]
theorem rdI_put1 {s : Sto} {a : Nat} {x : Int} (h : a < s.length) : rdI (put1 s a x) a = some x := rdI_of (by simp [put1, rdL_set, h])
theorem pick_eq {st : Sto} {a : Nat} {m d : Int} (h : rdI st a = some d) (h1 : 0 < m) (h2 : m < 1073741824) : F_law_pick [.ref a, .int m] st = .ok (.int (d % m)) (put1 st a (d / m)) := by
  simp [F_law_pick, h, h1, h2]
theorem hm_law_is_integer : ∀ ds st0, ds.length = 1 → wfS st0 → wfD.wfDs st0.length ds → Fin st0.length (retR (m_law_is_integer (startE 1 ds) st0)) (F_law_is_integer ds st0) := hm_is_int
theorem pick_at {st0 R : Sto} {a : Nat} {m d : Int} (la : a < st0.length) (h1 : 0 < m) (h2 : m < 1073741824) : F_law_pick [.ref a, .int m] (put1 st0 a d ++ R) = .ok (.int (d % m)) (put1 st0 a (d / m) ++ R) := by
  have ri : rdI (put1 st0 a d ++ R) a = some d := rdI_of (by rw [rdL_append, if_pos (by simpa using la)]; simp [put1, rdL_set, la])
  rw [pick_eq ri h1 h2]
  simp [put1, List.set_append, la]
theorem self_put {st : Sto} {a : Nat} {d : Int} (h : rdI st a = some d) : put1 st a d = st := set_idL (rdI_some h)
theorem roadsM_loop {a : Nat} {longest shape even first : Int} {st0 : Sto} {x1 : Option D} (la : a < st0.length) (hL : 0 < longest ∧ longest < 100) : ∀ (k : Nat) (v d : Int) (acc : List (Int × Int)) (z7 z8 z9 : Option D), 0 < v → v + k < 2000 → acc.length + k < 2000 →
    ∃ y7 y8 y9, forS [] (gN 7) b_law_roads_1 (rng v k) [some (.ref a), x1, some (.int longest), some (.int shape), some (.int even), some (.int first), some (.ref (st0.length + 1)), z7, z8, z9] (put1 st0 a d ++ [.lst [.int 6, .int 2, .int 40, .int 1], .lst (acc.map prD)]) =
      .nx [some (.ref a), x1, some (.int longest), some (.int shape), some (.int even), some (.int first), some (.ref (st0.length + 1)), y7, y8, y9] (put1 st0 a (genM longest shape even first k v d).2 ++ [.lst [.int 6, .int 2, .int 40, .int 1], .lst ((acc ++ (genM longest shape even first k v d).1).map prD)]) := by
  intro k
  induction k with
  | zero => intro v d acc z7 z8 z9 _ _ _; exact ⟨z7, z8, z9, by rw [rng_nil, for_nil0]; simp [genM]⟩
  | succ k ih =>
    intro v d acc z7 z8 z9 hv hk ha
    obtain ⟨y7, y8, y9, e⟩ := ih (v + 1) (d / longest / v) (acc ++ [(parM shape v (d / longest), lenM longest even first d)]) (some (.int v)) (some (.int (lenM longest even first d))) (some (.int (parM shape v (d / longest)))) (by omega) (by omega) (by simp; omega)
    refine ⟨y7, y8, y9, ?_⟩
    have p1 := pick_at (R := [.lst [.int 6, .int 2, .int 40, .int 1], .lst (acc.map prD)]) (d := d) la hL.1 (by omega)
    have p2 := pick_at (R := [.lst [.int 6, .int 2, .int 40, .int 1], .lst (acc.map prD)]) (d := d / longest) la hv (by omega)
    have rl : ∀ x, rdL (put1 st0 a x ++ [.lst [.int 6, .int 2, .int 40, .int 1], .lst (acc.map prD)]) (st0.length + 1) = some (acc.map prD) := fun x => by simp [rdL_append]
    have w : acc.length < 100000 := by omega
    have step : b_law_roads_1 [some (.ref a), x1, some (.int longest), some (.int shape), some (.int even), some (.int first), some (.ref (st0.length + 1)), some (.int v), z8, z9] (put1 st0 a d ++ [.lst [.int 6, .int 2, .int 40, .int 1], .lst (acc.map prD)]) =
        .nx [some (.ref a), x1, some (.int longest), some (.int shape), some (.int even), some (.int first), some (.ref (st0.length + 1)), some (.int v), some (.int (lenM longest even first d)), some (.int (parM shape v (d / longest)))] (put1 st0 a (d / longest / v) ++ [.lst [.int 6, .int 2, .int 40, .int 1], .lst ((acc ++ [(parM shape v (d / longest), lenM longest even first d)]).map prD)]) := by
      by_cases q1 : even = 2
      · by_cases q2 : shape = 2
        · simp -implicitDefEqProofs [b_law_roads_1, p1, p2, q1, q2, rl, w, lenM, parM, List.set_append, prD]
        · by_cases q3 : shape = 1
          · simp -implicitDefEqProofs [b_law_roads_1, p1, p2, q1, q2, q3, rl, w, lenM, parM, List.set_append, prD]
          · simp -implicitDefEqProofs [b_law_roads_1, p1, p2, q1, q2, q3, rl, w, lenM, parM, List.set_append, prD]
      · by_cases q2 : shape = 2
        · simp -implicitDefEqProofs [b_law_roads_1, p1, p2, q1, q2, rl, w, lenM, parM, List.set_append, prD]
        · by_cases q3 : shape = 1
          · simp -implicitDefEqProofs [b_law_roads_1, p1, p2, q1, q2, q3, rl, w, lenM, parM, List.set_append, prD]
          · simp -implicitDefEqProofs [b_law_roads_1, p1, p2, q1, q2, q3, rl, w, lenM, parM, List.set_append, prD]
    rw [rng_cons, for_cons0]
    simp only [ev_gN, List.set_cons_succ, List.set_cons_zero]
    rw [step, loopS_nx, e]
    simp [genM]
theorem genM_len {longest shape even first : Int} : ∀ {k : Nat} {v d : Int}, (genM longest shape even first k v d).1.length = k
  | 0, _, _ => rfl
  | k + 1, v, d => by simp [genM, genM_len (k := k)]
theorem hm_law_roads : ∀ ds st0, ds.length = 2 → wfS st0 → wfD.wfDs st0.length ds → Fin st0.length (retR (m_law_roads (startE 10 ds) st0)) (F_law_roads ds st0) := by
  intro ds st0 hl hw hd
  unfold F_law_roads
  split
  · split
    · split
      · rename_i a least _ d h c
        have la := rdL_lt (rdI_some h)
        have sp := self_put h
        have m0 := Int.emod_nonneg d (show (4 : Int) ≠ 0 by omega)
        have m1 := Int.emod_lt_of_pos d (show (0 : Int) < 4 by omega)
        obtain ⟨longest, hlong, hL, a1⟩ : ∃ longest : Int, [6, 2, 40, 1][(d % 4).toNat]?.getD 1 = longest ∧ (0 < longest ∧ longest < 100) ∧ atI [D.int 6, D.int 2, D.int 40, D.int 1] (d % 4) = some (.int longest) := by
          have : d % 4 = 0 ∨ d % 4 = 1 ∨ d % 4 = 2 ∨ d % 4 = 3 := by omega
          rcases this with e | e | e | e <;> rw [e]
          · exact ⟨6, rfl, by omega, rfl⟩
          · exact ⟨2, rfl, by omega, rfl⟩
          · exact ⟨40, rfl, by omega, rfl⟩
          · exact ⟨1, rfl, by omega, rfl⟩
        obtain ⟨e0, he0⟩ : ∃ e, d / 4 / 4 / 3 / longest = e := ⟨_, rfl⟩
        have n0 := Int.emod_nonneg e0 (show 10 - least ≠ 0 by omega)
        have n1 := Int.emod_lt_of_pos e0 (show (0 : Int) < 10 - least by omega)
        have P := fun (R : Sto) (x m : Int) h1 h2 => pick_at (st0 := st0) (R := R) (a := a) (d := x) (m := m) la h1 h2
        have q0 := P [.lst [.int 6, .int 2, .int 40, .int 1]] d 4 (by omega) (by omega)
        have q1 := P [.lst [.int 6, .int 2, .int 40, .int 1]] (d / 4) 4 (by omega) (by omega)
        have q2 := P [.lst [.int 6, .int 2, .int 40, .int 1]] (d / 4 / 4) 3 (by omega) (by omega)
        have q3 := P [.lst [.int 6, .int 2, .int 40, .int 1]] (d / 4 / 4 / 3) longest hL.1 (by omega)
        have q4 := P [.lst [.int 6, .int 2, .int 40, .int 1], .lst []] e0 (10 - least) (by omega) (by omega)
        rw [sp] at q0
        rw [he0] at q3
        obtain ⟨y7, y8, y9, lp⟩ := roadsM_loop (x1 := some (.int least)) (shape := d / 4 % 4) (even := d / 4 / 4 % 3) (first := 1 + d / 4 / 4 / 3 % longest) la hL (least + e0 % (10 - least)).toNat 1 (e0 / (10 - least)) [] none none none (by omega) (by omega) (by simp; omega)
        have bb : -4611686018427387904 ≤ 1 + least + e0 % (10 - least) ∧ 1 + least + e0 % (10 - least) < 4611686018427387904 := by omega
        have cc : 1 + least + e0 % (10 - least) - 1 = least + e0 % (10 - least) := by omega
        have e : retR (m_law_roads (startE 10 [.ref a, .int least]) st0) = .ok (.ref (st0.length + 1)) (put1 st0 a (rdsM d least).2 ++ [.lst [.int 6, .int 2, .int 40, .int 1], .lst ((rdsM d least).1.map prD)]) := by
          simp only [List.map_nil, List.nil_append] at lp
          simp -implicitDefEqProofs [m_law_roads, startE, q0, a1, q1, q2, q3, q4, bb, cc, lp, rdL_append]
          simp only [rdsM, hlong, he0]
        rw [e]
        exact fin_new (m := 1) (by simp) rfl (wfN_put1 (wfS_N hw)) wf_prs rfl rfl
      · exact fin_bad
    · exact fin_bad
  · exact fin_bad
theorem hm_law_point : ∀ ds st0, ds.length = 2 → wfS st0 → wfD.wfDs st0.length ds → Fin st0.length (retR (m_law_point (startE 4 ds) st0)) (F_law_point ds st0) := by
  intro ds st0 hl hw hd
  unfold F_law_point
  split
  · split
    · split
      · rename_i a r _ _ d rs h h' c
        have la := rdL_lt (rdI_some h)
        have sp := self_put h
        have h' := rdR_some h'
        have har := ne_IR (rdI_some h) h'
        have hn := c.1
        have n0 : (0 : Int) < rs.length + 1 := by omega
        have m0 := Int.emod_nonneg (d / 2) (show (rs.length : Int) + 1 ≠ 0 by omega)
        have m1 := Int.emod_lt_of_pos (d / 2) n0
        have P := fun (x m : Int) h1 h2 => pick_at (st0 := st0) (R := []) (a := a) (d := x) (m := m) la h1 h2
        simp only [List.append_nil] at P
        have q0 := P d 2 (by omega) (by omega)
        have q1 := P (d / 2) (rs.length + 1) n0 (by omega)
        rw [sp] at q0
        have rr : ∀ x, rdL (put1 st0 a x) r = some (rs.map prD) := fun x => by simp [put1, rdL_set, har, h']
        have e : retR (m_law_point (startE 4 [.ref a, .ref r]) st0) = .ok (prD (genQ rs d).1) (put1 st0 a (genQ rs d).2) := by
          by_cases z1 : d / 2 % (rs.length + 1) = 0
          · simp -implicitDefEqProofs [m_law_point, startE, q0, q1, rr, h', z1, genQ, prD]
          · by_cases z2 : d % 2 = 0
            · simp -implicitDefEqProofs [m_law_point, startE, q0, q1, rr, h', z1, z2, genQ, prD]
            · obtain ⟨p, e1, e2, e3, p0, p1, l0, l1⟩ := okR_get c (v := d / 2 % (rs.length + 1)) (by omega) (by omega)
              have e4 := atI_P (by omega) e1
              have q2 := P (d / 2 / (rs.length + 1)) p.2 l0 (by omega)
              simp only [prD] at e4
              simp -implicitDefEqProofs [m_law_point, startE, q0, q1, rr, h', z1, z2, genQ, prD, e4, q2, e3]
        rw [e]
        exact fin_same (by simp) (by simp only [List.length_set]; exact wfN_put1 (wfS_N hw)) ⟨trivial, trivial, trivial⟩
      · exact fin_bad
    · exact fin_bad
  · exact fin_bad
end Lw
set_option maxRecDepth 100000
set_option maxHeartbeats 4000000
namespace Lw
open PySem PySem.Spec PyProof.Rows L2 Dn
theorem ptAt_at {ps : List (Int × Int)} {k : Int} (k0 : 0 ≤ k) (k1 : k < ps.length) : atI (ps.map prD) k = some (prD (ptAt ps k)) := by
  have hl : k.toNat < ps.length := by omega
  refine atI_nat' k0 ?_
  rw [List.getElem?_map]
  unfold ptAt
  rw [List.getElem?_eq_getElem hl]
  rfl
theorem pointM_at {st0 R : Sto} {a r : Nat} {x : Int} {rs : List (Int × Int)} (c : okR rs) (la : a < st0.length) (hr : rdL (put1 st0 a x ++ R) r = some (rs.map prD)) : F_law_point [.ref a, .ref r] (put1 st0 a x ++ R) = .ok (prD (genQ rs x).1) (put1 st0 a (genQ rs x).2 ++ R) := by
  have ri : rdI (put1 st0 a x ++ R) a = some x := rdI_of (by rw [rdL_append, if_pos (by simpa using la)]; simp [put1, rdL_set, la])
  have pa : ∀ y, put1 (put1 st0 a x ++ R) a y = put1 st0 a y ++ R := fun y => by simp [put1, List.set_append, la]
  simp only [F_law_point, ri, rdR_of hr, if_pos c, pa]
theorem helpers_loop {a r : Nat} {rs : List (Int × Int)} {st0 : Sto} {x2 : Option D} (c : okR rs) (la : a < st0.length) (har : a ≠ r) (hr : rdL st0 r = some (rs.map prD)) : ∀ (j : Nat) (k d : Int) (acc : List (Int × Int)) (z4 z5 : Option D), k = acc.length → acc.length + j < 2000 →
    ∃ y4 y5, forS [] (gN 4) b_law_helpers_1 (rng k j) [some (.ref a), some (.ref r), x2, some (.ref st0.length), z4, z5] (put1 st0 a d ++ [.lst (acc.map prD)]) = .nx [some (.ref a), some (.ref r), x2, some (.ref st0.length), y4, y5] (put1 st0 a (hlpF rs j k d acc).2 ++ [.lst ((hlpF rs j k d acc).1.map prD)]) := by
  have lr := rdL_lt hr
  have rr : ∀ x (R : Sto), rdL (put1 st0 a x ++ R) r = some (rs.map prD) := fun x R => by rw [rdL_append, if_pos (by simpa using lr)]; simp [put1, rdL_set, har, hr]
  intro j
  induction j with
  | zero => intro k d acc z4 z5 _ _; exact ⟨z4, z5, by rw [rng_nil, for_nil0]; simp [hlpF]⟩
  | succ j ih =>
    intro k d acc z4 z5 hk ha
    have p1 := pick_at (st0 := st0) (a := a) (R := [.lst (acc.map prD)]) (d := d) (m := 4) la (by omega) (by omega)
    have ra : ∀ x, rdL (put1 st0 a x ++ [.lst (acc.map prD)]) st0.length = some (acc.map prD) := fun x => by simp [rdL_append]
    have w : acc.length < 100000 := by omega
    rw [rng_cons, for_cons0]
    simp only [ev_gN, List.set_cons_succ, List.set_cons_zero]
    by_cases q : d % 4 = 3 ∧ 0 < k
    · have p2 := pick_at (st0 := st0) (a := a) (R := [.lst (acc.map prD)]) (d := d / 4) (m := k) la q.2 (by omega)
      have n0 := Int.emod_nonneg (d / 4) (show k ≠ 0 by omega)
      have n1 := Int.emod_lt_of_pos (d / 4) q.2
      have pa := ptAt_at (ps := acc) n0 (by omega)
      obtain ⟨y4, y5, e⟩ := ih (k + 1) (d / 4 / k) (acc ++ [ptAt acc (d / 4 % k)]) (some (.int k)) (some (.int (d % 4))) (by simp; omega) (by simp; omega)
      refine ⟨y4, y5, ?_⟩
      have step : b_law_helpers_1 [some (.ref a), some (.ref r), x2, some (.ref st0.length), some (.int k), z5] (put1 st0 a d ++ [.lst (acc.map prD)]) = .nx [some (.ref a), some (.ref r), x2, some (.ref st0.length), some (.int k), some (.int (d % 4))] (put1 st0 a (d / 4 / k) ++ [.lst ((acc ++ [ptAt acc (d / 4 % k)]).map prD)]) := by
        simp -implicitDefEqProofs [b_law_helpers_1, p1, q.1, q.2, p2, ra, pa, w, List.set_append]
      rw [step, loopS_nx, e]
      simp [hlpF, q]
    · have pp := pointM_at (R := [.lst (acc.map prD)]) (x := d / 4) c la (rr _ _)
      obtain ⟨y4, y5, e⟩ := ih (k + 1) (genQ rs (d / 4)).2 (acc ++ [(genQ rs (d / 4)).1]) (some (.int k)) (some (.int (d % 4))) (by simp; omega) (by simp; omega)
      refine ⟨y4, y5, ?_⟩
      have step : b_law_helpers_1 [some (.ref a), some (.ref r), x2, some (.ref st0.length), some (.int k), z5] (put1 st0 a d ++ [.lst (acc.map prD)]) = .nx [some (.ref a), some (.ref r), x2, some (.ref st0.length), some (.int k), some (.int (d % 4))] (put1 st0 a (genQ rs (d / 4)).2 ++ [.lst ((acc ++ [(genQ rs (d / 4)).1]).map prD)]) := by
        by_cases q1 : d % 4 = 3
        · have q2 : ¬ 0 < k := fun z => q ⟨q1, z⟩
          simp -implicitDefEqProofs [b_law_helpers_1, p1, q1, q2, pp, ra, w, List.set_append]
        · simp -implicitDefEqProofs [b_law_helpers_1, p1, q1, pp, ra, w, List.set_append]
      rw [step, loopS_nx, e]
      simp [hlpF, q]
theorem hm_law_helpers : ∀ ds st0, ds.length = 3 → wfS st0 → wfD.wfDs st0.length ds → Fin st0.length (retR (m_law_helpers (startE 6 ds) st0)) (F_law_helpers ds st0) := by
  intro ds st0 hl hw hd
  unfold F_law_helpers
  split
  · split
    · split
      · rename_i a r many _ _ d rs h h' c
        have la := rdL_lt (rdI_some h)
        have sp := self_put h
        have h' := rdR_some h'
        have har := ne_IR (rdI_some h) h'
        obtain ⟨y4, y5, e⟩ := helpers_loop (x2 := some (.int many)) c.1 la har h' many.toNat 0 d [] none none rfl (by simp; omega)
        rw [sp] at e
        have bb : -4611686018427387904 ≤ many ∧ many < 4611686018427387904 := by omega
        have e : retR (m_law_helpers (startE 6 [.ref a, .ref r, .int many]) st0) = .ok (.ref st0.length) (put1 st0 a (hlpF rs many.toNat 0 d []).2 ++ [.lst ((hlpF rs many.toNat 0 d []).1.map prD)]) := by
          simp only [List.map_nil] at e
          simp -implicitDefEqProofs [m_law_helpers, startE, bb, e]
        rw [e]
        exact fin_new (m := 0) (by simp) rfl (wfN_put1 (wfS_N hw)) wf_prs rfl rfl
      · exact fin_bad
    · exact fin_bad
  · exact fin_bad
theorem calls_loop {a r cr : Nat} {rs crew : List (Int × Int)} {st0 : Sto} {x3 : Option D} (c : okR rs) (la : a < st0.length) (har : a ≠ r) (hac : a ≠ cr) (hr : rdL st0 r = some (rs.map prD)) (hc : rdL st0 cr = some (crew.map prD)) (hcl : 0 < crew.length ∧ crew.length < 100) : ∀ (j : Nat) (k d : Int) (acc : List (Int × Int)) (z5 z6 : Option D), k = acc.length → acc.length + j < 2000 →
    ∃ y5 y6, forS [] (gN 5) b_law_calls_1 (rng k j) [some (.ref a), some (.ref r), some (.ref cr), x3, some (.ref st0.length), z5, z6] (put1 st0 a d ++ [.lst (acc.map prD)]) = .nx [some (.ref a), some (.ref r), some (.ref cr), x3, some (.ref st0.length), y5, y6] (put1 st0 a (calF rs crew j k d acc).2 ++ [.lst ((calF rs crew j k d acc).1.map prD)]) := by
  have lr := rdL_lt hr
  have lc := rdL_lt hc
  have rr : ∀ x (R : Sto), rdL (put1 st0 a x ++ R) r = some (rs.map prD) := fun x R => by rw [rdL_append, if_pos (by simpa using lr)]; simp [put1, rdL_set, har, hr]
  have rc : ∀ x (R : Sto), rdL (put1 st0 a x ++ R) cr = some (crew.map prD) := fun x R => by rw [rdL_append, if_pos (by simpa using lc)]; simp [put1, rdL_set, hac, hc]
  intro j
  induction j with
  | zero => intro k d acc z5 z6 _ _; exact ⟨z5, z6, by rw [rng_nil, for_nil0]; simp [calF]⟩
  | succ j ih =>
    intro k d acc z5 z6 hk ha
    have p1 := pick_at (st0 := st0) (a := a) (R := [.lst (acc.map prD)]) (d := d) (m := 5) la (by omega) (by omega)
    have ra : ∀ x, rdL (put1 st0 a x ++ [.lst (acc.map prD)]) st0.length = some (acc.map prD) := fun x => by simp [rdL_append]
    have w : acc.length < 100000 := by omega
    rw [rng_cons, for_cons0]
    simp only [ev_gN, List.set_cons_succ, List.set_cons_zero]
    by_cases q4 : d % 5 = 4
    · have hN : (0 : Int) < crew.length := by omega
      have p2 := pick_at (st0 := st0) (a := a) (R := [.lst (acc.map prD)]) (d := d / 5) (m := crew.length) la hN (by omega)
      have n0 := Int.emod_nonneg (d / 5) (show (crew.length : Int) ≠ 0 by omega)
      have n1 := Int.emod_lt_of_pos (d / 5) hN
      have pa := ptAt_at (ps := crew) n0 n1
      obtain ⟨y5, y6, e⟩ := ih (k + 1) (d / 5 / crew.length) (acc ++ [ptAt crew (d / 5 % crew.length)]) (some (.int k)) (some (.int (d % 5))) (by simp; omega) (by simp; omega)
      refine ⟨y5, y6, ?_⟩
      have step : b_law_calls_1 [some (.ref a), some (.ref r), some (.ref cr), x3, some (.ref st0.length), some (.int k), z6] (put1 st0 a d ++ [.lst (acc.map prD)]) = .nx [some (.ref a), some (.ref r), some (.ref cr), x3, some (.ref st0.length), some (.int k), some (.int (d % 5))] (put1 st0 a (d / 5 / crew.length) ++ [.lst ((acc ++ [ptAt crew (d / 5 % crew.length)]).map prD)]) := by
        simp -implicitDefEqProofs [b_law_calls_1, p1, q4, rc, p2, ra, pa, w, List.set_append]
      rw [step, loopS_nx, e]
      simp [calF, q4]
    · by_cases q : d % 5 = 3 ∧ 0 < k
      · have p2 := pick_at (st0 := st0) (a := a) (R := [.lst (acc.map prD)]) (d := d / 5) (m := k) la q.2 (by omega)
        have n0 := Int.emod_nonneg (d / 5) (show k ≠ 0 by omega)
        have n1 := Int.emod_lt_of_pos (d / 5) q.2
        have pa := ptAt_at (ps := acc) n0 (by omega)
        obtain ⟨y5, y6, e⟩ := ih (k + 1) (d / 5 / k) (acc ++ [ptAt acc (d / 5 % k)]) (some (.int k)) (some (.int (d % 5))) (by simp; omega) (by simp; omega)
        refine ⟨y5, y6, ?_⟩
        have step : b_law_calls_1 [some (.ref a), some (.ref r), some (.ref cr), x3, some (.ref st0.length), some (.int k), z6] (put1 st0 a d ++ [.lst (acc.map prD)]) = .nx [some (.ref a), some (.ref r), some (.ref cr), x3, some (.ref st0.length), some (.int k), some (.int (d % 5))] (put1 st0 a (d / 5 / k) ++ [.lst ((acc ++ [ptAt acc (d / 5 % k)]).map prD)]) := by
          simp -implicitDefEqProofs [b_law_calls_1, p1, q.1, q.2, p2, ra, pa, w, List.set_append]
        rw [step, loopS_nx, e]
        simp [calF, q]
      · have pp := pointM_at (R := [.lst (acc.map prD)]) (x := d / 5) c la (rr _ _)
        obtain ⟨y5, y6, e⟩ := ih (k + 1) (genQ rs (d / 5)).2 (acc ++ [(genQ rs (d / 5)).1]) (some (.int k)) (some (.int (d % 5))) (by simp; omega) (by simp; omega)
        refine ⟨y5, y6, ?_⟩
        have step : b_law_calls_1 [some (.ref a), some (.ref r), some (.ref cr), x3, some (.ref st0.length), some (.int k), z6] (put1 st0 a d ++ [.lst (acc.map prD)]) = .nx [some (.ref a), some (.ref r), some (.ref cr), x3, some (.ref st0.length), some (.int k), some (.int (d % 5))] (put1 st0 a (genQ rs (d / 5)).2 ++ [.lst ((acc ++ [(genQ rs (d / 5)).1]).map prD)]) := by
          by_cases q1 : d % 5 = 3
          · have q2 : ¬ 0 < k := fun z => q ⟨q1, z⟩
            simp -implicitDefEqProofs [b_law_calls_1, p1, q1, q2, pp, ra, w, List.set_append]
          · simp -implicitDefEqProofs [b_law_calls_1, p1, q1, q4, pp, ra, w, List.set_append]
        rw [step, loopS_nx, e]
        simp [calF, q, q4]
theorem hm_law_calls : ∀ ds st0, ds.length = 4 → wfS st0 → wfD.wfDs st0.length ds → Fin st0.length (retR (m_law_calls (startE 7 ds) st0)) (F_law_calls ds st0) := by
  intro ds st0 hl hw hd
  unfold F_law_calls
  split
  · split
    · split
      · rename_i a r cr many _ _ _ d rs crew h h' hc c
        have la := rdL_lt (rdI_some h)
        have sp := self_put h
        have h' := rdR_some h'
        have hc := rdR_some hc
        have har := ne_IR (rdI_some h) h'
        have hac := ne_IR (rdI_some h) hc
        obtain ⟨y5, y6, e⟩ := calls_loop (x3 := some (.int many)) c.1 la har hac h' hc c.2.2 many.toNat 0 d [] none none rfl (by simp; omega)
        rw [sp] at e
        have bb : -4611686018427387904 ≤ many ∧ many < 4611686018427387904 := by omega
        have e : retR (m_law_calls (startE 7 [.ref a, .ref r, .ref cr, .int many]) st0) = .ok (.ref st0.length) (put1 st0 a (calF rs crew many.toNat 0 d []).2 ++ [.lst ((calF rs crew many.toNat 0 d []).1.map prD)]) := by
          simp only [List.map_nil] at e
          simp -implicitDefEqProofs [m_law_calls, startE, bb, e]
        rw [e]
        exact fin_new (m := 0) (by simp) rfl (wfN_put1 (wfS_N hw)) wf_prs rfl rfl
      · exact fin_bad
    · exact fin_bad
  · exact fin_bad
/-- the top does not change when the greater node goes up -/
theorem top_step {rs : List (Int × Int)} (c : okR rs) {a u b w : Int} (ha : 0 ≤ a ∧ a ≤ (rs.length : Int)) (hb : 0 ≤ b ∧ b ≤ (rs.length : Int)) (hu : 0 ≤ u) (hw : 0 ≤ w) (q : b < a) : top rs (parAt rs a, 0) (b, w) = top rs (a, u) (b, w) := by
  have t := topN_up c (p := (a, u)) (q := (b, w)) ha hb q
  have e1 := topU_eq (rs := rs) (p := (a, u)) (q := (b, w)) hu hw
  have e2 := topU_eq (rs := rs) (p := (parAt rs a, 0)) (q := (b, w)) (by simp) hw
  unfold top
  rw [e1, e2, ← t.1]
  simp only [if_neg (Ne.symm t.2)]
  congr 1
  simp
theorem way_step {rs : List (Int × Int)} (c : okR rs) {a u b w : Int} (ha : 0 ≤ a ∧ a ≤ (rs.length : Int)) (hb : 0 ≤ b ∧ b ≤ (rs.length : Int)) (hu : 0 ≤ u) (hw : 0 ≤ w) (q : b < a) : wayLen rs (a, u) (b, w) = lenAt rs a - u + wayLen rs (parAt rs a, 0) (b, w) := by
  have t := top_step c ha hb hu hw q
  have d := depV_rec c (v := a) (by omega) ha.2
  unfold wayLen
  rw [t]
  simp only [depAt_eq]
  omega
theorem way_same {rs : List (Int × Int)} (c : okR rs) {a u w : Int} (ha : 0 ≤ a ∧ a ≤ (rs.length : Int)) (hu : 0 ≤ u) (hw : 0 ≤ w) : wayLen rs (a, u) (a, w) = ((u - w).natAbs : Nat) := by
  have e := topN_same c (u := u) (w := w) ha.1 ha.2
  have e2 := topU_eq (rs := rs) (p := (a, u)) (q := (a, w)) hu hw
  rw [e] at e2
  simp only [if_true] at e2
  have t : top rs (a, u) (a, w) = (a, max u w) := by
    unfold top
    rw [e2, e]
  unfold wayLen
  rw [t]
  simp only [depAt_eq]
  omega
theorem way_comm {rs : List (Int × Int)} (c : okR rs) {p q : Int × Int} (cp : Vp rs p) (cq : Vp rs q) : wayLen rs p q = wayLen rs q p := by
  unfold wayLen
  rw [top_sym c cp cq]
  omega
theorem par_vp {rs : List (Int × Int)} (c : okR rs) {v : Int} (h1 : 0 < v) (h2 : v ≤ rs.length) : Vp rs (parAt rs v, 0) := by
  have k := okR_at c h1 h2
  exact ⟨k.1, by show parAt rs v ≤ _; omega, by simp, fun _ => rfl, fun z => (okR_at c z (by show parAt rs v ≤ _; omega)).2.2⟩
theorem far_loop {r : Nat} {rs : List (Int × Int)} {st0 : Sto} {x1 x2 : Option D} (c : okR rs) (hr : rdL st0 r = some (rs.map prD)) : ∀ (j : Nat) (k f v u w h : Int) (z : Option D), Vp rs (v, u) → Vp rs (w, h) → v + w < j →
    retR (seqS (forS [] (gN 8) b_law_far_1 (rng k j) [some (.ref r), x1, x2, some (.int f), some (.int v), some (.int u), some (.int w), some (.int h), z] st0) (mRet (mVar 3))) = .ok (.int (f + wayLen rs (v, u) (w, h))) st0 := by
  intro j
  induction j with
  | zero =>
    intro k f v u w h z cp cq hj
    have := cp.lo
    have := cq.lo
    simp only at *
    omega
  | succ j ih =>
    intro k f v u w h z cp cq hj
    have v0 := cp.lo
    have w0 := cq.lo
    have v1 := cp.hi
    have w1 := cq.hi
    have u0 := cp.ul
    have h0 := cq.ul
    simp only at v0 w0 v1 w1 u0 h0
    rw [rng_cons, for_cons0]
    simp only [ev_gN, List.set_cons_succ, List.set_cons_zero]
    by_cases q : v = w
    · subst q
      have ws := way_same c (a := v) (u := u) (w := h) ⟨v0, v1⟩ u0 h0
      rw [ws]
      simp [b_law_far_1, fAbs]
      split <;> omega
    · by_cases q2 : w < v
      · obtain ⟨p, e1, e2, e3, p0, p1, l0, l1⟩ := okR_get c (v := v) (by omega) v1
        have e4 := atI_P (by omega) e1
        have ws := way_step c (a := v) (u := u) (b := w) (w := h) ⟨v0, v1⟩ ⟨w0, w1⟩ u0 h0 q2
        have := ih (k + 1) (f + p.2 - u) p.1 0 w h (some (.int k)) (e2 ▸ par_vp c (by omega) v1) cq (by push_cast at hj; omega)
        have step : b_law_far_1 [some (.ref r), x1, x2, some (.int f), some (.int v), some (.int u), some (.int w), some (.int h), some (.int k)] st0 = .nx [some (.ref r), x1, x2, some (.int (f + p.2 - u)), some (.int p.1), some (.int 0), some (.int w), some (.int h), some (.int k)] st0 := by
          simp -implicitDefEqProofs [b_law_far_1, q, q2, hr, e4, prD]
        rw [step, loopS_nx, this, ws, e2, e3]
        congr 2
        omega
      · obtain ⟨p, e1, e2, e3, p0, p1, l0, l1⟩ := okR_get c (v := w) (by omega) w1
        have e4 := atI_P (by omega) e1
        have ws := way_step c (a := w) (u := h) (b := v) (w := u) ⟨w0, w1⟩ ⟨v0, v1⟩ h0 u0 (by omega)
        have cpar : Vp rs (p.1, 0) := e2 ▸ par_vp c (by omega) w1
        have := ih (k + 1) (f + p.2 - h) v u p.1 0 (some (.int k)) cp cpar (by push_cast at hj; omega)
        have step : b_law_far_1 [some (.ref r), x1, x2, some (.int f), some (.int v), some (.int u), some (.int w), some (.int h), some (.int k)] st0 = .nx [some (.ref r), x1, x2, some (.int (f + p.2 - h)), some (.int v), some (.int u), some (.int p.1), some (.int 0), some (.int k)] st0 := by
          simp -implicitDefEqProofs [b_law_far_1, q, q2, hr, e4, prD]
        rw [step, loopS_nx, this, way_comm c cp cq, ws, e2, e3, way_comm c cp cpar]
        congr 2
        omega
theorem hm_law_far : ∀ ds st0, ds.length = 3 → wfS st0 → wfD.wfDs st0.length ds → Fin st0.length (retR (m_law_far (startE 9 ds) st0)) (F_law_far ds st0) := by
  intro ds st0 hl hw hd
  unfold F_law_far
  split
  · split
    · split
      · rename_i r x y _ _ _ rs p q h hx hy c
        have h := rdR_some h
        have hx := unP_some hx
        have hy := unP_some hy
        subst hx hy
        have cp := isPt_vp c.1 c.2.1
        have cq := isPt_vp c.1 c.2.2
        have hn := c.1.1
        have v1 := cp.hi
        have w1 := cq.hi
        have fl := far_loop (x1 := some (prD p)) (x2 := some (prD q)) c.1 h (2 * (rs.length : Int) + 2).toNat 0 0 p.1 p.2 q.1 q.2 none cp cq (by omega)
        have bb : -4611686018427387904 ≤ 2 * (rs.length : Int) + 2 ∧ 2 * (rs.length : Int) + 2 < 4611686018427387904 := by omega
        have bm : (rs.length : Int) < 18446744073709551616 := by omega
        have e : retR (m_law_far (startE 9 [.ref r, prD p, prD q]) st0) = .ok (.int (wayLen rs p q)) st0 := by
          simp only [prD] at fl
          rw [Int.zero_add] at fl
          simp -implicitDefEqProofs [m_law_far, startE, prD, h, bb]
          exact fl
        rw [e]
        exact fin_same (by simp) (wfS_N hw) trivial
      · exact fin_bad
    · exact fin_bad
  · exact fin_bad
end Lw
set_option maxRecDepth 100000
set_option maxHeartbeats 4000000
namespace Lw
open PySem PySem.Spec PyProof.Rows L2 Dn
theorem genM_ok {longest shape even first : Int} (hL : 0 < longest ∧ longest < 100) (hF : 0 < first ∧ first < 1000) : ∀ (k : Nat) (v d : Int), 0 < v → ∀ (i : Nat) (p : Int × Int), (genM longest shape even first k v d).1[i]? = some p → (0 ≤ p.1 ∧ p.1 < v + (i : Int)) ∧ 0 < p.2 ∧ p.2 < 1000
  | 0, _, _, _, i, p, h => by simp [genM] at h
  | k + 1, v, d, hv, 0, p, h => by
    simp [genM] at h
    subst h
    have n0 := Int.emod_nonneg (d / longest) (show v ≠ 0 by omega)
    have n1 := Int.emod_lt_of_pos (d / longest) hv
    have n2 := Int.emod_nonneg d (show longest ≠ 0 by omega)
    have n3 := Int.emod_lt_of_pos d hL.1
    unfold parM lenM
    refine ⟨?_, ?_⟩
    · simp only
      split
      · omega
      · split <;> omega
    · simp only
      split <;> omega
  | k + 1, v, d, hv, i + 1, p, h => by
    simp only [genM, List.getElem?_cons_succ] at h
    have := genM_ok hL hF k (v + 1) _ (by omega) i p h
    push_cast
    omega
theorem rdsM_ok {d least : Int} (h : 0 ≤ least ∧ least < 10) : okR (rdsM d least).1 := by
  have m0 := Int.emod_nonneg d (show (4 : Int) ≠ 0 by omega)
  have m1 := Int.emod_lt_of_pos d (show (0 : Int) < 4 by omega)
  obtain ⟨longest, hlong, hL⟩ : ∃ longest : Int, [6, 2, 40, 1][(d % 4).toNat]?.getD 1 = longest ∧ (0 < longest ∧ longest < 100) := by
    have : d % 4 = 0 ∨ d % 4 = 1 ∨ d % 4 = 2 ∨ d % 4 = 3 := by omega
    rcases this with e | e | e | e <;> rw [e]
    · exact ⟨6, rfl, by omega⟩
    · exact ⟨2, rfl, by omega⟩
    · exact ⟨40, rfl, by omega⟩
    · exact ⟨1, rfl, by omega⟩
  unfold rdsM
  simp only [hlong]
  obtain ⟨e0, he0⟩ : ∃ e, d / 4 / 4 / 3 / longest = e := ⟨_, rfl⟩
  rw [he0]
  have n0 := Int.emod_nonneg e0 (show 10 - least ≠ 0 by omega)
  have n1 := Int.emod_lt_of_pos e0 (show (0 : Int) < 10 - least by omega)
  have n2 := Int.emod_nonneg (d / 4 / 4 / 3) (show longest ≠ 0 by omega)
  have n3 := Int.emod_lt_of_pos (d / 4 / 4 / 3) hL.1
  refine ⟨by rw [genM_len]; omega, fun i p e => ?_⟩
  have := genM_ok hL (by omega) _ 1 _ (by omega) i p e
  omega
theorem genQ_pt {rs : List (Int × Int)} (c : okR rs) {d : Int} : isPt rs (genQ rs d).1 = true := by
  have m0 := Int.emod_nonneg (d / 2) (show (rs.length : Int) + 1 ≠ 0 by omega)
  have m1 := Int.emod_lt_of_pos (d / 2) (show (0 : Int) < rs.length + 1 by omega)
  unfold genQ
  simp only
  obtain ⟨v, hv⟩ : ∃ v, d / 2 % (rs.length + 1) = v := ⟨_, rfl⟩
  rw [hv] at m0 m1 ⊢
  by_cases z : v = 0
  · rw [if_pos (.inl z), z]
    simp [isPt, lenL]
  · have e1 := lenL_val c (v := v) (by omega) (by omega)
    have e2 := (okR_at c (v := v) (by omega) (by omega)).2.2
    split
    · simp [isPt, e1]
      omega
    · have n2 := Int.emod_nonneg (d / 2 / (rs.length + 1)) (show lenAt rs v ≠ 0 by omega)
      have n3 := Int.emod_lt_of_pos (d / 2 / (rs.length + 1)) e2
      simp [isPt, e1]
      omega
theorem ptAt_mem {ps : List (Int × Int)} {k : Int} (k0 : 0 ≤ k) (k1 : k < ps.length) : ptAt ps k ∈ ps := by
  have hl : k.toNat < ps.length := by omega
  unfold ptAt
  rw [List.getElem?_eq_getElem hl]
  exact List.getElem_mem hl
theorem hlpF_ok {rs : List (Int × Int)} (c : okR rs) : ∀ (j : Nat) (k d : Int) (acc : List (Int × Int)), k = acc.length → (∀ p ∈ acc, isPt rs p = true) → (hlpF rs j k d acc).1.length = acc.length + j ∧ ∀ p ∈ (hlpF rs j k d acc).1, isPt rs p = true
  | 0, k, d, acc, _, h => ⟨rfl, h⟩
  | j + 1, k, d, acc, hk, h => by
    unfold hlpF
    split
    · rename_i q
      have n0 := Int.emod_nonneg (d / 4) (show k ≠ 0 by omega)
      have n1 := Int.emod_lt_of_pos (d / 4) q.2
      have := hlpF_ok c j (k + 1) (d / 4 / k) (acc ++ [ptAt acc (d / 4 % k)]) (by simp; omega) (fun p hp => by
        rcases List.mem_append.mp hp with hp | hp
        · exact h p hp
        · simp at hp
          rw [hp]
          exact h _ (ptAt_mem n0 (by omega)))
      exact ⟨by rw [this.1]; simp; omega, this.2⟩
    · have := hlpF_ok c j (k + 1) (genQ rs (d / 4)).2 (acc ++ [(genQ rs (d / 4)).1]) (by simp; omega) (fun p hp => by
        rcases List.mem_append.mp hp with hp | hp
        · exact h p hp
        · simp at hp
          rw [hp]
          exact genQ_pt c)
      exact ⟨by rw [this.1]; simp; omega, this.2⟩
theorem calF_ok {rs crew : List (Int × Int)} (c : okR rs) (hc : ∀ p ∈ crew, isPt rs p = true) (hl : 0 < crew.length) : ∀ (j : Nat) (k d : Int) (acc : List (Int × Int)), k = acc.length → (∀ p ∈ acc, isPt rs p = true) → (calF rs crew j k d acc).1.length = acc.length + j ∧ ∀ p ∈ (calF rs crew j k d acc).1, isPt rs p = true
  | 0, k, d, acc, _, h => ⟨rfl, h⟩
  | j + 1, k, d, acc, hk, h => by
    have hN : (0 : Int) < crew.length := by omega
    unfold calF
    split
    · have n0 := Int.emod_nonneg (d / 5) (show (crew.length : Int) ≠ 0 by omega)
      have n1 := Int.emod_lt_of_pos (d / 5) hN
      have := calF_ok c hc hl j (k + 1) (d / 5 / crew.length) (acc ++ [ptAt crew (d / 5 % crew.length)]) (by simp; omega) (fun p hp => by
        rcases List.mem_append.mp hp with hp | hp
        · exact h p hp
        · simp at hp
          rw [hp]
          exact hc _ (ptAt_mem n0 n1))
      exact ⟨by rw [this.1]; simp; omega, this.2⟩
    · split
      · rename_i q
        have n0 := Int.emod_nonneg (d / 5) (show k ≠ 0 by omega)
        have n1 := Int.emod_lt_of_pos (d / 5) q.2
        have := calF_ok c hc hl j (k + 1) (d / 5 / k) (acc ++ [ptAt acc (d / 5 % k)]) (by simp; omega) (fun p hp => by
          rcases List.mem_append.mp hp with hp | hp
          · exact h p hp
          · simp at hp
            rw [hp]
            exact h _ (ptAt_mem n0 (by omega)))
        exact ⟨by rw [this.1]; simp; omega, this.2⟩
      · have := calF_ok c hc hl j (k + 1) (genQ rs (d / 5)).2 (acc ++ [(genQ rs (d / 5)).1]) (by simp; omega) (fun p hp => by
          rcases List.mem_append.mp hp with hp | hp
          · exact h p hp
          · simp at hp
            rw [hp]
            exact genQ_pt c)
        exact ⟨by rw [this.1]; simp; omega, this.2⟩
end Lw
set_option maxRecDepth 100000
namespace Lw
open PySem PySem.Spec PyProof.Rows L2 Dn
/-! plans -/
def okPlan (n : Nat) (js : List Int) : Prop := ∀ j ∈ js, 0 ≤ j ∧ j < (n : Int)
open Classical in
noncomputable def F_check_plan (ds : List D) (st : Sto) : Res D := match ds with
  | [.ref c, .ref k, .ref p] => match rdL st c, rdL st k, rdL st p with
    | some cs, some ks, some xs => match intsD xs with
      | some js => if okPlan cs.length js ∧ js.length = ks.length ∧ js.length < 1000 then .ok .non st else .bad
      | none => .bad
    | _, _, _ => .bad
  | _ => .bad
def atN (ps : List (Int × Int)) (k : Int) : Int × Int := ps[k.toNat]?.getD (0, 0)
open Classical in
noncomputable def F_send (ds : List D) (st : Sto) : Res D := match ds with
  | [t, .ref c, .int i, y] => match rdT st t, rdR st c, unP y with
    | some rs, some ps, some q => if (0 ≤ i ∧ i < (ps.length : Int)) ∧ isPt rs (atN ps i) = true ∧ isPt rs q = true then .ok (.tup [.ref st.length, .int (wayLen rs (atN ps i) q)]) (st ++ [.lst ((ps.set i.toNat q).map prD)]) else .bad
    | _, _, _ => .bad
  | _ => .bad
/-- a plan followed: the crew behind it -/
def plnC : List (Int × Int) → List ((Int × Int) × Int) → List (Int × Int)
  | ps, [] => ps
  | ps, (q, i) :: r => plnC (ps.set i.toNat q) r
/-- its way, added up -/
def plnW (rs : List (Int × Int)) : Int → List (Int × Int) → List ((Int × Int) × Int) → Int
  | w, _, [] => w
  | w, ps, (q, i) :: r => plnW rs (w + wayLen rs (atN ps i) q) (ps.set i.toNat q) r
def allP (rs ps : List (Int × Int)) : Prop := ∀ p ∈ ps, isPt rs p = true
open Classical in
noncomputable def F_planned (ds : List D) (st : Sto) : Res D := match ds with
  | [t, .ref c, .ref k, .ref p] => match rdT st t, rdR st c, rdR st k, rdL st p with
    | some rs, some ps, some qs, some xs => match intsD xs with
      | some js => if allP rs ps ∧ allP rs qs ∧ okPlan ps.length js ∧ js.length = qs.length ∧ js.length < 1000 ∧ ps.length < 1000 then
          .ok (.tup [.ref st.length, .int (plnW rs 0 ps (qs.zip js))]) (st ++ [.lst ((plnC ps (qs.zip js)).map prD)]) else .bad
      | none => .bad
    | _, _, _, _ => .bad
  | _ => .bad
end Lw
set_option maxRecDepth 100000
set_option maxHeartbeats 4000000
namespace Lw
open PySem PySem.Spec PyProof.Rows L2 Dn
noncomputable def b_check_plan_1 : MS := (mIfS (mOr (mNot (mB (mCall F_is_int (mCons (mVar 3) mNil)))) (mOr (mB (mOp fLt (mVar 3) (mC (.int 0)))) (mB (mOp fGe (mVar 3) (mFn fLen (mCons (mVar 0) mNil)))))) (mRaise "InvalidPlan") mNext)
noncomputable def m_check_plan : MS := (mSeq (mIfS (mOr (mNot (mB (mIsiO ["Tree"] "list" (mVar 2)))) (mB (mOp fNe (mFn fLen (mCons (mVar 2) mNil)) (mFn fLen (mCons (mVar 1) mNil))))) (mRaise "InvalidPlan") mNext) (mFor (mIter (mVar 2)) (gN 3) b_check_plan_1))
noncomputable def m_send : MS := (mSeq (mSet 4 (mFn fList (mCons (mVar 1) mNil))) (mSeq (mAsg (mVar 3) (gSubM fSetI (mVar 4) (mVar 2))) (mRet (mTup (mCons (mVar 4) (mCons (mMethO "Tree" "distance" F_Tree_distance (mVar 0) (mCons (mOp fIdx (mVar 1) (mVar 2)) (mCons (mVar 3) mNil))) mNil))))))
noncomputable def b_planned_1 : MS := (mSeq (mAsg (mCall F_send (mCons (mVar 0) (mCons (mVar 4) (mCons (mVar 7) (mCons (mVar 6) mNil))))) (gT 2 (gConsM (gN 4) (gConsM (gN 8) gNilM)))) (mSet 5 (mOp fAdd (mVar 5) (mVar 8))))
noncomputable def m_planned : MS := (mSeq (mDrop (mCall F_check_plan (mCons (mVar 1) (mCons (mVar 2) (mCons (mVar 3) mNil))))) (mSeq (mSet 4 (mFn fList (mCons (mVar 1) mNil))) (mSeq (mSet 5 (mC (.int 0))) (mSeq (mFor (mZip (mVar 2) (mVar 3)) (gT 2 (gConsM (gN 6) (gConsM (gN 7) gNilM))) b_planned_1) (mRet (mTup (mCons (mVar 4) (mCons (mVar 5) mNil))))))))
end Lw
set_option maxRecDepth 100000
set_option maxHeartbeats 4000000
namespace Lw
open PySem PySem.Spec PyProof.Rows L2 Dn
theorem hm_check_plan : ∀ ds st0, ds.length = 3 → wfS st0 → wfD.wfDs st0.length ds → Fin st0.length (retR (m_check_plan (startE 4 ds) st0)) (F_check_plan ds st0) := by
  intro ds st0 hl hw hd
  unfold F_check_plan
  split
  · split
    · split
      · split
        · rename_i c k p _ _ _ cs ks xs hc hk hp _ js hj cond
          have hx := intsD_map hj
          subst hx
          have tp : st0[p]? = some (.lst (js.map .int)) := rdL_some hp
          have loop := for_inv (ck := [(p, js.map .int)]) (g := gN 3) (b := b_check_plan_1) (I := fun e s => s = st0 ∧ ∃ z, e = [some (.ref c), some (.ref k), some (.ref p), z]) (js.map .int) (by
            rintro dd hdd e s ⟨rfl, z, rfl⟩
            obtain ⟨j, hj, rfl⟩ := List.mem_map.mp hdd
            have kj := cond.1 j hj
            have n0 : ¬ j < 0 := by omega
            have n1 : ¬ ((cs.length : Int) ≤ j) := by omega
            refine ⟨_, _, [some (.ref c), some (.ref k), some (.ref p), some (.int j)], s, rfl, ?_, rfl, _, rfl⟩
            simp -implicitDefEqProofs [b_check_plan_1, F_is_int, knT, tyD, isIntD, n0, n1, hc]) (by rintro e s ⟨rfl, _⟩; exact stays_one hp) [some (.ref c), some (.ref k), some (.ref p), none] st0 ⟨rfl, _, rfl⟩
          obtain ⟨e', s', q, hs', z, rfl⟩ := loop
          rw [hs'] at q
          have le : (js.length : Int) = ks.length := by omega
          have e : retR (m_check_plan (startE 4 [.ref c, .ref k, .ref p]) st0) = .ok .non st0 := by
            simp -implicitDefEqProofs [m_check_plan, startE, isiA, tyD, tp, hp, hk, le, q]
          rw [e]
          exact fin_same (by simp) (wfS_N hw) trivial
        · exact fin_bad
      · exact fin_bad
    · exact fin_bad
  · exact fin_bad
theorem atN_mem {ps : List (Int × Int)} {i : Int} (h0 : 0 ≤ i) (h1 : i < ps.length) : atN ps i ∈ ps ∧ atI (ps.map prD) i = some (prD (atN ps i)) := by
  have hl : i.toNat < ps.length := by omega
  have e := List.getElem?_eq_getElem hl
  unfold atN
  rw [e]
  refine ⟨List.getElem_mem hl, atI_nat' h0 ?_⟩
  rw [List.getElem?_map, e]
  rfl
theorem hm_send : ∀ ds st0, ds.length = 4 → wfS st0 → wfD.wfDs st0.length ds → Fin st0.length (retR (m_send (startE 5 ds) st0)) (F_send ds st0) := by
  intro ds st0 hl hw hd
  unfold F_send
  split
  · split
    · split
      · rename_i t c i y _ _ _ rs ps q ht hc hy cond
        obtain ⟨n, rfl, T⟩ := rdT_some ht
        have hc := rdR_some hc
        have hy := unP_some hy
        subst hy
        obtain ⟨m, f1, _⟩ := T.ex
        have ln : n < st0.length := (List.getElem?_eq_some_iff.mp f1).1
        have o1 := obj_of f1
        have am := (atN_mem cond.1.1 cond.1.2).2
        have ix : ixN ps.length i = some i.toNat := ixN_in cond.1.1 (by omega)
        have lc := rdL_lt hc
        obtain ⟨S, hS⟩ : ∃ S, st0 ++ [.lst ((ps.set i.toNat q).map prD)] = S := ⟨_, rfl⟩
        have TS : rdT S (.ref n) = some rs := by rw [← hS]; exact rdT_app T
        have oS : obj S n = some (.ins "Tree" (treeF m)) := by rw [← hS, obj_append, if_pos ln]; exact o1
        have cS : rdL S c = some (ps.map prD) := by rw [← hS]; exact rdL_app' hc
        have ms : (ps.map prD).set i.toNat (prD q) = (ps.set i.toNat q).map prD := by rw [List.map_set]
        have e : retR (m_send (startE 5 [.ref n, .ref c, .int i, prD q]) st0) = .ok (.tup [.ref st0.length, .int (wayLen rs (atN ps i) q)]) S := by
          simp -implicitDefEqProofs [m_send, startE, hc, rdL_append, ix, List.set_append, ms, hS, insOf_get, oS, treeF, List.lookup, cS, am, F_Tree_distance, TS, ptD_of cond.2.1, ptD_of cond.2.2, -List.map_set]
        rw [e, ← hS]
        refine fin_same (by simp) ?_ ?_
        · rw [List.length_append]
          refine wfN_app (wfN_mono (by simp) (wfS_N hw)) ?_
          intro o ho
          simp only [List.mem_cons, List.not_mem_nil, or_false] at ho
          subst ho
          exact wf_prs
        · simp [wfD, wfD.wfDs]
      · exact fin_bad
    · exact fin_bad
  · exact fin_bad
/-- one new object kept of those behind, in a tuple with a number -/
theorem fin_oneT {s g s0 : Sto} {m : Nat} {o : Ob} {w : Int} (e : s0 = s ++ g) (hw : wfN s.length s) (wo : wfO s.length o) (hm : g[m]? = some o) : Fin s.length (.ok (.tup [.ref (s.length + m), .int w]) s0) (.ok (.tup [.ref s.length, .int w]) (s ++ [o])) := by
  refine ⟨s0, mv1 s.length (s.length + m), by rw [e]; exact ren_one hw wo hm, ?_, ?_⟩
  · simp [renD, renD.renDs, mv1]
  · simp [wfD, wfD.wfDs]
theorem planned_loop {n c k p : Nat} {rs qs0 : List (Int × Int)} {js0 : List Int} {st0 : Sto} (T : IsT st0 n rs) (hk : rdL st0 k = some (qs0.map prD)) (hp : rdL st0 p = some (js0.map .int)) : ∀ (zs : List ((Int × Int) × Int)) (ps : List (Int × Int)) (w : Int) (g : Sto) (z6 z7 z8 : Option D), allP rs ps → (∀ x ∈ zs, isPt rs x.1 = true ∧ 0 ≤ x.2 ∧ x.2 < ps.length) → ps.length < 1000 →
    ∃ (g' : Sto) (y6 y7 y8 : Option D), forS [(k, qs0.map prD), (p, js0.map .int)] (gT 2 (gConsM (gN 6) (gConsM (gN 7) gNilM))) b_planned_1 (zs.map fun x => .tup [prD x.1, .int x.2]) [some (.ref n), some (.ref c), some (.ref k), some (.ref p), some (.ref (st0.length + g.length)), some (.int w), z6, z7, z8] (st0 ++ (g ++ [.lst (ps.map prD)])) =
      .nx [some (.ref n), some (.ref c), some (.ref k), some (.ref p), some (.ref (st0.length + g'.length)), some (.int (plnW rs w ps zs)), y6, y7, y8] (st0 ++ (g' ++ [.lst ((plnC ps zs).map prD)])) := by
  have lk := rdL_lt hk
  have lp := rdL_lt hp
  have st : ∀ g : Sto, Stays [(k, qs0.map prD), (p, js0.map .int)] (st0 ++ g) := by
    intro g x hx
    simp only [List.mem_cons, List.not_mem_nil, or_false] at hx
    rcases hx with rfl | rfl
    · exact rdL_app' hk
    · exact rdL_app' hp
  intro zs
  induction zs with
  | nil => intro ps w g z6 z7 z8 _ _ _; exact ⟨g, z6, z7, z8, by rw [List.map_nil, for_nil (st _)]; rfl⟩
  | cons x zs ih =>
    intro ps w g z6 z7 z8 ha hx hl
    obtain ⟨i1, i2, i3⟩ := hx x (by simp)
    have am := atN_mem i2 i3
    obtain ⟨g', y6, y7, y8, e⟩ := ih (ps.set x.2.toNat x.1) (w + wayLen rs (atN ps x.2) x.1) (g ++ [.lst (ps.map prD)]) (some (prD x.1)) (some (.int x.2)) (some (.int (wayLen rs (atN ps x.2) x.1)))
      (fun y hy => by
        rcases List.mem_or_eq_of_mem_set hy with h | h
        · exact ha y h
        · rw [h]; exact i1) (fun y hy => by simpa using hx y (by simp [hy])) (by simpa using hl)
    refine ⟨g', y6, y7, y8, ?_⟩
    rw [List.map_cons, for_cons (st _)]
    have TS : rdT (st0 ++ (g ++ [.lst (ps.map prD)])) (.ref n) = some rs := rdT_app T
    have cS : rdL (st0 ++ (g ++ [.lst (ps.map prD)])) (st0.length + g.length) = some (ps.map prD) := by
      rw [← List.append_assoc, rdL_append, if_neg (by simp)]
      simp
    have fs : F_send [.ref n, .ref (st0.length + g.length), .int x.2, prD x.1] (st0 ++ (g ++ [.lst (ps.map prD)])) = .ok (.tup [.ref (st0.length + (g.length + 1)), .int (wayLen rs (atN ps x.2) x.1)]) (st0 ++ (g ++ [.lst (ps.map prD), .lst ((ps.set x.2.toNat x.1).map prD)])) := by
      simp only [F_send, TS, rdR_of cS, unP_pr]
      rw [if_pos ⟨⟨i2, i3⟩, ha _ am.1, i1⟩]
      simp
    have step : b_planned_1 [some (.ref n), some (.ref c), some (.ref k), some (.ref p), some (.ref (st0.length + g.length)), some (.int w), some (prD x.1), some (.int x.2), z8] (st0 ++ (g ++ [.lst (ps.map prD)])) = .nx [some (.ref n), some (.ref c), some (.ref k), some (.ref p), some (.ref (st0.length + (g.length + 1))), some (.int (w + wayLen rs (atN ps x.2) x.1)), some (prD x.1), some (.int x.2), some (.int (wayLen rs (atN ps x.2) x.1))] (st0 ++ (g ++ [.lst (ps.map prD), .lst ((ps.set x.2.toNat x.1).map prD)])) := by
      simp -implicitDefEqProofs [b_planned_1, fs]
    simp only [ev_gT, List.length_cons, List.length_nil, if_true, ev_gCons, ev_gN, ev_gNil, List.set_cons_succ, List.set_cons_zero]
    rw [step, loopS_nx]
    simp only [List.append_assoc, List.cons_append, List.nil_append, List.length_append, List.length_cons, List.length_nil, Nat.zero_add] at e
    exact e
theorem hm_planned : ∀ ds st0, ds.length = 4 → wfS st0 → wfD.wfDs st0.length ds → Fin st0.length (retR (m_planned (startE 9 ds) st0)) (F_planned ds st0) := by
  intro ds st0 hl hw hd
  unfold F_planned
  split
  · split
    · split
      · split
        · rename_i t c k p _ _ _ _ rs ps qs xs ht hc hk hp _ js hj cond
          obtain ⟨n, rfl, T⟩ := rdT_some ht
          have hc := rdR_some hc
          have hk := rdR_some hk
          have hx := intsD_map hj
          subst hx
          obtain ⟨c1, c2, c3, c4, c5, c6⟩ := cond
          have zd : zipD (qs.map prD) (js.map .int) = (qs.zip js).map fun x => .tup [prD x.1, .int x.2] := by
            unfold zipD
            rw [List.zip_map, List.map_map]
            rfl
          obtain ⟨g', y6, y7, y8, e1⟩ := planned_loop (c := c) T hk hp (qs.zip js) ps 0 [] none none none c1 (fun x hx => by
            obtain ⟨a, b⟩ := x
            have h1 := (List.of_mem_zip hx).1
            have h2 := c3 b (List.of_mem_zip hx).2
            exact ⟨c2 a h1, h2⟩) c6
          have fc : F_check_plan [.ref c, .ref k, .ref p] st0 = .ok .non st0 := by
            simp only [F_check_plan, hc, hk, hp, intsD_ints]
            rw [if_pos ⟨by simpa using c3, by simpa using c4, c5⟩]
          have e : retR (m_planned (startE 9 [.ref n, .ref c, .ref k, .ref p]) st0) = .ok (.tup [.ref (st0.length + g'.length), .int (plnW rs 0 ps (qs.zip js))]) (st0 ++ (g' ++ [.lst ((plnC ps (qs.zip js)).map prD)])) := by
            simp only [List.nil_append, List.length_nil, Nat.add_zero] at e1
            simp -implicitDefEqProofs [m_planned, startE, fc, hc, rdL_app' hk, rdL_app' hp, zd, e1]
          rw [e]
          exact fin_oneT (m := g'.length) rfl (wfS_N hw) wf_prs (by simp)
        · exact fin_bad
      · exact fin_bad
    · exact fin_bad
  · exact fin_bad
end Lw
set_option maxRecDepth 100000
set_option maxHeartbeats 4000000
namespace Lw
open PySem PySem.Spec PyProof.Rows L2 Dn
section
variable {rs : List (Int × Int)}
/-- of the tops of three points the two highest are equally deep -/
theorem um (h : okR rs) {a b c : Int × Int} (ca : Vp rs a) (cb : Vp rs b) (cc : Vp rs c) : depAt rs (top rs a b) ≤ depAt rs (top rs a c) ∨ depAt rs (top rs b c) ≤ depAt rs (top rs a c) := by
  have m1 := top_mem h ca cb
  have m2 := top_mem h cb cc
  rcases Int.le_total (depAt rs (top rs a b)) (depAt rs (top rs b c)) with l | l
  · have k := climb_cmp h cb m1.2 m2.1 l
    exact .inl (top_max h ca cc m1.1 (climb_trans h cc m2.2 k))
  · have k := climb_cmp h cb m2.1 m1.2 l
    exact .inr (top_max h ca cc (climb_trans h ca m1.1 k) m2.2)
theorem up_to (h : okR rs) {p x : Int × Int} (c : Vp rs p) (hx : x ∈ climb rs p) : upBy rs p (depAt rs p - depAt rs x) = x := by
  obtain ⟨i, hi, e⟩ := List.getElem_of_mem hx
  have := climb_at h c (x := x) (i := i) (by rw [List.getElem?_eq_getElem hi, e])
  unfold upBy
  rw [show (depAt rs p - depAt rs x).toNat = i by omega, List.getElem?_eq_getElem hi, e]
  rfl
/-- the middle of three points -/
theorem middle (h : okR rs) {a b c : Int × Int} (ca : Vp rs a) (cb : Vp rs b) (cc : Vp rs c) : ∃ half M, wayLen rs a b + wayLen rs b c + wayLen rs c a = 2 * (half + wayLen rs b c) ∧ 0 ≤ half ∧ half ≤ wayLen rs a b ∧ half ≤ wayLen rs a c ∧
    stepTo rs a b half = M ∧ stepTo rs a c half = M ∧ M ∈ way rs a b ∧ M ∈ way rs c a ∧ M ∈ way rs b c := by
  have sac := top_sym h ca cc
  have sab := top_sym h ca cb
  have sbc := top_sym h cb cc
  have u1 := um h ca cb cc
  have u2 := um h ca cc cb
  have u3 := um h cb ca cc
  rw [← sbc] at u2
  rw [← sab] at u3
  have mab := top_mem h ca cb
  have mac := top_mem h ca cc
  have mbc := top_mem h cb cc
  have a1 := climb_dle h ca mab.1
  have a2 := climb_dle h ca mac.1
  have b1 := climb_dle h cb mab.2
  have b2 := climb_dle h cb mbc.1
  have c1 := climb_dle h cc mac.2
  have c2 := climb_dle h cc mbc.2
  have wca : wayLen rs c a = wayLen rs a c := by unfold wayLen; rw [sac]; omega
  have eab : wayLen rs a b = depAt rs a + depAt rs b - 2 * depAt rs (top rs a b) := rfl
  have eac : wayLen rs a c = depAt rs a + depAt rs c - 2 * depAt rs (top rs a c) := rfl
  have ebc : wayLen rs b c = depAt rs b + depAt rs c - 2 * depAt rs (top rs b c) := rfl
  refine ⟨depAt rs a - depAt rs (top rs a b) - depAt rs (top rs a c) + depAt rs (top rs b c), ?_⟩
  have key : (depAt rs (top rs a b) = depAt rs (top rs b c) ∧ depAt rs (top rs b c) ≤ depAt rs (top rs a c)) ∨ (depAt rs (top rs a c) = depAt rs (top rs b c) ∧ depAt rs (top rs b c) ≤ depAt rs (top rs a b)) ∨ (depAt rs (top rs a b) = depAt rs (top rs a c) ∧ depAt rs (top rs a b) < depAt rs (top rs b c)) := by omega
  rcases key with ⟨k1, k2⟩ | ⟨k1, k2⟩ | ⟨k1, k2⟩
  · refine ⟨top rs a c, by omega, by omega, by omega, by omega, ?_, ?_, ?_, ?_, ?_⟩
    · unfold stepTo
      rw [if_pos (by omega), show depAt rs a - depAt rs (top rs a b) - depAt rs (top rs a c) + depAt rs (top rs b c) = depAt rs a - depAt rs (top rs a c) by omega]
      exact up_to h ca mac.1
    · unfold stepTo
      rw [if_pos (by omega), show depAt rs a - depAt rs (top rs a b) - depAt rs (top rs a c) + depAt rs (top rs b c) = depAt rs a - depAt rs (top rs a c) by omega]
      exact up_to h ca mac.1
    · exact (mem_way h ca cb).mpr ⟨.inl mac.1, by omega⟩
    · exact (mem_way h cc ca).mpr ⟨.inl mac.2, by rw [← sac]; omega⟩
    · exact (mem_way h cb cc).mpr ⟨.inr mac.2, by omega⟩
  · refine ⟨top rs a b, by omega, by omega, by omega, by omega, ?_, ?_, ?_, ?_, ?_⟩
    · unfold stepTo
      rw [if_pos (by omega), show depAt rs a - depAt rs (top rs a b) - depAt rs (top rs a c) + depAt rs (top rs b c) = depAt rs a - depAt rs (top rs a b) by omega]
      exact up_to h ca mab.1
    · unfold stepTo
      rw [if_pos (by omega), show depAt rs a - depAt rs (top rs a b) - depAt rs (top rs a c) + depAt rs (top rs b c) = depAt rs a - depAt rs (top rs a b) by omega]
      exact up_to h ca mab.1
    · exact (mem_way h ca cb).mpr ⟨.inl mab.1, by omega⟩
    · exact (mem_way h cc ca).mpr ⟨.inr mab.1, by rw [← sac]; omega⟩
    · exact (mem_way h cb cc).mpr ⟨.inl mab.2, by omega⟩
  · refine ⟨top rs b c, by omega, by omega, by omega, by omega, ?_, ?_, ?_, ?_, ?_⟩
    · unfold stepTo
      rw [if_neg (by omega), show wayLen rs a b - (depAt rs a - depAt rs (top rs a b) - depAt rs (top rs a c) + depAt rs (top rs b c)) = depAt rs b - depAt rs (top rs b c) by omega]
      exact up_to h cb mbc.1
    · unfold stepTo
      rw [if_neg (by omega), show wayLen rs a c - (depAt rs a - depAt rs (top rs a b) - depAt rs (top rs a c) + depAt rs (top rs b c)) = depAt rs c - depAt rs (top rs b c) by omega]
      exact up_to h cc mbc.2
    · exact (mem_way h ca cb).mpr ⟨.inr mbc.1, by omega⟩
    · exact (mem_way h cc ca).mpr ⟨.inl mbc.2, by rw [← sac]; omega⟩
    · exact (mem_way h cb cc).mpr ⟨.inl mbc.1, by omega⟩
/-- four points: of the three sums the two greatest are equal -/
theorem four (h : okR rs) {a b c d : Int × Int} (ca : Vp rs a) (cb : Vp rs b) (cc : Vp rs c) (cd : Vp rs d) (s1 s2 s3 : Int) (e1 : wayLen rs a b + wayLen rs c d = s1) (e2 : wayLen rs a c + wayLen rs b d = s2) (e3 : wayLen rs a d + wayLen rs b c = s3) :
    (s1 = s2 ∧ s3 ≤ s1) ∨ (s1 = s3 ∧ s2 ≤ s1) ∨ (s2 = s3 ∧ s1 ≤ s2) := by
  have y : ∀ {p q : Int × Int}, Vp rs p → Vp rs q → depAt rs (top rs q p) = depAt rs (top rs p q) := fun cp cq => by rw [top_sym h cp cq]
  have t1 := um h ca cb cc
  have t2 := um h ca cc cb
  have t3 := um h cb ca cc
  have t4 := um h ca cb cd
  have t5 := um h ca cd cb
  have t6 := um h cb ca cd
  have t7 := um h ca cc cd
  have t8 := um h ca cd cc
  have t9 := um h cc ca cd
  have t10 := um h cb cc cd
  have t11 := um h cb cd cc
  have t12 := um h cc cb cd
  rw [y cb cc] at t2
  rw [y ca cb] at t3
  rw [y cb cd] at t5
  rw [y ca cb] at t6
  rw [y cc cd] at t8
  rw [y ca cc] at t9
  rw [y cc cd] at t11
  rw [y cb cc] at t12
  simp only [wayLen] at e1 e2 e3
  generalize depAt rs (top rs a b) = x1 at *
  generalize depAt rs (top rs a c) = x2 at *
  generalize depAt rs (top rs a d) = x3 at *
  generalize depAt rs (top rs b c) = x4 at *
  generalize depAt rs (top rs b d) = x5 at *
  generalize depAt rs (top rs c d) = x6 at *
  omega
theorem wayLen_zero (h : okR rs) {p q : Int × Int} (hp : isPt rs p = true) (hq : isPt rs q = true) : (wayLen rs p q == 0) = (p == q) := by
  have cp := isPt_vp h hp
  have cq := isPt_vp h hq
  have m := top_mem h cp cq
  have a := climb_dle h cp m.1
  have b := climb_dle h cq m.2
  rw [Bool.eq_iff_iff]
  simp only [beq_iff_eq]
  constructor
  · intro e
    unfold wayLen at e
    have x := climb_uniq h cp m.1 (climb_self h cp) (by omega)
    have y := climb_uniq h cq m.2 (climb_self h cq) (by omega)
    rw [← x, y]
  · rintro rfl
    exact way_self h hp
end
end Lw
set_option maxRecDepth 100000
set_option maxHeartbeats 4000000
namespace Lw
open PySem PySem.Spec PyProof.Rows L2 Dn
section
variable {rs : List (Int × Int)}
theorem up_depth (h : okR rs) {p : Int × Int} (c : Vp rs p) {k : Int} (h0 : 0 ≤ k) (h1 : k ≤ depAt rs p) : depAt rs (upBy rs p k) = depAt rs p - k ∧ upBy rs p k ∈ climb rs p := by
  have l := climb_length h c
  have hk : k.toNat < (climb rs p).length := by omega
  have e : (climb rs p)[k.toNat]? = some (upBy rs p k) := by
    unfold upBy
    rw [List.getElem?_eq_getElem hk]
    rfl
  have := climb_at h c e
  exact ⟨by omega, List.mem_of_getElem? e⟩
theorem way_up (h : okR rs) {p x : Int × Int} (c : Vp rs p) (hx : x ∈ climb rs p) : wayLen rs p x = depAt rs p - depAt rs x ∧ wayLen rs x p = depAt rs p - depAt rs x := by
  have cx := climb_vp h c hx
  have a := top_max h c cx hx (climb_self h cx)
  have b := climb_dle h cx (top_mem h c cx).2
  have s := top_sym h c cx
  unfold wayLen
  rw [← s]
  omega
/-- what a step of a way is -/
theorem step_is (h : okR rs) {p q : Int × Int} (cp : Vp rs p) (cq : Vp rs q) {far : Int} (h0 : 0 ≤ far) (h1 : far ≤ wayLen rs p q) :
    (far ≤ depAt rs p - depAt rs (top rs p q) → stepTo rs p q far ∈ climb rs p ∧ depAt rs (stepTo rs p q far) = depAt rs p - far) ∧
    (depAt rs p - depAt rs (top rs p q) ≤ far → stepTo rs p q far ∈ climb rs q ∧ depAt rs (stepTo rs p q far) = depAt rs q - (wayLen rs p q - far)) := by
  have m := top_mem h cp cq
  have a := climb_dle h cp m.1
  have b := climb_dle h cq m.2
  have t := depAt_nn h (top_vp h cp cq)
  have e : wayLen rs p q = depAt rs p + depAt rs q - 2 * depAt rs (top rs p q) := rfl
  constructor
  · intro k
    have u := up_depth h cp (k := far) h0 (by omega)
    unfold stepTo
    rw [if_pos k]
    exact ⟨u.2, u.1⟩
  · intro k
    by_cases k2 : far ≤ depAt rs p - depAt rs (top rs p q)
    · have k3 : far = depAt rs p - depAt rs (top rs p q) := by omega
      have u := up_to h cp m.1
      unfold stepTo
      rw [if_pos k2, k3, u]
      exact ⟨m.2, by omega⟩
    · have u := up_depth h cq (k := wayLen rs p q - far) (by omega) (by omega)
      unfold stepTo
      rw [if_neg k2]
      exact ⟨u.2, by omega⟩
theorem step_dist (h : okR rs) {p q : Int × Int} (cp : Vp rs p) (cq : Vp rs q) {far : Int} (h0 : 0 ≤ far) (h1 : far ≤ wayLen rs p q) : wayLen rs p (stepTo rs p q far) = far ∧ wayLen rs (stepTo rs p q far) q = wayLen rs p q - far := by
  have mw := stepTo_mem h cp cq h0 h1
  have vp := way_vp h cp cq mw
  have on := (way_on h cp cq vp).mpr mw
  have s := step_is h cp cq h0 h1
  by_cases k : far ≤ depAt rs p - depAt rs (top rs p q)
  · have := s.1 k
    have w := (way_up h cp this.1).1
    omega
  · have := s.2 (by omega)
    have w := (way_up h cq this.1).2
    omega
theorem step_one (h : okR rs) {p q : Int × Int} (cp : Vp rs p) (cq : Vp rs q) {far : Int} (h0 : 1 ≤ far) (h1 : far ≤ wayLen rs p q) : wayLen rs (stepTo rs p q (far - 1)) (stepTo rs p q far) = 1 := by
  have s := step_is h cp cq (far := far) (by omega) h1
  have s' := step_is h cp cq (far := far - 1) (by omega) (by omega)
  by_cases k : far ≤ depAt rs p - depAt rs (top rs p q)
  · have a := s.1 k
    have b := s'.1 (by omega)
    have cm := climb_cmp h cp a.1 b.1 (by omega)
    have w := (way_up h (climb_vp h cp b.1) cm).1
    omega
  · have a := s.2 (by omega)
    have b := s'.2 (by omega)
    have cm := climb_cmp h cq b.1 a.1 (by omega)
    have w := (way_up h (climb_vp h cq a.1) cm).2
    omega
/-- a node and its parent, the points of its road -/
theorem road_up (h : okR rs) {v up : Int} (h1 : 0 < v) (h2 : v ≤ rs.length) (u0 : 0 ≤ up) (u1 : up < lenAt rs v) :
    Vp rs (v, up) ∧ Vp rs (v, 0) ∧ Vp rs (parAt rs v, 0) ∧ wayLen rs (v, up) (v, 0) = up ∧ wayLen rs (parAt rs v, 0) (v, up) = lenAt rs v - up := by
  have k := okR_at h h1 h2
  have c1 : Vp rs (v, up) := ⟨by show 0 ≤ v; omega, h2, u0, fun z => by simp at z; omega, fun _ => u1⟩
  have c2 : Vp rs (v, 0) := ⟨by show 0 ≤ v; omega, h2, by simp, fun z => by simp at z; omega, fun _ => by show (0 : Int) < lenAt rs v; omega⟩
  have c3 : Vp rs (parAt rs v, 0) := ⟨k.1, by show parAt rs v ≤ _; omega, by simp, fun _ => rfl, fun z => (okR_at h z (by show parAt rs v ≤ _; omega)).2.2⟩
  have m1 : (v, up) ∈ climb rs (v, 0) := (mem_climb h c2 c1).mpr ⟨line_self h (by omega) h2, fun _ => u0⟩
  have m2 : (parAt rs v, 0) ∈ climb rs (v, up) := (mem_climb h c1 c3).mpr ⟨by
    show parAt rs v ∈ line rs v
    rw [line_rec h h1 h2]
    exact List.mem_cons_of_mem _ (line_self h k.1 (by omega)), fun z => by simp at z; omega⟩
  have w1 := (way_up h c2 m1).2
  have w2 := (way_up h c1 m2).2
  have d := depV_rec h h1 h2
  simp only [depAt_eq] at w1 w2
  exact ⟨c1, c2, c3, by omega, by omega⟩
end
end Lw
set_option maxRecDepth 100000
set_option maxHeartbeats 4000000
/-! what the draws of family B give, over a store without shape -/
namespace Lw
open PySem PySem.Spec PyProof.Rows L2 Dn
section
variable {b s : Sto} {L : List (Nat × Ob)} {a r c : Nat} {d : Int} {rs ps : List (Int × Int)}
theorem HS.rdi (H : HS b s L) (i : Nat) (h : L[i]? = some (a, .lst [.int d])) : rdI s a = some d := rdI_of (H.rd i h)
theorem HS.put (H : HS b s L) (i : Nat) (h : L[i]? = some (a, .lst [.int d])) (d' : Int) : HS b (put1 s a d') (L.set i (a, .lst [.int d'])) := H.set i h _
theorem put_len {d' : Int} : (put1 s a d').length = s.length := by simp [put1]
theorem g_source {ns : List Int} : ∃ s' a d, F_law_source [.fz (ns.map .int)] b = .ok (.ref a) s' ∧ HS b s' [(a, .lst [.int d])] :=
  ⟨_, b.length, srcF 0 ns, by simp [F_law_source, intsD_ints], (HS.nil b).new _⟩
theorem g_pick (H : HS b s L) (i : Nat) (hi : L[i]? = some (a, .lst [.int d])) {m : Int} (h0 : 0 < m) (h1 : m < 1073741824) : ∃ n d' s', F_law_pick [.ref a, .int m] s = .ok (.int n) s' ∧ (0 ≤ n ∧ n < m) ∧ HS b s' (L.set i (a, .lst [.int d'])) :=
  ⟨_, _, _, pick_eq (HS.rdi H i hi) h0 h1, ⟨Int.emod_nonneg _ (by omega), Int.emod_lt_of_pos _ h0⟩, HS.put H i hi _⟩
theorem g_roads (H : HS b s L) (i : Nat) (hi : L[i]? = some (a, .lst [.int d])) {least : Int} (h0 : 0 ≤ least ∧ least < 10) : ∃ rs d' s' r, F_law_roads [.ref a, .int least] s = .ok (.ref r) s' ∧ okR rs ∧ (least ≤ rs.length ∧ rs.length ≤ 9) ∧
    HS b s' ((r, .lst (rs.map prD)) :: L.set i (a, .lst [.int d'])) := by
  have e1 := HS.rdi H i hi
  refine ⟨(rdsM d least).1, (rdsM d least).2, put1 s a (rdsM d least).2 ++ [.lst ((rdsM d least).1.map prD)], s.length, by simp only [F_law_roads, e1, if_pos h0], rdsM_ok h0, ?_, ?_⟩
  · unfold rdsM
    simp only [genM_len]
    have := Int.emod_nonneg (d / 4 / 4 / 3 / ([6, 2, 40, 1][(d % 4).toNat]?.getD 1)) (show 10 - least ≠ 0 by omega)
    have := Int.emod_lt_of_pos (d / 4 / 4 / 3 / ([6, 2, 40, 1][(d % 4).toNat]?.getD 1)) (show 0 < 10 - least by omega)
    omega
  · have := (HS.put H i hi (rdsM d least).2).new (.lst ((rdsM d least).1.map prD))
    rwa [put_len] at this
theorem g_point (H : HS b s L) (i : Nat) (hi : L[i]? = some (a, .lst [.int d])) (cR : okR rs) (hr : rdL s r = some (rs.map prD)) : ∃ p d' s', F_law_point [.ref a, .ref r] s = .ok (prD p) s' ∧ isPt rs p = true ∧ HS b s' (L.set i (a, .lst [.int d'])) :=
  ⟨(genQ rs d).1, (genQ rs d).2, put1 s a (genQ rs d).2, by simp only [F_law_point, HS.rdi H i hi, rdR_of hr, if_pos cR], genQ_pt cR, HS.put H i hi _⟩
theorem g_helpers (H : HS b s L) (i : Nat) (hi : L[i]? = some (a, .lst [.int d])) (cR : okR rs) (hr : rdL s r = some (rs.map prD)) {many : Int} (h0 : 0 ≤ many ∧ many < 100) : ∃ ps d' s' c, F_law_helpers [.ref a, .ref r, .int many] s = .ok (.ref c) s' ∧ allP rs ps ∧ (ps.length : Int) = many ∧
    HS b s' ((c, .lst (ps.map prD)) :: L.set i (a, .lst [.int d'])) := by
  have q := hlpF_ok cR many.toNat 0 d [] rfl (fun p hp => by cases hp)
  refine ⟨(hlpF rs many.toNat 0 d []).1, (hlpF rs many.toNat 0 d []).2, _, s.length, by simp only [F_law_helpers, HS.rdi H i hi, rdR_of hr]; rw [if_pos ⟨cR, h0⟩], q.2, by rw [q.1]; simp; omega, ?_⟩
  have := (HS.put H i hi (hlpF rs many.toNat 0 d []).2).new (.lst ((hlpF rs many.toNat 0 d []).1.map prD))
  rwa [put_len] at this
theorem g_calls (H : HS b s L) (i : Nat) (hi : L[i]? = some (a, .lst [.int d])) (cR : okR rs) (hr : rdL s r = some (rs.map prD)) (hc : rdL s c = some (ps.map prD)) (hp : allP rs ps) (hl : 0 < ps.length ∧ ps.length < 100) {many : Int} (h0 : 0 ≤ many ∧ many < 100) :
    ∃ qs d' s' k, F_law_calls [.ref a, .ref r, .ref c, .int many] s = .ok (.ref k) s' ∧ allP rs qs ∧ (qs.length : Int) = many ∧ HS b s' ((k, .lst (qs.map prD)) :: L.set i (a, .lst [.int d'])) := by
  have q := calF_ok cR hp hl.1 many.toNat 0 d [] rfl (fun p hp => by cases hp)
  refine ⟨(calF rs ps many.toNat 0 d []).1, (calF rs ps many.toNat 0 d []).2, _, s.length, by simp only [F_law_calls, HS.rdi H i hi, rdR_of hr, rdR_of hc]; rw [if_pos ⟨cR, h0, hl⟩], q.2, by rw [q.1]; simp; omega, ?_⟩
  have := (HS.put H i hi (calF rs ps many.toNat 0 d []).2).new (.lst ((calF rs ps many.toNat 0 d []).1.map prD))
  rwa [put_len] at this
/-! trees -/
def TE (t m : Nat) (rs : List (Int × Int)) : List (Nat × Ob) := [(t, .ins "Tree" (treeF m)), (m, .lst (rs.map prD)), (m + 3, .lst ((parL rs).map .int)), (m + 6, .lst ((lenL rs).map .int)), (m + 7, .lst ((depL rs).map .int))]
theorem HS.isT {t m : Nat} (H : HS b s L) (cR : okR rs) (i : Nat) (h : (L.drop i).take 5 = TE t m rs) : IsT s t rs := by
  have k : ∀ p ∈ TE t m rs, s[p.1]? = some p.2 := fun p hp => H.has p (List.mem_of_mem_drop (List.mem_of_mem_take (h ▸ hp)))
  refine ⟨cR, m, k (t, _) (by simp [TE]), rdL_get (k (m, _) (by simp [TE])), rdL_get (k (m + 3, _) (by simp [TE])), rdL_get (k (m + 6, _) (by simp [TE])), rdL_get (k (m + 7, _) (by simp [TE]))⟩
theorem treeL_8 : (treeL rs).length = 8 := rfl
theorem g_tree (H : HS b s L) (cR : okR rs) (hr : rdL s r = some (rs.map prD)) : ∃ s' t m, s.length = t ∧ F_Tree_init [.ref t, .ref r] (s ++ [.ins "Tree" []]) = .ok .non s' ∧ HS b s' (TE t m rs ++ L) := by
  have e1 : rdR (s ++ [.ins "Tree" []]) r = some rs := rdR_of (rdL_app' hr)
  have e2 : okR rs ∧ (s ++ [Ob.ins "Tree" []])[s.length]? = some (.ins "Tree" []) := ⟨cR, by simp⟩
  refine ⟨_, s.length, s.length + 1, rfl, by simp only [F_Tree_init, e1, if_pos e2]; rfl, ?_⟩
  have H2 := (H.new (.ins "Tree" [])).set 0 rfl (.ins "Tree" (treeF (s ++ [Ob.ins "Tree" []]).length))
  have hl : (s ++ [Ob.ins "Tree" []]).length = s.length + 1 := by simp
  refine ⟨H2.ext.trans Ext.app, fun p hp => ?_, fun p hp => ?_, ?_⟩
  · rcases List.mem_append.mp hp with hp | hp
    · simp only [TE, List.mem_cons, List.not_mem_nil, or_false] at hp
      have at_ : ∀ (i : Nat) (o : Ob), (treeL rs)[i]? = some o → (((s ++ [Ob.ins "Tree" []]).set s.length (Ob.ins "Tree" (treeF (s ++ [Ob.ins "Tree" []]).length))) ++ treeL rs)[s.length + 1 + i]? = some o := fun i o h => by
        rw [List.getElem?_append_right (by rw [List.length_set, hl]; omega), List.length_set, hl, Nat.add_sub_cancel_left]
        exact h
      rcases hp with rfl | rfl | rfl | rfl | rfl
      · have := Ext.app (g := treeL rs) _ _ (H2.has (s.length, _) (List.mem_cons_self))
        rw [hl] at this
        rwa [hl]
      · exact at_ 0 _ rfl
      · exact at_ 3 _ rfl
      · exact at_ 6 _ rfl
      · exact at_ 7 _ rfl
    · exact Ext.app _ _ (H2.has p (List.mem_cons_of_mem _ hp))
  · have := H.ext.len
    rcases List.mem_append.mp hp with hp | hp
    · simp only [TE, List.mem_cons, List.not_mem_nil, or_false] at hp
      rcases hp with rfl | rfl | rfl | rfl | rfl <;> simp only <;> omega
    · exact H.low p hp
  · have old : ∀ x ∈ L.map (·.1), x < s.length := fun x hx => by
      obtain ⟨p, hp, rfl⟩ := List.mem_map.mp hx
      exact get_lt (H.has p hp)
    have nn : ∀ k, s.length + k ∉ L.map (·.1) := fun k z => by have := old _ z; omega
    show (s.length :: (s.length + 1) :: (s.length + 1 + 3) :: (s.length + 1 + 6) :: (s.length + 1 + 7) :: L.map (·.1)).Nodup
    have n0 := nn 0
    have n1 := nn 1
    have n4 := nn 4
    have n7 := nn 7
    have n8 := nn 8
    simp only [List.nodup_cons, List.mem_cons, not_or]
    refine ⟨⟨by omega, by omega, by omega, by omega, n0⟩, ⟨by omega, by omega, by omega, n1⟩, ⟨by omega, by omega, n4⟩, ⟨by omega, n7⟩, n8, H.nod⟩
/-! what is asked -/
theorem c_far {p q : Int × Int} (cR : okR rs) (hr : rdL s r = some (rs.map prD)) (hp : isPt rs p = true) (hq : isPt rs q = true) : F_law_far [.ref r, prD p, prD q] s = .ok (.int (wayLen rs p q)) s := by
  simp only [F_law_far, rdR_of hr, unP_pr]
  rw [if_pos ⟨cR, hp, hq⟩]
theorem c_dist {t : Nat} {p q : Int × Int} (T : IsT s t rs) (hp : isPt rs p = true) (hq : isPt rs q = true) : F_Tree_distance [.ref t, prD p, prD q] s = .ok (.int (wayLen rs p q)) s := by
  simp [F_Tree_distance, rdT_of T, ptD_of hp, ptD_of hq]
theorem ne_prs {m n : Nat} {ps : List (Int × Int)} (h1 : rdL s m = some (ps.map prD)) (h2 : rdL s n = some (ps.map prD)) (hl : ps.length < 90000) : fNe (.ref m) (.ref n) s = some (.bl false, s) := by
  simp [fNe, eqD_prs h1 h2 (by omega) (by omega)]
theorem eq_prs {m n : Nat} {ps : List (Int × Int)} (h1 : rdL s m = some (ps.map prD)) (h2 : rdL s n = some (ps.map prD)) (hl : ps.length < 90000) : fEq (.ref m) (.ref n) s = some (.bl true, s) := by
  simp [fEq, eqD_prs h1 h2 (by omega) (by omega)]
end
end Lw
set_option maxRecDepth 100000
set_option maxHeartbeats 4000000
namespace Lw
open PySem PySem.Spec PyProof.Rows L2 Dn
def rI : Int → Nat → List Int
  | _, 0 => []
  | t, k + 1 => t :: rI (t + 1) k
def awA (rs ps : List (Int × Int)) (c : Int × Int) (i : Int) : Int := wayLen rs (atN ps i) c
def badF (rs ps : List (Int × Int)) (c : Int × Int) (i j : Int) : Bool := decide ((awA rs ps c j < awA rs ps c i ∧ wayLen rs (atN ps i) (atN ps j) + awA rs ps c j = awA rs ps c i) ∨ (j < i ∧ atN ps j = atN ps i))
def seesF (rs ps : List (Int × Int)) (c : Int × Int) (i : Int) : Bool := (rI 0 ps.length).all fun j => !badF rs ps c i j
/-- who sees the call -/
def dueF (rs ps : List (Int × Int)) (c : Int × Int) : List Int := (rI 0 ps.length).filter (seesF rs ps c)
/-! comings -/
def lessF (rs ps : List (Int × Int)) (c : Int × Int) (i j : Int) : Bool := decide (awA rs ps c j < awA rs ps c i ∨ (awA rs ps c j = awA rs ps c i ∧ j < i))
def numF (rs ps : List (Int × Int)) (c : Int × Int) (i : Int) : List Int := (rI 0 ps.length).filter (lessF rs ps c i)
def rowF (rs ps : List (Int × Int)) (c : Int × Int) (i : Int) : List Int := (numF rs ps c i).map fun j => (wayLen rs (atN ps i) (atN ps j) + awA rs ps c j - awA rs ps c i) / 2
def garb (rs ps : List (Int × Int)) (c : Int × Int) : Nat → Sto
  | 0 => []
  | k + 1 => garb rs ps c k ++ [.lst ((numF rs ps c k).map .int), .lst ((rowF rs ps c k).map .int)]
def refsF (L : Nat) : Nat → List D
  | 0 => []
  | k + 1 => refsF L k ++ [.ref (L + 3 + 2 * k)]
open Classical in
noncomputable def F_comings (ds : List D) (st : Sto) : Res D := match ds with
  | [t, .ref c, y] => match rdT st t, rdR st c, unP y with
    | some rs, some ps, some q => if allP rs ps ∧ isPt rs q = true ∧ ps.length < 1000 then .ok (.ref (st.length + 1)) (st ++ (.lst ((ps.map fun p => wayLen rs p q).map .int) :: .lst (refsF st.length ps.length) :: garb rs ps q ps.length)) else .bad
    | _, _, _ => .bad
  | _ => .bad
open Classical in
noncomputable def F_seers (ds : List D) (st : Sto) : Res D := match ds with
  | [t, .ref c, y] => match rdT st t, rdR st c, unP y with
    | some rs, some ps, some q => if allP rs ps ∧ isPt rs q = true ∧ ps.length < 1000 then .ok (.ref st.length) (st ++ [.lst ((dueF rs ps q).map .int)]) else .bad
    | _, _, _ => .bad
  | _ => .bad
end Lw
set_option maxRecDepth 100000
set_option maxHeartbeats 4000000
namespace Lw
open PySem PySem.Spec PyProof.Rows L2 Dn
noncomputable def b_comings_1 : MS := (mSeq (mSet 7 (mLc [9] (mRng (mCons (mFn fLen (mCons (mVar 1) mNil)) mNil)) (gN 9) (mB (mOp fLtT (mTup (mCons (mOp fIdx (mVar 3) (mVar 9)) (mCons (mVar 9) mNil))) (mTup (mCons (mVar 6) (mCons (mVar 5) mNil))))) (mVar 9))) (mDrop (mMeth fAppend (mVar 4) (mCons (mLc [9] (mIter (mVar 7)) (gN 9) mYes (mOp fDiv (mOp fSub (mOp fAdd (mMethO "Tree" "distance" F_Tree_distance (mVar 0) (mCons (mOp fIdx (mVar 1) (mVar 5)) (mCons (mOp fIdx (mVar 1) (mVar 9)) mNil))) (mOp fIdx (mVar 3) (mVar 9))) (mVar 6)) (mC (.int 2)))) mNil))))
noncomputable def m_comings : MS := (mSeq (mSet 3 (mLc [8] (mIter (mVar 1)) (gN 8) mYes (mMethO "Tree" "distance" F_Tree_distance (mVar 0) (mCons (mVar 8) (mCons (mVar 2) mNil))))) (mSeq (mSet 4 (mLst mNil)) (mSeq (mFor (mEnum0 (mVar 3)) (gT 2 (gConsM (gN 5) (gConsM (gN 6) gNilM))) b_comings_1) (mRet (mVar 4)))))
noncomputable def m_seers : MS := (mRet (mLc [3, 4] (mEnum0 (mCall F_comings (mCons (mVar 0) (mCons (mVar 1) (mCons (mVar 2) mNil))))) (gT 2 (gConsM (gN 3) (gConsM (gN 4) gNilM))) (mB (mOp fNotIn (mC (.int 0)) (mVar 4))) (mVar 3)))
end Lw
set_option maxRecDepth 100000
set_option maxHeartbeats 4000000
namespace Lw
open PySem PySem.Spec PyProof.Rows L2 Dn
theorem eq_pt {p q : Int × Int} {s : Sto} : fEq (prD p) (prD q) s = some (.bl (decide (p = q)), s) := by
  obtain ⟨a, b⟩ := p
  obtain ⟨c, d⟩ := q
  simp [fEq, prD]
  rfl
theorem wf_intsL {N : Nat} {ns : List Int} : wfO N (.lst (ns.map .int)) := wf_ints
theorem rng_rI : ∀ (k : Nat) (t : Int), rng t k = (rI t k).map .int
  | 0, t => by rw [rng_nil]; rfl
  | k + 1, t => by rw [rng_cons, rng_rI k (t + 1)]; rfl
theorem mem_rI : ∀ {k : Nat} {t x : Int}, x ∈ rI t k ↔ t ≤ x ∧ x < t + k
  | 0, t, x => by
    simp only [rI, List.not_mem_nil, false_iff]
    omega
  | k + 1, t, x => by
    simp only [rI, List.mem_cons, mem_rI (k := k)]
    push_cast
    omega
theorem rI_len : ∀ {k : Nat} {t : Int}, (rI t k).length = k
  | 0, _ => rfl
  | k + 1, t => by simp [rI, rI_len (k := k)]
theorem rI_get : ∀ (k : Nat) (t : Int) (i : Nat), i < k → (rI t k)[i]? = some (t + i)
  | 0, _, _, h => by omega
  | k + 1, t, 0, _ => by simp [rI]
  | k + 1, t, i + 1, h => by
    simp only [rI, List.getElem?_cons_succ]
    rw [rI_get k (t + 1) i (by omega)]
    congr 1
    push_cast
    omega
section
variable {rs ps : List (Int × Int)} {q : Int × Int}
/-- no zero among the comings: the helper sees the call -/
theorem row_sees (cR : okR rs) (ha : allP rs ps) (hq : isPt rs q = true) {i : Int} (i0 : 0 ≤ i) (i1 : i < ps.length) : (!(rowF rs ps q i).contains 0) = seesF rs ps q i := by
  have key : ∀ j : Int, 0 ≤ j → j < ps.length → ((lessF rs ps q i j = true ∧ (wayLen rs (atN ps i) (atN ps j) + awA rs ps q j - awA rs ps q i) / 2 = 0) ↔ badF rs ps q i j = true) := by
    intro j j0 j1
    have hi := ha _ (atN_mem i0 i1).1
    have hj := ha _ (atN_mem j0 j1).1
    obtain ⟨half, M, e, _⟩ := middle cR (isPt_vp cR hi) (isPt_vp cR hj) (isPt_vp cR hq)
    have sy := way_sym cR hi hq
    have z := wayLen_zero cR hi hj
    have se := way_self cR hi
    unfold lessF badF awA
    rw [decide_eq_true_eq, decide_eq_true_eq]
    rw [sy] at e
    by_cases c : atN ps j = atN ps i
    · rw [c, se]
      simp
    · have z2 : wayLen rs (atN ps i) (atN ps j) ≠ 0 := by
        intro h
        rw [h] at z
        simp at z
        exact c z.symm
      simp only [c, and_false, or_false]
      obtain ⟨x, hx⟩ : ∃ x, wayLen rs (atN ps i) (atN ps j) = x := ⟨_, rfl⟩
      obtain ⟨y, hy⟩ : ∃ y, wayLen rs (atN ps j) q = y := ⟨_, rfl⟩
      obtain ⟨w, hw⟩ : ∃ w, wayLen rs (atN ps i) q = w := ⟨_, rfl⟩
      rw [hx, hy, hw] at e
      rw [hx] at z2
      rw [hx, hy, hw]
      clear hx hy hw z se sy
      constructor
      · rintro ⟨h1 | h1, h2⟩
        · exact ⟨h1, by omega⟩
        · exact absurd (show x = 0 by omega) z2
      · rintro ⟨h1, h2⟩
        exact ⟨.inl h1, by omega⟩
  rw [Bool.eq_iff_iff]
  unfold rowF numF seesF
  simp only [Bool.not_eq_true', List.all_eq_true, mem_rI, List.contains_eq_mem, decide_eq_false_iff_not, List.mem_map, List.mem_filter]
  constructor
  · intro h j hj
    rw [Bool.eq_false_iff]
    intro b
    have := (key j hj.1 (by omega)).mpr b
    exact h ⟨j, ⟨hj, this.1⟩, this.2⟩
  · rintro h ⟨j, ⟨hj, h1⟩, h2⟩
    have := (key j hj.1 (by omega)).mp ⟨h1, h2⟩
    rw [h j hj] at this
    cases this
theorem garb_len : ∀ {k : Nat}, (garb rs ps q k).length = 2 * k
  | 0 => rfl
  | k + 1 => by simp [garb, garb_len (k := k)]; omega
theorem refs_len {L : Nat} : ∀ {k : Nat}, (refsF L k).length = k
  | 0 => rfl
  | k + 1 => by simp [refsF, refs_len (k := k)]
theorem refs_get {L : Nat} : ∀ (k i : Nat), i < k → (refsF L k)[i]? = some (.ref (L + 3 + 2 * i))
  | 0, _, h => by omega
  | k + 1, i, h => by
    unfold refsF
    by_cases c : i < k
    · rw [List.getElem?_append_left (by rw [refs_len]; exact c)]
      exact refs_get k i c
    · have e : i = k := by omega
      subst e
      rw [List.getElem?_append_right (by rw [refs_len]; omega), refs_len]
      simp
theorem garb_get : ∀ (k i : Nat), i < k → (garb rs ps q k)[2 * i + 1]? = some (.lst ((rowF rs ps q i).map .int))
  | 0, _, h => by omega
  | k + 1, i, h => by
    unfold garb
    by_cases c : i < k
    · rw [List.getElem?_append_left (by rw [garb_len]; omega)]
      exact garb_get k i c
    · have e : i = k := by omega
      subst e
      rw [List.getElem?_append_right (by rw [garb_len]; omega), garb_len, show 2 * i + 1 - 2 * i = 1 by omega]
      rfl
theorem garb_wf {N : Nat} : ∀ {k : Nat}, wfN N (garb rs ps q k)
  | 0 => fun o ho => by simp [garb] at ho
  | k + 1 => fun o ho => by
    unfold garb at ho
    rcases List.mem_append.mp ho with h | h
    · exact garb_wf o h
    · simp only [List.mem_cons, List.not_mem_nil, or_false] at h
      rcases h with rfl | rfl
      · exact wf_intsL
      · exact wf_intsL
theorem refs_wf {N L : Nat} : ∀ {k : Nat}, L + 2 + 2 * k ≤ N → wfD.wfDs N (refsF L k)
  | 0, _ => trivial
  | k + 1, h => by
    unfold refsF
    have a := refs_wf (L := L) (k := k) (N := N) (by omega)
    have gen : ∀ (xs : List D) (d : D), wfD.wfDs N xs → wfD N d → wfD.wfDs N (xs ++ [d]) := by
      intro xs d
      induction xs with
      | nil => intro _ h; exact ⟨h, trivial⟩
      | cons x xs ih => intro h1 h2; exact ⟨h1.1, ih h1.2 h2⟩
    exact gen _ _ a (by show L + 3 + 2 * k < N; omega)
end
@[simp] theorem ev_enum0 {m : ME} {e : En} {s : Sto} : mEnum0 m e s = (m e s).bind fun x s1 => match x with
  | .ref n => match rdL s1 n with
    | some xs => .ok (enumD 0 xs, [(n, xs)]) s1
    | none => .bad
  | _ => .bad := rfl
section
variable {rs ps : List (Int × Int)} {q : Int × Int} {st0 : Sto} {t c : Nat}
def awL (rs ps : List (Int × Int)) (q : Int × Int) : List Int := ps.map fun p => wayLen rs p q
theorem awL_at {j : Int} (j0 : 0 ≤ j) (j1 : j < ps.length) : atI ((awL rs ps q).map D.int) j = some (.int (awA rs ps q j)) := by
  have hk : j.toNat < ps.length := by omega
  refine atI_nat' j0 ?_
  simp [awL, awA, atN, hk]
/-- the store ahead of a turn -/
def CS (st0 : Sto) (rs ps : List (Int × Int)) (q : Int × Int) (i : Nat) : Sto := st0 ++ (.lst ((awL rs ps q).map .int) :: .lst (refsF st0.length i) :: garb rs ps q i)
theorem CS_len {i : Nat} : (CS st0 rs ps q i).length = st0.length + 2 + 2 * i := by
  simp [CS, garb_len]
  omega
theorem CS_aw {i : Nat} {g : Sto} : rdL (CS st0 rs ps q i ++ g) st0.length = some ((awL rs ps q).map .int) := by
  unfold CS
  rw [List.append_assoc, rdL_append, if_neg (by omega)]
  simp [rdL]
theorem CS_rf {i : Nat} {g : Sto} : rdL (CS st0 rs ps q i ++ g) (st0.length + 1) = some (refsF st0.length i) := by
  unfold CS
  rw [List.append_assoc, rdL_append, if_neg (by omega), Nat.add_sub_cancel_left]
  simp [rdL]
theorem CS_num {i : Nat} {x : List D} {g : Sto} : rdL (CS st0 rs ps q i ++ .lst x :: g) (st0.length + 2 + 2 * i) = some x := by
  rw [rdL_append, if_neg (by rw [CS_len]; omega), CS_len, Nat.sub_self]
  rfl
theorem CS_next {i : Nat} : (CS st0 rs ps q i ++ [Ob.lst ((numF rs ps q i).map .int), Ob.lst ((rowF rs ps q i).map .int)]).set (st0.length + 1) (Ob.lst (refsF st0.length i ++ [D.ref (st0.length + 2 + 2 * i + 1)])) = CS st0 rs ps q (i + 1) := by
  unfold CS
  rw [List.append_assoc, List.set_append, if_neg (by omega), Nat.add_sub_cancel_left, show st0.length + 2 + 2 * i + 1 = st0.length + 3 + 2 * i by omega]
  simp [garb, refsF]
theorem lc_num {i : Nat} {st : Sto} {L : Nat} {x0 x2 x4 x7 x8 x9 : Option D} (i1 : i < ps.length) (hc : rdL st c = some (ps.map prD)) (ha : rdL st L = some ((awL rs ps q).map .int)) :
    lcS [] [9] (gN 9) (mB (mOp fLtT (mTup (mCons (mOp fIdx (mVar 3) (mVar 9)) (mCons (mVar 9) mNil))) (mTup (mCons (mVar 6) (mCons (mVar 5) mNil))))) (mVar 9) [x0, some (.ref c), x2, some (.ref L), x4, some (.int i), some (.int (awA rs ps q i)), x7, x8, x9] (rng 0 ps.length) [] st = .ok ((numF rs ps q i).map .int) st := by
  rw [lc_pure (fun d => d) (fun d => match d with | .int j => lessF rs ps q i j | _ => false) stays_nil]
  · rw [rng_rI, List.filter_map]
    simp [numF]
    rfl
  · intro x hx
    obtain ⟨j, rfl, j0, j1⟩ := mem_rng hx
    have aj := awL_at (rs := rs) (ps := ps) (q := q) j0 (by omega)
    refine ⟨_, rfl, ?_, fun _ => ?_⟩
    · simp [wipeE, ha, aj, lessF]
    · simp [wipeE]
theorem lc_row {i n : Nat} {st : Sto} {L : Nat} {x4 x8 x9 : Option D} (T : IsT st t rs) (i1 : i < ps.length) (hp : allP rs ps) (hc : rdL st c = some (ps.map prD)) (ha : rdL st L = some ((awL rs ps q).map .int)) (hn : rdL st n = some ((numF rs ps q i).map .int)) :
    lcS [(n, (numF rs ps q i).map .int)] [9] (gN 9) mYes (mOp fDiv (mOp fSub (mOp fAdd (mMethO "Tree" "distance" F_Tree_distance (mVar 0) (mCons (mOp fIdx (mVar 1) (mVar 5)) (mCons (mOp fIdx (mVar 1) (mVar 9)) mNil))) (mOp fIdx (mVar 3) (mVar 9))) (mVar 6)) (mC (.int 2))) [some (.ref t), some (.ref c), some (prD q), some (.ref L), x4, some (.int i), some (.int (awA rs ps q i)), some (.ref n), x8, x9] ((numF rs ps q i).map .int) [] st = .ok ((rowF rs ps q i).map .int) st := by
  obtain ⟨m, e1, _⟩ := T.ex
  have o1 := obj_of e1
  rw [lc_map (fun d => match d with | .int j => .int ((wayLen rs (atN ps i) (atN ps j) + awA rs ps q j - awA rs ps q i) / 2) | _ => .non) (stays_one hn)]
  · simp [rowF]
  · intro x hx
    obtain ⟨j, hj, rfl⟩ := List.mem_map.mp hx
    have hj := mem_rI.mp (List.mem_filter.mp hj).1
    have aj := awL_at (rs := rs) (ps := ps) (q := q) hj.1 (by omega)
    have pi := atN_mem (ps := ps) (i := (i : Int)) (by omega) (by omega)
    have pj := atN_mem (ps := ps) hj.1 (by omega)
    refine ⟨_, rfl, ?_⟩
    simp [wipeE, hc, ha, aj, pi.2, pj.2, insOf_get, o1, treeF, List.lookup, F_Tree_distance, rdT_of T, ptD_of (hp _ pi.1), ptD_of (hp _ pj.1)]
theorem comings_loop (T : IsT st0 t rs) (hp : allP rs ps) (hl : ps.length < 1000) (hc : rdL st0 c = some (ps.map prD)) : ∀ (k i : Nat) (z5 z6 z7 z8 z9 : Option D), i + k = ps.length →
    ∃ z5' z6' z7' z8' z9', forS [(st0.length, (awL rs ps q).map .int)] (gT 2 (gConsM (gN 5) (gConsM (gN 6) gNilM))) b_comings_1 (enumD i (((awL rs ps q).drop i).map .int)) [some (.ref t), some (.ref c), some (prD q), some (.ref st0.length), some (.ref (st0.length + 1)), z5, z6, z7, z8, z9] (CS st0 rs ps q i) =
      .nx [some (.ref t), some (.ref c), some (prD q), some (.ref st0.length), some (.ref (st0.length + 1)), z5', z6', z7', z8', z9'] (CS st0 rs ps q ps.length) := by
  have aw0 : ∀ i, rdL (CS st0 rs ps q i) st0.length = some ((awL rs ps q).map .int) := fun i => by have := CS_aw (st0 := st0) (rs := rs) (ps := ps) (q := q) (i := i) (g := []); rwa [List.append_nil] at this
  have lA : (awL rs ps q).length = ps.length := by simp [awL]
  intro k
  induction k with
  | zero =>
    intro i z5 z6 z7 z8 z9 hi
    have : i = ps.length := by omega
    subst this
    rw [List.drop_eq_nil_of_le (by rw [lA]; omega)]
    exact ⟨z5, z6, z7, z8, z9, for_nil (stays_one (aw0 _))⟩
  | succ k ih =>
    intro i z5 z6 z7 z8 z9 hi
    have i1 : i < ps.length := by omega
    have da : (awL rs ps q).drop i = awA rs ps q i :: (awL rs ps q).drop (i + 1) := by
      rw [List.drop_eq_getElem_cons (by rw [lA]; exact i1)]
      congr 1
      simp [awL, awA, atN, i1]
    have hc' : ∀ g, rdL (CS st0 rs ps q i ++ g) c = some (ps.map prD) := fun g => by unfold CS; rw [List.append_assoc]; exact rdL_app' hc
    have hc0 : rdL (CS st0 rs ps q i) c = some (ps.map prD) := by have := hc' []; rwa [List.append_nil] at this
    have T' : ∀ g, IsT (CS st0 rs ps q i ++ g) t rs := fun g => by unfold CS; rw [List.append_assoc]; exact T.app
    have n1 := lc_num (rs := rs) (q := q) (L := st0.length) (x0 := some (.ref t)) (x2 := some (prD q)) (x4 := some (.ref (st0.length + 1))) (x7 := z7) (x8 := z8) (x9 := z9) i1 hc0 (aw0 i)
    have n2 := lc_row (rs := rs) (q := q) (L := st0.length) (n := st0.length + 2 + 2 * i) (x4 := some (.ref (st0.length + 1))) (x8 := z8) (x9 := z9) (T' [.lst ((numF rs ps q i).map .int)]) i1 hp (hc' _) CS_aw CS_num
    obtain ⟨y5, y6, y7, y8, y9, e⟩ := ih (i + 1) (some (.int i)) (some (.int (awA rs ps q i))) (some (.ref (st0.length + 2 + 2 * i))) z8 z9 (by omega)
    refine ⟨y5, y6, y7, y8, y9, ?_⟩
    rw [da, List.map_cons, enumD, for_cons (stays_one (aw0 i))]
    simp only [ev_gT, List.length_cons, List.length_nil, if_true, ev_gCons, ev_gN, ev_gNil, List.set_cons_succ, List.set_cons_zero]
    obtain ⟨A, hA⟩ : ∃ A, awA rs ps q i = A := ⟨_, rfl⟩
    rw [hA] at n1 n2 e ⊢
    have bb : -4611686018427387904 ≤ (ps.length : Int) ∧ (ps.length : Int) < 4611686018427387904 := by omega
    have l1 : ps.length ≤ 100000 := by omega
    have l2 : (numF rs ps q i).length ≤ 100000 := by
      have := List.length_filter_le (lessF rs ps q i) (rI 0 ps.length)
      rw [rI_len] at this
      unfold numF
      omega
    have l3 : (refsF st0.length i).length < 100000 := by rw [refs_len]; omega
    have h3 := CS_rf (st0 := st0) (rs := rs) (ps := ps) (q := q) (i := i) (g := [.lst ((numF rs ps q i).map .int), .lst ((rowF rs ps q i).map .int)])
    have h4 := CS_rf (st0 := st0) (rs := rs) (ps := ps) (q := q) (i := i) (g := [.lst ((numF rs ps q i).map .int)])
    have h2 := CS_num (st0 := st0) (rs := rs) (ps := ps) (q := q) (i := i) (x := (numF rs ps q i).map .int) (g := [])
    have hL := CS_len (st0 := st0) (rs := rs) (ps := ps) (q := q) (i := i)
    have hN := CS_next (st0 := st0) (rs := rs) (ps := ps) (q := q) (i := i)
    obtain ⟨S, hS⟩ : ∃ S, CS st0 rs ps q i = S := ⟨_, rfl⟩
    obtain ⟨N, hNN⟩ : ∃ N, st0.length + 2 + 2 * i = N := ⟨_, rfl⟩
    rw [hS] at n1 n2 h2 h3 h4 hL hN hc0 ⊢
    rw [hNN] at n2 h2 hL hN e
    obtain ⟨xs, hxs⟩ : ∃ xs, (numF rs ps q i).map D.int = xs := ⟨_, rfl⟩
    obtain ⟨ys, hys⟩ : ∃ ys, (rowF rs ps q i).map D.int = ys := ⟨_, rfl⟩
    have l2' : xs.length ≤ 100000 := by rw [← hxs]; simpa using l2
    rw [hxs] at n1 n2 h2 h3 h4 hN
    rw [hys] at n2 h3 hN
    have step : b_comings_1 [some (.ref t), some (.ref c), some (prD q), some (.ref st0.length), some (.ref (st0.length + 1)), some (.int i), some (.int A), z7, z8, z9] S = .nx [some (.ref t), some (.ref c), some (prD q), some (.ref st0.length), some (.ref (st0.length + 1)), some (.int i), some (.int A), some (.ref N), z8, z9] (CS st0 rs ps q (i + 1)) := by
      rw [← hN]
      simp -implicitDefEqProofs [b_comings_1, hc0, bb, rng_len, l1, n1, hL, h2, l2', n2, h3, h4, l3]
    rw [step, loopS_nx]
    push_cast at e
    exact e
theorem lc_away {x3 x4 x5 x6 x7 x8 x9 : Option D} (T : IsT st0 t rs) (hp : allP rs ps) (hq : isPt rs q = true) (hc : rdL st0 c = some (ps.map prD)) :
    lcS [(c, ps.map prD)] [8] (gN 8) mYes (mMethO "Tree" "distance" F_Tree_distance (mVar 0) (mCons (mVar 8) (mCons (mVar 2) mNil))) [some (.ref t), some (.ref c), some (prD q), x3, x4, x5, x6, x7, x8, x9] (ps.map prD) [] st0 = .ok ((awL rs ps q).map .int) st0 := by
  obtain ⟨m, e1, _⟩ := T.ex
  have o1 := obj_of e1
  rw [lc_map (fun d => match unP d with | some p => .int (wayLen rs p q) | none => .non) (stays_one hc)]
  · simp [awL]
  · intro x hx
    obtain ⟨p, hpp, rfl⟩ := List.mem_map.mp hx
    refine ⟨_, rfl, ?_⟩
    simp [wipeE, insOf_get, o1, treeF, List.lookup, F_Tree_distance, rdT_of T, ptD_of (hp p hpp), ptD_of hq]
end
theorem hm_comings : ∀ ds st0, ds.length = 3 → wfS st0 → wfD.wfDs st0.length ds → Fin st0.length (retR (m_comings (startE 10 ds) st0)) (F_comings ds st0) := by
  intro ds st0 hl hw hd
  unfold F_comings
  split
  · split
    · split
      · rename_i t c y _ _ _ rs ps q ht hc hy cond
        obtain ⟨n, rfl, T⟩ := rdT_some ht
        have hc := rdR_some hc
        have hy := unP_some hy
        subst hy
        obtain ⟨z5, z6, z7, z8, z9, e⟩ := comings_loop (q := q) T cond.1 cond.2.2 hc ps.length 0 none none none none none (by omega)
        have l0 := lc_away (x3 := none) (x4 := none) (x5 := none) (x6 := none) (x7 := none) (x8 := none) (x9 := none) T cond.1 cond.2.1 hc
        rw [List.drop_zero] at e
        have s0 : CS st0 rs ps q 0 = st0 ++ [.lst ((awL rs ps q).map .int), .lst []] := by simp [CS, refsF, garb]
        rw [s0] at e
        have hlen : ps.length ≤ 100000 := by omega
        have r0 : rdL (st0 ++ [.lst ((awL rs ps q).map .int), .lst []]) st0.length = some ((awL rs ps q).map .int) := by simp [rdL_append]
        obtain ⟨xs, hxs⟩ : ∃ xs, (awL rs ps q).map D.int = xs := ⟨_, rfl⟩
        rw [hxs] at e l0 r0
        have e : retR (m_comings (startE 10 [.ref n, .ref c, prD q]) st0) = .ok (.ref (st0.length + 1)) (CS st0 rs ps q ps.length) := by
          have lx : xs.length ≤ 100000 := by rw [← hxs]; simp [awL]; omega
          have ee : (enumD 0 xs).length ≤ 100000 := by rw [enumD_length]; exact lx
          push_cast at e
          simp -implicitDefEqProofs [m_comings, startE, hc, hlen, l0, r0, e]
        rw [e]
        have hxs' : (ps.map fun p => wayLen rs p q).map D.int = (awL rs ps q).map .int := rfl
        rw [hxs']
        show Fin _ _ (.ok _ (CS st0 rs ps q ps.length))
        have cl := CS_len (st0 := st0) (rs := rs) (ps := ps) (q := q) (i := ps.length)
        refine fin_same (by omega) ?_ (by rw [cl]; show st0.length + 1 < _; omega)
        unfold CS at cl ⊢
        rw [cl]
        refine wfN_app (wfN_mono (by omega) (wfS_N hw)) ?_
        intro o ho
        simp only [List.mem_cons] at ho
        rcases ho with rfl | rfl | ho
        · exact wf_intsL
        · exact refs_wf (by omega)
        · exact garb_wf o ho
      · exact fin_bad
    · exact fin_bad
  · exact fin_bad
theorem not_in_ints {s : Sto} {n : Nat} {xs : List Int} {v : Int} (h : rdL s n = some (xs.map D.int)) (hl : xs.length < 100000) : fNotIn (.int v) (.ref n) s = some (.bl (!xs.contains v), s) := by
  have e : toPys s 100001 (xs.map D.int) = some (xs.map PyData.int) := toPys_ints (by omega)
  have sh := shaped_ints (xs := xs)
  have sv : SeqAt.shaped (.int v) = true := by simp [SeqAt.shaped, PyData.canLay0, PyData.depth]
  have ea : anyEq s (.int v) (.ref n) = some (xs.contains v) := by
    simp only [anyEq, toPy, h, e, Option.map_some, sh, sv, and_self, if_true, any_ints]
  simp [fNotIn, isTupD, ea]
theorem enum_refs {L n : Nat} : enumD 0 (refsF L n) = (rI 0 n).map fun i => D.tup [.int i, .ref (L + 3 + 2 * i.toNat)] := by
  apply List.ext_getElem?
  intro i
  by_cases h : i < n
  · rw [enumD_get 0 _ i _ (refs_get n i h), List.getElem?_map, rI_get n 0 i h]
    simp
  · rw [List.getElem?_eq_none (by rw [enumD_length, refs_len]; omega), List.getElem?_eq_none (by rw [List.length_map, rI_len]; omega)]
theorem CS_row {rs ps : List (Int × Int)} {q : Int × Int} {st0 : Sto} {i : Nat} (h : i < ps.length) : rdL (CS st0 rs ps q ps.length) (st0.length + 3 + 2 * i) = some ((rowF rs ps q i).map .int) := by
  refine rdL_get ?_
  unfold CS
  rw [List.getElem?_append_right (by omega), show st0.length + 3 + 2 * i - st0.length = 2 * i + 1 + 2 by omega]
  simp only [List.getElem?_cons_succ]
  exact garb_get _ _ h
theorem lc_seers {rs ps : List (Int × Int)} {q : Int × Int} {st0 : Sto} {x0 x1 x2 x3 x4 : Option D} (cR : okR rs) (hp : allP rs ps) (hq : isPt rs q = true) (hl : ps.length < 1000) :
    lcS [(st0.length + 1, refsF st0.length ps.length)] [3, 4] (gT 2 (gConsM (gN 3) (gConsM (gN 4) gNilM))) (mB (mOp fNotIn (mC (.int 0)) (mVar 4))) (mVar 3) [x0, x1, x2, x3, x4] (enumD 0 (refsF st0.length ps.length)) [] (CS st0 rs ps q ps.length) = .ok ((dueF rs ps q).map .int) (CS st0 rs ps q ps.length) := by
  have hs : rdL (CS st0 rs ps q ps.length) (st0.length + 1) = some (refsF st0.length ps.length) := by
    have := CS_rf (st0 := st0) (rs := rs) (ps := ps) (q := q) (i := ps.length) (g := [])
    rwa [List.append_nil] at this
  rw [lc_pure (fun d => match d with | .tup [.int i, _] => .int i | _ => .non) (fun d => match d with | .tup [.int i, _] => seesF rs ps q i | _ => false) (stays_one hs)]
  · rw [enum_refs, List.filter_map, List.map_map, List.nil_append]
    rfl
  · intro x hx
    rw [enum_refs] at hx
    obtain ⟨i, hi, rfl⟩ := List.mem_map.mp hx
    have hi := mem_rI.mp hi
    have rr := CS_row (rs := rs) (ps := ps) (q := q) (st0 := st0) (i := i.toNat) (by omega)
    rw [show ((i.toNat : Nat) : Int) = i by omega] at rr
    have ll : (rowF rs ps q i).length < 100000 := by
      have := List.length_filter_le (lessF rs ps q i) (rI 0 ps.length)
      rw [rI_len] at this
      unfold rowF numF
      rw [List.length_map]
      omega
    have ni := not_in_ints (v := 0) rr ll
    have se := row_sees cR hp hq hi.1 (show i < ps.length by omega)
    rw [se] at ni
    refine ⟨_, by simp; rfl, ?_, fun _ => ?_⟩
    · simp [wipeE, ni]
    · simp [wipeE]
theorem hm_seers : ∀ ds st0, ds.length = 3 → wfS st0 → wfD.wfDs st0.length ds → Fin st0.length (retR (m_seers (startE 5 ds) st0)) (F_seers ds st0) := by
  intro ds st0 hl hw hd
  unfold F_seers
  split
  · split
    · split
      · rename_i t c y _ _ _ rs ps q ht hc hy cond
        obtain ⟨n, rfl, T⟩ := rdT_some ht
        have hc := rdR_some hc
        have hy := unP_some hy
        subst hy
        have fc : F_comings [.ref n, .ref c, prD q] st0 = .ok (.ref (st0.length + 1)) (CS st0 rs ps q ps.length) := by
          simp only [F_comings, rdT_of T, rdR_of hc, unP_pr]
          rw [if_pos cond]
          rfl
        have lc := lc_seers (st0 := st0) (x0 := some (.ref n)) (x1 := some (.ref c)) (x2 := some (prD q)) (x3 := none) (x4 := none) T.ok cond.1 cond.2.1 cond.2.2
        have hs : rdL (CS st0 rs ps q ps.length) (st0.length + 1) = some (refsF st0.length ps.length) := by
          have := CS_rf (st0 := st0) (rs := rs) (ps := ps) (q := q) (i := ps.length) (g := [])
          rwa [List.append_nil] at this
        have le : (enumD 0 (refsF st0.length ps.length)).length ≤ 100000 := by rw [enumD_length, refs_len]; omega
        have cl := CS_len (st0 := st0) (rs := rs) (ps := ps) (q := q) (i := ps.length)
        have e : retR (m_seers (startE 5 [.ref n, .ref c, prD q]) st0) = .ok (.ref (st0.length + (2 + 2 * ps.length))) (CS st0 rs ps q ps.length ++ [.lst ((dueF rs ps q).map .int)]) := by
          simp -implicitDefEqProofs [m_seers, startE, fc, hs, le, lc, cl, Nat.add_assoc]
        rw [e]
        unfold CS at cl ⊢
        rw [List.append_assoc]
        refine fin_one rfl (wfS_N hw) wf_intsL (m := 2 + 2 * ps.length) ?_ rfl
        rw [List.cons_append, List.cons_append, show 2 + 2 * ps.length = 2 * ps.length + 2 by omega]
        simp only [List.getElem?_cons_succ]
        rw [List.getElem?_append_right (by rw [garb_len]; omega), garb_len, Nat.sub_self]
        rfl
      · exact fin_bad
    · exact fin_bad
  · exact fin_bad
end Lw
set_option maxRecDepth 100000
/-! the rules: Nearest, Both -/
namespace Lw
open PySem PySem.Spec PyProof.Rows L2 Dn
section
variable (rs ps : List (Int × Int)) (q : Int × Int)
def nearW : Int := leastI (awL rs ps q)
def nearI : Nat := (awL rs ps q).findIdx (· == nearW rs ps q)
def nearC : List (Int × Int) := ps.set (nearI rs ps q) q
/-- how far helper i goes -/
def goneF (i : Int) : Int := match rowF rs ps q i with
  | [] => awA rs ps q i
  | n :: r => r.foldl min n
def bothP (i : Int) : Int × Int := stepTo rs (atN ps i) q (goneF rs ps q i)
def bothC : List (Int × Int) := (rI 0 ps.length).map (bothP rs ps q)
def bothW : Int := ((rI 0 ps.length).map (goneF rs ps q)).sum
end
open Classical in
noncomputable def F_lead_nearest (ds : List D) (st : Sto) : Res D := match ds with
  | [t, .ref c, y] => match rdT st t, rdR st c, unP y with
    | some rs, some ps, some q => if allP rs ps ∧ isPt rs q = true ∧ 0 < ps.length ∧ ps.length < 1000 then .ok (.tup [.ref st.length, .int (nearW rs ps q)]) (st ++ [.lst ((nearC rs ps q).map prD)]) else .bad
    | _, _, _ => .bad
  | _ => .bad
open Classical in
noncomputable def F_lead_both (ds : List D) (st : Sto) : Res D := match ds with
  | [t, .ref c, y] => match rdT st t, rdR st c, unP y with
    | some rs, some ps, some q => if allP rs ps ∧ isPt rs q = true ∧ ps.length < 1000 then .ok (.tup [.ref st.length, .int (bothW rs ps q)]) (st ++ [.lst ((bothC rs ps q).map prD)]) else .bad
    | _, _, _ => .bad
  | _ => .bad
end Lw
set_option maxRecDepth 100000
set_option maxHeartbeats 4000000
namespace Lw
open PySem PySem.Spec PyProof.Rows L2 Dn
noncomputable def m_lead_nearest : MS := (mSeq (mSet 3 (mLc [4] (mIter (mVar 1)) (gN 4) mYes (mMethO "Tree" "distance" F_Tree_distance (mVar 0) (mCons (mVar 4) (mCons (mVar 2) mNil))))) (mRet (mCall F_send (mCons (mVar 0) (mCons (mVar 1) (mCons (mMeth fIndex (mVar 3) (mCons (mFn fMin (mCons (mVar 3) mNil)) mNil)) (mCons (mVar 2) mNil)))))))
noncomputable def b_lead_both_1 : MS := (mSeq (mSet 7 (mOp fMinD (mVar 6) (mMethO "Tree" "distance" F_Tree_distance (mVar 0) (mCons (mVar 5) (mCons (mVar 2) mNil))))) (mSeq (mDrop (mMeth fAppend (mVar 3) (mCons (mMethO "Tree" "towards" F_Tree_towards (mVar 0) (mCons (mVar 5) (mCons (mVar 2) (mCons (mVar 7) mNil)))) mNil))) (mSet 4 (mOp fAdd (mVar 4) (mVar 7)))))
noncomputable def m_lead_both : MS := (mSeq (mSet 3 (mLst mNil)) (mSeq (mSet 4 (mC (.int 0))) (mSeq (mFor (mZip (mVar 1) (mCall F_comings (mCons (mVar 0) (mCons (mVar 1) (mCons (mVar 2) mNil))))) (gT 2 (gConsM (gN 5) (gConsM (gN 6) gNilM))) b_lead_both_1) (mRet (mTup (mCons (mVar 3) (mCons (mVar 4) mNil)))))))
end Lw
set_option maxRecDepth 100000
set_option maxHeartbeats 4000000
namespace Dn
open PySem PySem.Spec PyProof.Rows L2
/-- all objects of a store, by their numbers -/
def ent (n : Nat) : Sto → List (Nat × Ob)
  | [] => []
  | o :: r => (n, o) :: ent (n + 1) r
theorem ent_get : ∀ (g : Sto) (n i : Nat) (o : Ob), g[i]? = some o → (ent n g)[i]? = some (n + i, o)
  | [], _, _, _, h => by simp at h
  | x :: r, n, 0, o, h => by simp at h; subst h; rfl
  | x :: r, n, i + 1, o, h => by
    have := ent_get r (n + 1) i o (by simpa using h)
    simp only [ent, List.getElem?_cons_succ]
    rw [this]
    congr 2
    omega
theorem HS.newL {b s : Sto} {L : List (Nat × Ob)} (H : HS b s L) : ∀ (g : Sto), ∃ L', HS b (s ++ g) (L ++ L') ∧ ∀ i o, g[i]? = some o → (s.length + i, o) ∈ L'
  | [] => ⟨[], by simpa using H, fun i o h => by simp at h⟩
  | o :: g => by
    obtain ⟨L', H', k⟩ := HS.newL (H.new o) g
    have e : s ++ [o] ++ g = s ++ o :: g := by simp
    rw [e] at H'
    refine ⟨(s.length, o) :: L', ?_, fun i u h => ?_⟩
    · have p : (L ++ (s.length, o) :: L').Perm ((s.length, o) :: L ++ L') := by simpa using List.perm_middle
      exact ⟨H'.ext, fun x hx => H'.has x (p.subset hx), fun x hx => H'.low x (p.subset hx), ((p.map (·.1)).nodup_iff).mpr H'.nod⟩
    · cases i with
      | zero => simp at h; subst h; simp
      | succ i =>
        have := k i u (by simpa using h)
        simp only [List.length_append, List.length_cons, List.length_nil] at this
        rw [show s.length + (i + 1) = s.length + (0 + 1) + i by omega]
        exact List.mem_cons_of_mem _ this
theorem HS.rdm {b s : Sto} {L : List (Nat × Ob)} {a : Nat} {xs : List D} (H : HS b s L) (h : (a, Ob.lst xs) ∈ L) : rdL s a = some xs := rdL_get (H.has _ h)
theorem Ext.stays {s s1 : Sto} {ck : Chk} (e : Ext s s1) (h : Stays ck s) : Stays ck s1 := fun p hp => e.rd (h p hp)
end Dn
namespace Lw
open PySem PySem.Spec PyProof.Rows L2 Dn
theorem idx_ints {s : Sto} {n : Nat} {xs : List Int} {v : Int} (h : rdL s n = some (xs.map .int)) (hl : xs.length < 99000) (hv : v ∈ xs) : fIndex (.ref n) [.int v] s = some (.int (xs.findIdx (· == v)), s) := by
  have e : toPys s 100001 (xs.map D.int) = some (xs.map PyData.int) := toPys_ints (by omega)
  have sh := shaped_ints (xs := xs)
  have sv : SeqAt.shaped (.int v) = true := by simp [SeqAt.shaped, PyData.canLay0, PyData.depth]
  have ev : toPy s 100002 (.ref n) = some (.list (xs.map PyData.int)) := by simp [toPy, h, e]
  have el : toPy s 100002 (.int v) = some (.int v) := by simp [toPy]
  have fi : (xs.map PyData.int).findIdx? (fun z => PyData.eqv z (.int v)) = some (xs.findIdx (· == v)) := by
    rw [List.findIdx?_map]
    have e2 : ((fun z => PyData.eqv z (PyData.int v)) ∘ PyData.int) = (fun z : Int => z == v) := by
      funext z
      simp [PyData.eqv]
    rw [e2, List.findIdx?_eq_some_iff_findIdx_eq]
    exact ⟨List.findIdx_lt_length.mpr ⟨v, hv, by simp⟩, rfl⟩
  simp only [fIndex, ev, el, sh, sv, and_self, if_true, fi]
theorem IsT.ext {s s1 : Sto} {n : Nat} {rs : List (Int × Int)} (T : IsT s n rs) (e : Ext s s1) : IsT s1 n rs := by
  obtain ⟨g, rfl⟩ := e.eq_app
  exact T.app
theorem c_towards {s : Sto} {t : Nat} {rs : List (Int × Int)} {p q : Int × Int} {far : Int} (T : IsT s t rs) (hp : isPt rs p = true) (hq : isPt rs q = true) (h0 : 0 ≤ far ∧ far ≤ wayLen rs p q) : F_Tree_towards [.ref t, prD p, prD q, .int far] s = .ok (prD (stepTo rs p q far)) s := by
  have kn : knT s (D.int far) = true := by simp [knT, tyD]
  simp [F_Tree_towards, rdT_of T, ptD_of hp, ptD_of hq, farOk, h0, kn]
theorem rI_snoc : ∀ (k : Nat) (t : Int), rI t (k + 1) = rI t k ++ [t + k]
  | 0, t => by simp [rI]
  | k + 1, t => by
    rw [rI, rI_snoc k (t + 1), rI]
    simp
    omega
section
variable {rs ps : List (Int × Int)} {q : Int × Int}
theorem foldl_min_mem : ∀ (r : List Int) (n : Int), r.foldl min n = n ∨ r.foldl min n ∈ r
  | [], n => .inl rfl
  | a :: r, n => by
    rcases foldl_min_mem r (min n a) with h | h
    · rw [List.foldl_cons, h]
      rcases Int.le_total n a with k | k
      · exact .inl (by omega)
      · exact .inr (by rw [Int.min_eq_right k]; simp)
    · exact .inr (by rw [List.foldl_cons]; simp [h])
theorem foldl_min_le : ∀ (r : List Int) (n : Int), r.foldl min n ≤ n ∧ ∀ x ∈ r, r.foldl min n ≤ x
  | [], n => ⟨Int.le_refl _, fun _ h => by cases h⟩
  | a :: r, n => by
    obtain ⟨h1, h2⟩ := foldl_min_le r (min n a)
    rw [List.foldl_cons]
    refine ⟨by omega, fun x hx => ?_⟩
    rcases List.mem_cons.mp hx with rfl | hx
    · omega
    · exact h2 x hx
/-- a coming is on the way -/
theorem coming_in (cR : okR rs) (ha : allP rs ps) (hq : isPt rs q = true) {i j : Int} (i0 : 0 ≤ i ∧ i < ps.length) (j0 : 0 ≤ j ∧ j < ps.length) (hj : awA rs ps q j ≤ awA rs ps q i) :
    0 ≤ (wayLen rs (atN ps i) (atN ps j) + awA rs ps q j - awA rs ps q i) / 2 ∧ (wayLen rs (atN ps i) (atN ps j) + awA rs ps q j - awA rs ps q i) / 2 ≤ awA rs ps q j ∧ 2 * ((wayLen rs (atN ps i) (atN ps j) + awA rs ps q j - awA rs ps q i) / 2) = wayLen rs (atN ps i) (atN ps j) + awA rs ps q j - awA rs ps q i := by
  have hi := ha _ (atN_mem i0.1 i0.2).1
  have hj' := ha _ (atN_mem j0.1 j0.2).1
  obtain ⟨half, M, e, h0, h1, h2, _⟩ := middle cR (isPt_vp cR hi) (isPt_vp cR hj') (isPt_vp cR hq)
  have sy := way_sym cR hi hq
  unfold awA at *
  rw [sy] at e
  omega
theorem gone_in (cR : okR rs) (ha : allP rs ps) (hq : isPt rs q = true) {i : Int} (i0 : 0 ≤ i ∧ i < ps.length) : 0 ≤ goneF rs ps q i ∧ goneF rs ps q i ≤ awA rs ps q i := by
  have key : ∀ x ∈ rowF rs ps q i, 0 ≤ x ∧ x ≤ awA rs ps q i := by
    intro x hx
    obtain ⟨j, hj, rfl⟩ := List.mem_map.mp hx
    obtain ⟨h1, h2⟩ := List.mem_filter.mp hj
    have h1 := mem_rI.mp h1
    unfold lessF at h2
    rw [decide_eq_true_eq] at h2
    have := coming_in cR ha hq i0 ⟨h1.1, by omega⟩ (by omega)
    omega
  have nn : 0 ≤ awA rs ps q i := by
    have hi := ha _ (atN_mem i0.1 i0.2).1
    have := dist_ok cR hi hq
    unfold awA
    rw [this]
    have : 0 < (way rs (atN ps i) q).length := by
      obtain ⟨A, B, _, _, e⟩ := way_eq cR (isPt_vp cR hi) (isPt_vp cR hq)
      rw [e]
      simp only [List.length_append, List.length_cons]
      omega
    omega
  unfold goneF
  cases h : rowF rs ps q i with
  | nil => exact ⟨nn, Int.le_refl _⟩
  | cons n r =>
    simp only
    rw [h] at key
    rcases foldl_min_mem r n with e | e
    · rw [e]; exact key n (by simp)
    · exact key _ (by simp [e])
theorem minD_gone {i : Int} : minDf (rowF rs ps q i) (.int (awA rs ps q i)) = .int (goneF rs ps q i) := by
  unfold minDf goneF
  cases rowF rs ps q i <;> rfl
theorem both_loop {st0 : Sto} {t c l B : Nat} {G : List (Nat × Ob)} (T : IsT st0 t rs) (cR : okR rs) (ha : allP rs ps) (hq : isPt rs q = true) (hl : ps.length < 1000) (hc : rdL st0 c = some (ps.map prD)) (hR : (B + 1, Ob.lst (refsF B ps.length)) ∈ G) (hG : ∀ i : Nat, i < ps.length → (B + 3 + 2 * i, Ob.lst ((rowF rs ps q i).map .int)) ∈ G) :
    ∀ (k i : Nat) (w : Int) (z5 z6 z7 : Option D) (s : Sto), i + k = ps.length → HS st0 s ((l, .lst (((rI 0 i).map (bothP rs ps q)).map prD)) :: G) →
    ∃ z5' z6' z7' s', forS [(c, ps.map prD), (B + 1, refsF B ps.length)] (gT 2 (gConsM (gN 5) (gConsM (gN 6) gNilM))) b_lead_both_1 ((rI i k).map fun i => D.tup [prD (atN ps i), .ref (B + 3 + 2 * i.toNat)]) [some (.ref t), some (.ref c), some (prD q), some (.ref l), some (.int w), z5, z6, z7] s =
      .nx [some (.ref t), some (.ref c), some (prD q), some (.ref l), some (.int (w + ((rI i k).map (goneF rs ps q)).sum)), z5', z6', z7'] s' ∧ HS st0 s' ((l, .lst ((bothC rs ps q).map prD)) :: G) := by
  have st : ∀ {s : Sto} {o : Ob}, HS st0 s ((l, o) :: G) → Stays [(c, ps.map prD), (B + 1, refsF B ps.length)] s := fun {s o} H p hp => by
    simp only [List.mem_cons, List.not_mem_nil, or_false] at hp
    rcases hp with rfl | rfl
    · exact H.old hc
    · exact H.rdm (List.mem_cons_of_mem _ hR)
  intro k
  induction k with
  | zero =>
    intro i w z5 z6 z7 s hi H
    have e : i = ps.length := by omega
    subst e
    refine ⟨z5, z6, z7, s, ?_, H⟩
    simp only [rI, List.map_nil, List.sum_nil, Int.add_zero]
    exact for_nil (st H)
  | succ k ih =>
    intro i w z5 z6 z7 s hi H
    have i1 : i < ps.length := by omega
    have am := atN_mem (ps := ps) (i := (i : Int)) (by omega) (by omega)
    have pi := ha _ am.1
    have Ts := IsT.ext T H.ext
    obtain ⟨m, k1, _⟩ := Ts.ex
    have o1 := obj_of k1
    have gi := gone_in cR ha hq (i := (i : Int)) ⟨by omega, by omega⟩
    have f1 : F_Tree_distance [.ref t, prD (atN ps i), prD q] s = .ok (.int (awA rs ps q i)) s := c_dist Ts pi hq
    have f2 : F_Tree_towards [.ref t, prD (atN ps i), prD q, .int (goneF rs ps q i)] s = .ok (prD (bothP rs ps q i)) s := c_towards Ts pi hq gi
    have r1 : rdL s (B + 3 + 2 * i) = some ((rowF rs ps q i).map .int) := H.rdm (List.mem_cons_of_mem _ (hG i i1))
    have r2 := H.rd 0 rfl
    have mg := minD_gone (rs := rs) (ps := ps) (q := q) (i := i)
    have ll : (rI 0 i).length < 100000 := by rw [rI_len]; omega
    obtain ⟨s1, e1, H1⟩ := g_set H 0 rfl (.lst (((rI 0 (i + 1)).map (bothP rs ps q)).map prD))
    have sn : ((rI 0 (i + 1)).map (bothP rs ps q)).map prD = ((rI 0 i).map (bothP rs ps q)).map prD ++ [prD (bothP rs ps q i)] := by
      rw [rI_snoc]
      simp
    rw [sn] at e1
    obtain ⟨y5, y6, y7, s', e, H'⟩ := ih (i + 1) (w + goneF rs ps q i) (some (prD (atN ps i))) (some (.ref (B + 3 + 2 * i))) (some (.int (goneF rs ps q i))) s1 (by omega) H1
    refine ⟨y5, y6, y7, s', ?_, H'⟩
    rw [rI, List.map_cons, for_cons (st H), List.map_cons, List.sum_cons, ← Int.add_assoc]
    obtain ⟨A, hA⟩ : ∃ A, awA rs ps q i = A := ⟨_, rfl⟩
    obtain ⟨g, hg⟩ : ∃ g, goneF rs ps q i = g := ⟨_, rfl⟩
    obtain ⟨P, hP⟩ : ∃ P, bothP rs ps q i = P := ⟨_, rfl⟩
    obtain ⟨a, hA'⟩ : ∃ a, atN ps i = a := ⟨_, rfl⟩
    rw [hA, hg] at mg
    rw [hA, hA'] at f1
    rw [hg, hP, hA'] at f2
    rw [hP] at e1
    rw [hg, hA'] at e
    rw [hg, hA']
    push_cast at e
    rw [show ((i : Int)).toNat = i by omega]
    have step : b_lead_both_1 [some (.ref t), some (.ref c), some (prD q), some (.ref l), some (.int w), some (prD a), some (.ref (B + 3 + 2 * i)), z7] s = .nx [some (.ref t), some (.ref c), some (prD q), some (.ref l), some (.int (w + g)), some (prD a), some (.ref (B + 3 + 2 * i)), some (.int g)] s1 := by
      simp -implicitDefEqProofs [b_lead_both_1, insOf_get, o1, treeF, List.lookup, f1, fMinD, r1, mg, f2, r2, ll, e1, -List.map_append, -List.map_map]
    simp only [ev_gT, List.length_cons, List.length_nil, if_true, ev_gCons, ev_gN, ev_gNil, List.set_cons_succ, List.set_cons_zero]
    rw [step, loopS_nx]
    exact e
theorem zip_refs {B : Nat} : zipD (ps.map prD) (refsF B ps.length) = (rI 0 ps.length).map fun i => D.tup [prD (atN ps i), .ref (B + 3 + 2 * i.toNat)] := by
  apply List.ext_getElem?
  intro i
  unfold zipD
  by_cases h : i < ps.length
  · have e1 : (ps.map prD)[i]? = some (prD (atN ps i)) := by simp [atN, h]
    have e2 := refs_get (L := B) ps.length i h
    rw [List.getElem?_map, (List.getElem?_zip_eq_some (z := (prD (atN ps i), D.ref (B + 3 + 2 * i)))).mpr ⟨e1, e2⟩, List.getElem?_map, rI_get _ 0 i h]
    simp
  · rw [List.getElem?_eq_none (by simp; omega), List.getElem?_eq_none (by rw [List.length_map, rI_len]; omega)]
end
theorem hm_lead_both : ∀ ds st0, ds.length = 3 → wfS st0 → wfD.wfDs st0.length ds → Fin st0.length (retR (m_lead_both (startE 8 ds) st0)) (F_lead_both ds st0) := by
  intro ds st0 hl hw hd
  unfold F_lead_both
  split
  · split
    · split
      · rename_i t c y _ _ _ rs ps q ht hc hy cond
        obtain ⟨n, rfl, T⟩ := rdT_some ht
        have hc := rdR_some hc
        have hy := unP_some hy
        subst hy
        obtain ⟨s1, l, e1, e1', H⟩ := g_new (HS.nil st0) (.lst [])
        have fc : F_comings [.ref n, .ref c, prD q] s1 = .ok (.ref (s1.length + 1)) (CS s1 rs ps q ps.length) := by
          simp only [F_comings, rdT_of (IsT.ext T H.ext), rdR_of (H.old hc), unP_pr]
          rw [if_pos cond]
          rfl
        obtain ⟨G, H2, hG⟩ := H.newL (.lst ((awL rs ps q).map .int) :: .lst (refsF s1.length ps.length) :: garb rs ps q ps.length)
        have cs : s1 ++ (.lst ((awL rs ps q).map .int) :: .lst (refsF s1.length ps.length) :: garb rs ps q ps.length) = CS s1 rs ps q ps.length := rfl
        rw [cs] at H2
        obtain ⟨s2, hs2⟩ : ∃ s, CS s1 rs ps q ps.length = s := ⟨_, rfl⟩
        rw [hs2] at H2 fc
        have hR := hG 1 _ rfl
        have hRw : ∀ i : Nat, i < ps.length → (s1.length + 3 + 2 * i, Ob.lst ((rowF rs ps q i).map .int)) ∈ G := fun i hi => by
          have := hG (2 * i + 1 + 2) _ (by simpa using garb_get (rs := rs) (ps := ps) (q := q) ps.length i hi)
          rwa [show s1.length + (2 * i + 1 + 2) = s1.length + 3 + 2 * i by omega] at this
        obtain ⟨z5, z6, z7, s3, e3, H3⟩ := both_loop (l := l) (B := s1.length) T T.ok cond.1 cond.2.1 cond.2.2 hc hR hRw ps.length 0 0 none none none s2 (by omega) (by simpa [rI] using H2)
        rw [show ((0 : Nat) : Int) = 0 from rfl, ← zip_refs, Int.zero_add] at e3
        have r1 := H2.old hc
        have r2 := H2.rdm (List.mem_append_right _ hR)
        have e : retR (m_lead_both (startE 8 [.ref n, .ref c, prD q]) st0) = .ok (.tup [.ref l, .int (bothW rs ps q)]) s3 := by
          simp -implicitDefEqProofs [m_lead_both, startE, e1, e1', fc, r1, r2, e3, bothW]
        rw [e]
        exact fin_tupI hw H3 0 rfl wf_prs
      · exact fin_bad
    · exact fin_bad
  · exact fin_bad
theorem near_lt {rs ps : List (Int × Int)} {q : Int × Int} (h : 0 < ps.length) : nearI rs ps q < ps.length ∧ awA rs ps q (nearI rs ps q) = nearW rs ps q := by
  have ne : awL rs ps q ≠ [] := by intro z; have := congrArg List.length z; simp [awL] at this; rw [this] at h; simp at h
  have lm := leastI_mem ne
  have hx : ∃ x ∈ awL rs ps q, (x == nearW rs ps q) = true := ⟨_, lm, by simp [nearW]⟩
  have lt := List.findIdx_lt_length.mpr hx
  have lA : (awL rs ps q).length = ps.length := by simp [awL]
  have at_ := List.findIdx_getElem (w := lt)
  unfold nearI
  refine ⟨by omega, ?_⟩
  have at_ : (awL rs ps q)[(awL rs ps q).findIdx (· == nearW rs ps q)]'lt = nearW rs ps q := by simpa using at_
  obtain ⟨W, hW⟩ : ∃ W, nearW rs ps q = W := ⟨_, rfl⟩
  rw [hW] at lt ⊢
  simp only [hW] at at_
  obtain ⟨k, hk⟩ : ∃ k, (awL rs ps q).findIdx (· == W) = k := ⟨_, rfl⟩
  have e2 : (awL rs ps q)[k]? = some W := by
    rw [← hk, List.getElem?_eq_getElem lt, at_]
  rw [hk] at lt ⊢
  have : k < ps.length := by omega
  have e3 : (awL rs ps q)[k]? = some (awA rs ps q k) := by simp [awA, awL, atN, this]
  exact Option.some.inj (e3.symm.trans e2)
theorem hm_lead_nearest : ∀ ds st0, ds.length = 3 → wfS st0 → wfD.wfDs st0.length ds → Fin st0.length (retR (m_lead_nearest (startE 5 ds) st0)) (F_lead_nearest ds st0) := by
  intro ds st0 hl hw hd
  unfold F_lead_nearest
  split
  · split
    · split
      · rename_i t c y _ _ _ rs ps q ht hc hy cond
        obtain ⟨n, rfl, T⟩ := rdT_some ht
        have hc := rdR_some hc
        have hy := unP_some hy
        subst hy
        obtain ⟨m, k1, _⟩ := T.ex
        have o1 := obj_of k1
        obtain ⟨c1, c2, c3, c4⟩ := cond
        have lc : lcS [(c, ps.map prD)] [4] (gN 4) mYes (mMethO "Tree" "distance" F_Tree_distance (mVar 0) (mCons (mVar 4) (mCons (mVar 2) mNil))) [some (.ref n), some (.ref c), some (prD q), none, none] (ps.map prD) [] st0 = .ok ((awL rs ps q).map .int) st0 := by
          rw [lc_map (fun d => match unP d with | some p => .int (wayLen rs p q) | none => .non) (stays_one hc)]
          · simp [awL]
          · intro x hx
            obtain ⟨p, hpp, rfl⟩ := List.mem_map.mp hx
            refine ⟨_, rfl, ?_⟩
            simp [wipeE, insOf_get, o1, treeF, List.lookup, c_dist T (c1 p hpp) c2]
        obtain ⟨s1, l, e1, e1', H⟩ := g_new (HS.nil st0) (.lst ((awL rs ps q).map .int))
        have r1 := H.rd 0 rfl
        have ne : awL rs ps q ≠ [] := by intro z; have := congrArg List.length z; simp [awL] at this; rw [this] at c3; simp at c3
        have ix := idx_ints (v := nearW rs ps q) r1 (by simp [awL]; omega) (leastI_mem ne)
        obtain ⟨nl, na⟩ := near_lt (rs := rs) (q := q) c3
        have am := atN_mem (ps := ps) (i := (nearI rs ps q : Int)) (by omega) (by omega)
        obtain ⟨s2, l2, e2, e2', H2⟩ := g_new H (.lst ((nearC rs ps q).map prD))
        have fs : F_send [.ref n, .ref c, .int (nearI rs ps q), prD q] s1 = .ok (.tup [.ref l2, .int (nearW rs ps q)]) s2 := by
          simp only [F_send, rdT_of (IsT.ext T H.ext), rdR_of (H.old hc), unP_pr]
          rw [if_pos ⟨⟨by omega, by omega⟩, c1 _ am.1, c2⟩, e2']
          have : wayLen rs (atN ps (nearI rs ps q)) q = nearW rs ps q := na
          rw [this, ← e2]
          rfl
        have ll : ps.length ≤ 100000 := by omega
        have nw : leastI (awL rs ps q) = nearW rs ps q := rfl
        have ni : (awL rs ps q).findIdx (· == nearW rs ps q) = nearI rs ps q := rfl
        rw [ni] at ix
        have e : retR (m_lead_nearest (startE 5 [.ref n, .ref c, prD q]) st0) = .ok (.tup [.ref l2, .int (nearW rs ps q)]) s2 := by
          simp -implicitDefEqProofs [m_lead_nearest, startE, hc, ll, lc, e1, e1', r1, ne, nw, ix, fs]
        rw [e]
        exact fin_tupI hw H2 0 rfl wf_prs
      · exact fin_bad
    · exact fin_bad
  · exact fin_bad
end Lw
set_option maxRecDepth 100000
/-! what laws of family B ask of points -/
namespace Lw
open PySem PySem.Spec PyProof.Rows L2 Dn
def F_law_same (ds : List D) (st : Sto) : Res D := match ds with
  | [.ref a, .ref b] => match rdR st a, rdR st b with
    | some ps, some qs => if ps = qs ∧ ps.length < 1000 then .ok (.bl true) st else .bad
    | _, _ => .bad
  | _ => .bad
open Classical in
noncomputable def F_law_is_point (ds : List D) (st : Sto) : Res D := match ds with
  | [.ref r, x] => match rdR st r, unP x with
    | some rs, some p => if okR rs ∧ isPt rs p = true then .ok (.bl true) st else .bad
    | _, _ => .bad
  | _ => .bad
open Classical in
noncomputable def F_law_are_points (ds : List D) (st : Sto) : Res D := match ds with
  | [.ref r, .ref a, .int n] => match rdR st r, rdR st a with
    | some rs, some ps => if okR rs ∧ allP rs ps ∧ ps.length = n ∧ n < 1000 then .ok (.bl true) st else .bad
    | _, _ => .bad
  | _ => .bad
end Lw
set_option maxRecDepth 100000
set_option maxHeartbeats 4000000
namespace Lw
open PySem PySem.Spec PyProof.Rows L2 Dn
noncomputable def b_law_same_1 : MS := (mSeq (mIfS (mOr (mNot (mB (mIsiO ["Tree"] "tuple" (mOp fIdx (mVar 0) (mVar 2))))) (mOr (mB (mOp fNe (mFn fLen (mCons (mOp fIdx (mVar 0) (mVar 2)) mNil)) (mC (.int 2)))) (mB (mOp fNe (mOp fIdx (mVar 0) (mVar 2)) (mOp fIdx (mVar 1) (mVar 2)))))) (mRet (mC (.bl false))) mNext) (mIfS (mOr (mNot (mB (mCall F_law_is_integer (mCons (mOp fIdx (mOp fIdx (mVar 0) (mVar 2)) (mC (.int 0))) mNil)))) (mNot (mB (mCall F_law_is_integer (mCons (mOp fIdx (mOp fIdx (mVar 0) (mVar 2)) (mC (.int 1))) mNil))))) (mRet (mC (.bl false))) mNext))
noncomputable def m_law_same : MS := (mSeq (mIfS (mOr (mNot (mB (mIsiO ["Tree"] "list" (mVar 0)))) (mB (mOp fNe (mFn fLen (mCons (mVar 0) mNil)) (mFn fLen (mCons (mVar 1) mNil))))) (mRet (mC (.bl false))) mNext) (mSeq (mFor (mRng (mCons (mFn fLen (mCons (mVar 1) mNil)) mNil)) (gN 2) b_law_same_1) (mRet (mC (.bl true)))))
noncomputable def m_law_is_point : MS := (mSeq (mIfS (mOr (mNot (mB (mIsiO ["Tree"] "tuple" (mVar 1)))) (mB (mOp fNe (mFn fLen (mCons (mVar 1) mNil)) (mC (.int 2))))) (mRet (mC (.bl false))) mNext) (mSeq (mIfS (mOr (mNot (mB (mCall F_law_is_integer (mCons (mOp fIdx (mVar 1) (mC (.int 0))) mNil)))) (mNot (mB (mCall F_law_is_integer (mCons (mOp fIdx (mVar 1) (mC (.int 1))) mNil))))) (mRet (mC (.bl false))) mNext) (mSeq (mIfS (mB (mOp fEq (mOp fIdx (mVar 1) (mC (.int 0))) (mC (.int 0)))) (mRet (mOp fEq (mOp fIdx (mVar 1) (mC (.int 1))) (mC (.int 0)))) mNext) (mRet (mAndV (mChain fLt fLe (mC (.int 0)) (mOp fIdx (mVar 1) (mC (.int 0))) (mFn fLen (mCons (mVar 0) mNil))) (mChain fLe fLt (mC (.int 0)) (mOp fIdx (mVar 1) (mC (.int 1))) (mOp fIdx (mOp fIdx (mVar 0) (mOp fSub (mOp fIdx (mVar 1) (mC (.int 0))) (mC (.int 1)))) (mC (.int 1)))))))))
noncomputable def b_law_are_points_1 : MS := (mIfS (mNot (mB (mCall F_law_is_point (mCons (mVar 0) (mCons (mOp fIdx (mVar 1) (mVar 3)) mNil))))) (mRet (mC (.bl false))) mNext)
noncomputable def m_law_are_points : MS := (mSeq (mIfS (mOr (mNot (mB (mIsiO ["Tree"] "list" (mVar 1)))) (mB (mOp fNe (mFn fLen (mCons (mVar 1) mNil)) (mVar 2)))) (mRet (mC (.bl false))) mNext) (mSeq (mFor (mRng (mCons (mVar 2) mNil)) (gN 3) b_law_are_points_1) (mRet (mC (.bl true)))))
end Lw
set_option maxRecDepth 100000
set_option maxHeartbeats 4000000
namespace Lw
open PySem PySem.Spec PyProof.Rows L2 Dn
theorem hm_law_same : ∀ ds st0, ds.length = 2 → wfS st0 → wfD.wfDs st0.length ds → Fin st0.length (retR (m_law_same (startE 3 ds) st0)) (F_law_same ds st0) := by
  intro ds st0 hl hw hd
  unfold F_law_same
  split
  · split
    · split
      · rename_i a b _ _ ps qs h1 h2 cond
        obtain ⟨rfl, hl⟩ := cond
        have h1 := rdR_some h1
        have h2 := rdR_some h2
        have ta : st0[a]? = some (.lst (ps.map prD)) := rdL_some h1
        have loop := for_inv (ck := []) (g := gN 2) (b := b_law_same_1) (I := fun e s => s = st0 ∧ ∃ z, e = [some (.ref a), some (.ref b), z]) (rng 0 ps.length) (by
          rintro dd hdd e s ⟨rfl, z, rfl⟩
          obtain ⟨k, rfl, k0, k1⟩ := mem_rng hdd
          have am := (atN_mem (ps := ps) k0 (by omega)).2
          refine ⟨_, _, [some (.ref a), some (.ref b), some (.int k)], s, rfl, ?_, rfl, _, rfl⟩
          have en : fNe (.tup [.int (atN ps k).1, .int (atN ps k).2]) (.tup [.int (atN ps k).1, .int (atN ps k).2]) s = some (.bl false, s) := by simp [fNe]
          simp only [prD] at am
          simp -implicitDefEqProofs [b_law_same_1, en, h1, h2, am, isiA, tyD, prD, F_law_is_integer, F_is_int, knT, isIntD]) (fun _ _ _ => stays_nil) [some (.ref a), some (.ref b), none] st0 ⟨rfl, _, rfl⟩
        obtain ⟨e', s', q, hs', z, rfl⟩ := loop
        rw [hs'] at q
        have bb : -4611686018427387904 ≤ (ps.length : Int) ∧ (ps.length : Int) < 4611686018427387904 := by omega
        have e : retR (m_law_same (startE 3 [.ref a, .ref b]) st0) = .ok (.bl true) st0 := by
          simp -implicitDefEqProofs [m_law_same, startE, isiA, tyD, ta, h1, h2, bb, q]
        rw [e]
        exact fin_same (by simp) (wfS_N hw) trivial
      · exact fin_bad
    · exact fin_bad
  · exact fin_bad
theorem hm_law_is_point : ∀ ds st0, ds.length = 2 → wfS st0 → wfD.wfDs st0.length ds → Fin st0.length (retR (m_law_is_point (startE 2 ds) st0)) (F_law_is_point ds st0) := by
  intro ds st0 hl hw hd
  unfold F_law_is_point
  split
  · split
    · split
      · rename_i r x _ _ rs p hr hx cond
        have hr := rdR_some hr
        have hx := unP_some hx
        subst hx
        have vp := isPt_vp cond.1 cond.2
        obtain ⟨v, u⟩ := p
        have v0 := vp.lo
        have v1 := vp.hi
        have u0 := vp.ul
        simp only at v0 v1 u0
        have e : retR (m_law_is_point (startE 2 [.ref r, prD (v, u)]) st0) = .ok (.bl true) st0 := by
          by_cases c : v = 0
          · subst c
            have uz : u = 0 := (vp.uz rfl)
            subst uz
            simp -implicitDefEqProofs [m_law_is_point, startE, isiA, tyD, prD, F_law_is_integer, F_is_int, knT, isIntD]
          · have hl := vp.uh (by show 0 < v; omega)
            have ix : atI (rs.map prD) (v - 1) = some (.tup [.int (parAt rs v), .int (lenAt rs v)]) := by
              refine atI_nat' (by omega) ?_
              have : (v - 1).toNat < rs.length := by omega
              have g := List.getElem?_eq_getElem this
              unfold parAt lenAt
              rw [List.getElem?_map, g]
              rfl
            have vp0 : 0 < v := by omega
            simp only at hl
            simp -implicitDefEqProofs [m_law_is_point, startE, isiA, tyD, prD, F_law_is_integer, F_is_int, knT, isIntD, c, hr, ix, vp0, v1, u0, hl]
        rw [e]
        exact fin_same (by simp) (wfS_N hw) trivial
      · exact fin_bad
    · exact fin_bad
  · exact fin_bad
theorem hm_law_are_points : ∀ ds st0, ds.length = 3 → wfS st0 → wfD.wfDs st0.length ds → Fin st0.length (retR (m_law_are_points (startE 4 ds) st0)) (F_law_are_points ds st0) := by
  intro ds st0 hl hw hd
  unfold F_law_are_points
  split
  · split
    · split
      · rename_i r a n _ _ rs ps hr ha cond
        have hr := rdR_some hr
        have ha := rdR_some ha
        obtain ⟨c1, c2, rfl, c4⟩ := cond
        have ta : st0[a]? = some (.lst (ps.map prD)) := rdL_some ha
        have loop := for_inv (ck := []) (g := gN 3) (b := b_law_are_points_1) (I := fun e s => s = st0 ∧ ∃ z, e = [some (.ref r), some (.ref a), some (.int ps.length), z]) (rng 0 ps.length) (by
          rintro dd hdd e s ⟨rfl, z, rfl⟩
          obtain ⟨k, rfl, k0, k1⟩ := mem_rng hdd
          have am := atN_mem (ps := ps) k0 (by omega)
          have f1 : F_law_is_point [.ref r, prD (atN ps k)] s = .ok (.bl true) s := by
            simp only [F_law_is_point, rdR_of hr, unP_pr]
            rw [if_pos ⟨c1, c2 _ am.1⟩]
          refine ⟨_, _, [some (.ref r), some (.ref a), some (.int ps.length), some (.int k)], s, rfl, ?_, rfl, _, rfl⟩
          simp -implicitDefEqProofs [b_law_are_points_1, ha, am.2, f1]) (fun _ _ _ => stays_nil) [some (.ref r), some (.ref a), some (.int ps.length), none] st0 ⟨rfl, _, rfl⟩
        obtain ⟨e', s', q, hs', z, rfl⟩ := loop
        rw [hs'] at q
        have bb : -4611686018427387904 ≤ (ps.length : Int) ∧ (ps.length : Int) < 4611686018427387904 := by omega
        have e : retR (m_law_are_points (startE 4 [.ref r, .ref a, .int ps.length]) st0) = .ok (.bl true) st0 := by
          simp -implicitDefEqProofs [m_law_are_points, startE, isiA, tyD, ta, ha, bb, q, fNe]
        rw [e]
        exact fin_same (by simp) (wfS_N hw) trivial
      · exact fin_bad
    · exact fin_bad
  · exact fin_bad
section
variable {s : Sto} {r a b : Nat} {rs ps : List (Int × Int)}
theorem c_same (h1 : rdL s a = some (ps.map prD)) (h2 : rdL s b = some (ps.map prD)) (hl : ps.length < 1000) : F_law_same [.ref a, .ref b] s = .ok (.bl true) s := by
  simp [F_law_same, rdR_of h1, rdR_of h2, hl]
theorem c_are_points (c : okR rs) (h1 : rdL s r = some (rs.map prD)) (h2 : rdL s a = some (ps.map prD)) (hp : allP rs ps) (hl : ps.length < 1000) : F_law_are_points [.ref r, .ref a, .int ps.length] s = .ok (.bl true) s := by
  simp only [F_law_are_points, rdR_of h1, rdR_of h2]
  rw [if_pos ⟨c, hp, rfl, by omega⟩]
theorem c_isint {i : Int} : F_law_is_integer [.int i] s = .ok (.bl true) s := by simp [F_law_is_integer, F_is_int, knT, tyD, isIntD]
theorem c_lead_nearest {t : Nat} {q : Int × Int} (T : IsT s t rs) (h : rdL s a = some (ps.map prD)) (hp : allP rs ps) (hq : isPt rs q = true) (hl : 0 < ps.length ∧ ps.length < 1000) :
    F_lead_nearest [.ref t, .ref a, prD q] s = .ok (.tup [.ref s.length, .int (nearW rs ps q)]) (s ++ [.lst ((nearC rs ps q).map prD)]) := by
  simp only [F_lead_nearest, rdT_of T, rdR_of h, unP_pr]
  rw [if_pos ⟨hp, hq, hl⟩]
theorem c_lead_both {t : Nat} {q : Int × Int} (T : IsT s t rs) (h : rdL s a = some (ps.map prD)) (hp : allP rs ps) (hq : isPt rs q = true) (hl : ps.length < 1000) :
    F_lead_both [.ref t, .ref a, prD q] s = .ok (.tup [.ref s.length, .int (bothW rs ps q)]) (s ++ [.lst ((bothC rs ps q).map prD)]) := by
  simp only [F_lead_both, rdT_of T, rdR_of h, unP_pr]
  rw [if_pos ⟨hp, hq, hl⟩]
end
end Lw
set_option maxRecDepth 100000
/-! lead, by both rules -/
namespace Lw
open PySem PySem.Spec PyProof.Rows L2 Dn
noncomputable def F_lead (ds : List D) (st : Sto) : Res D := match ds with
  | [t, .ref r, .ref c, y] => if insCls st (.ref r) = some "Nearest" then F_lead_nearest [t, .ref c, y] st else if insCls st (.ref r) = some "Both" then F_lead_both [t, .ref c, y] st else .bad
  | _ => .bad
end Lw
set_option maxRecDepth 100000
set_option maxHeartbeats 4000000
namespace Lw
open PySem PySem.Spec PyProof.Rows L2 Dn
noncomputable def m_lead : MS := (mSeq (mIfS (mB (mIsiC ["Nearest", "Both"] "Nearest" (mVar 1))) (mRet (mCall F_lead_nearest (mCons (mVar 0) (mCons (mVar 2) (mCons (mVar 3) mNil))))) mNext) (mRet (mCall F_lead_both (mCons (mVar 0) (mCons (mVar 2) (mCons (mVar 3) mNil))))))
end Lw
set_option maxRecDepth 100000
set_option maxHeartbeats 4000000
namespace Lw
open PySem PySem.Spec PyProof.Rows L2 Dn
theorem ins_ty0 {s : Sto} {r : Nat} {c : Str} (h : insCls s (.ref r) = some c) : tyD s (.ref r) = none := by
  unfold insCls at h
  unfold tyD
  simp only at h ⊢
  split at h
  · rename_i e; rw [e]
  · cases h
theorem hm_lead : ∀ ds st0, ds.length = 4 → wfS st0 → wfD.wfDs st0.length ds → Fin st0.length (retR (m_lead (startE 4 ds) st0)) (F_lead ds st0) := by
  intro ds st0 hl hw hd
  unfold F_lead
  split
  · split
    · rename_i t r c y hh
      have ty := ins_ty0 hh
      unfold F_lead_nearest
      simp only []
      split
      · split
        · rename_i _ _ _ rs ps q ht hc hy cond
          obtain ⟨n, rfl, T⟩ := rdT_some ht
          have hc := rdR_some hc
          have hy := unP_some hy
          subst hy
          have f := c_lead_nearest T hc cond.1 cond.2.1 cond.2.2
          have e : retR (m_lead (startE 4 [.ref n, .ref r, .ref c, prD q]) st0) = .ok (.tup [.ref st0.length, .int (nearW rs ps q)]) (st0 ++ [.lst ((nearC rs ps q).map prD)]) := by
            simp -implicitDefEqProofs [m_lead, startE, isiC, ty, hh, f]
          rw [e]
          exact fin_tupI hw ((HS.nil st0).new _) 0 rfl wf_prs
        · exact fin_bad
      · exact fin_bad
    · split
      · rename_i t r c y h0 hh
        have ty := ins_ty0 hh
        unfold F_lead_both
        simp only []
        split
        · split
          · rename_i _ _ _ rs ps q ht hc hy cond
            obtain ⟨n, rfl, T⟩ := rdT_some ht
            have hc := rdR_some hc
            have hy := unP_some hy
            subst hy
            have f := c_lead_both T hc cond.1 cond.2.1 cond.2.2
            have e : retR (m_lead (startE 4 [.ref n, .ref r, .ref c, prD q]) st0) = .ok (.tup [.ref st0.length, .int (bothW rs ps q)]) (st0 ++ [.lst ((bothC rs ps q).map prD)]) := by
              simp -implicitDefEqProofs [m_lead, startE, isiC, ty, hh, f]
            rw [e]
            exact fin_tupI hw ((HS.nil st0).new _) 0 rfl wf_prs
          · exact fin_bad
        · exact fin_bad
      · exact fin_bad
  · exact fin_bad
theorem vp_pt {rs : List (Int × Int)} (c : okR rs) {p : Int × Int} (h : Vp rs p) : isPt rs p = true := by
  obtain ⟨v, u⟩ := p
  have h1 := h.lo
  have h2 := h.hi
  have h3 := h.ul
  simp only at h1 h2 h3
  by_cases z : v = 0
  · subst z
    have h4 := h.uz rfl
    simp only at h4
    subst h4
    simp [isPt, lenL]
  · have h4 := h.uh (by show 0 < v; omega)
    simp only at h4
    have el := lenL_val c (v := v) (by omega) h2
    unfold isPt
    simp only [el, Bool.and_eq_true, decide_eq_true_eq]
    exact ⟨⟨h1, h2⟩, h3, h4⟩
theorem step_pt {rs : List (Int × Int)} (c : okR rs) {p q : Int × Int} (hp : isPt rs p = true) (hq : isPt rs q = true) {far : Int} (h0 : 0 ≤ far) (h1 : far ≤ wayLen rs p q) : isPt rs (stepTo rs p q far) = true := by
  have cp := isPt_vp c hp
  have cq := isPt_vp c hq
  obtain ⟨A, B, e1, e2, e⟩ := way_eq c cp cq
  have m := stepTo_mem c cp cq h0 h1
  rw [e] at m
  have k : stepTo rs p q far ∈ climb rs p ∨ stepTo rs p q far ∈ climb rs q := by
    rcases List.mem_append.mp m with m | m
    · left; rw [e1]; exact List.mem_append_left _ m
    · rcases List.mem_cons.mp m with m | m
      · left; rw [m]; exact (top_mem c cp cq).1
      · right; rw [e2]; exact List.mem_append_left _ (List.mem_reverse.mp m)
  rcases k with k | k
  · exact vp_pt c (climb_suf c _ p cp (Nat.le_refl _) _ k).1
  · exact vp_pt c (climb_suf c _ q cq (Nat.le_refl _) _ k).1
section
variable {s : Sto} {rs ps : List (Int × Int)} {t u a : Nat} {q : Int × Int} {fs : List (Str × D)}
theorem c_leadN (hu : s[u]? = some (.ins "Nearest" fs)) (T : IsT s t rs) (h : rdL s a = some (ps.map prD)) (hp : allP rs ps) (hq : isPt rs q = true) (hl : 0 < ps.length ∧ ps.length < 1000) :
    F_lead [.ref t, .ref u, .ref a, prD q] s = .ok (.tup [.ref s.length, .int (nearW rs ps q)]) (s ++ [.lst ((nearC rs ps q).map prD)]) := by
  have hh : insCls s (.ref u) = some "Nearest" := by simp [insCls, hu]
  simp only [F_lead]
  rw [if_pos hh]
  exact c_lead_nearest T h hp hq hl
theorem c_leadB (hu : s[u]? = some (.ins "Both" fs)) (T : IsT s t rs) (h : rdL s a = some (ps.map prD)) (hp : allP rs ps) (hq : isPt rs q = true) (hl : ps.length < 1000) :
    F_lead [.ref t, .ref u, .ref a, prD q] s = .ok (.tup [.ref s.length, .int (bothW rs ps q)]) (s ++ [.lst ((bothC rs ps q).map prD)]) := by
  have hh : insCls s (.ref u) = some "Both" := by simp [insCls, hu]
  have h0 : insCls s (.ref u) ≠ some "Nearest" := by rw [hh]; simp
  simp only [F_lead]
  rw [if_neg h0, if_pos hh]
  exact c_lead_both T h hp hq hl
theorem bothC_len : (bothC rs ps q).length = ps.length := by simp [bothC, rI_len]
theorem bothC_at {i : Int} (h : 0 ≤ i ∧ i < ps.length) : atN (bothC rs ps q) i = bothP rs ps q i := by
  unfold atN bothC
  rw [List.getElem?_map, rI_get _ 0 _ (by omega)]
  simp
  rw [show max i 0 = i by omega]
theorem bothP_ok (cR : okR rs) (hp : allP rs ps) (hq : isPt rs q = true) {i : Int} (h : 0 ≤ i ∧ i < ps.length) : isPt rs (bothP rs ps q i) = true ∧ wayLen rs (atN ps i) (bothP rs ps q i) = goneF rs ps q i ∧ wayLen rs (bothP rs ps q i) q = awA rs ps q i - goneF rs ps q i := by
  have pi := hp _ (atN_mem h.1 h.2).1
  have g := gone_in cR hp hq h
  have d := step_dist cR (isPt_vp cR pi) (isPt_vp cR hq) g.1 g.2
  refine ⟨?_, d.1, d.2⟩
  exact step_pt cR pi hq g.1 g.2
theorem bothC_ok (cR : okR rs) (hp : allP rs ps) (hq : isPt rs q = true) : allP rs (bothC rs ps q) := fun p h => by
  obtain ⟨i, hi, rfl⟩ := List.mem_map.mp h
  have hi := mem_rI.mp hi
  exact (bothP_ok cR hp hq ⟨hi.1, by omega⟩).1
theorem nearC_ok (hp : allP rs ps) (hq : isPt rs q = true) : allP rs (nearC rs ps q) := fun p h => by
  rcases List.mem_or_eq_of_mem_set h with h | rfl
  · exact hp p h
  · exact hq
theorem nearC_len : (nearC rs ps q).length = ps.length := by unfold nearC; rw [List.length_set]
end
end Lw
set_option maxRecDepth 100000
namespace Lw
open PySem PySem.Spec PyProof.Rows L2 Dn
section
variable (rs ps : List (Int × Int)) (q : Int × Int)
/-- how far j is from the fork of its way and that of i -/
def thF (i j : Int) : Int := (awA rs ps q j + wayLen rs (atN ps i) (atN ps j) - awA rs ps q i) / 2
def owF (i j : Int) : Int := (awA rs ps q i + wayLen rs (atN ps i) (atN ps j) - awA rs ps q j) / 2
def stpB (gs : List Int) (i j : Int) : Bool := decide (j ≠ i ∧ thF rs ps q i j ≤ gs[j.toNat]?.getD 0 ∧ (thF rs ps q i j < owF rs ps q i j ∨ (thF rs ps q i j = owF rs ps q i j ∧ j < i)))
def stpF (gs : List Int) (i : Int) : Int → List Int → Int
  | st, [] => st
  | st, j :: r => stpF gs i (if stpB rs ps q gs i j = true then (if thF rs ps q i j < st then thF rs ps q i j else st) else st) r
def stpV (gs : List Int) (i : Int) : Int := stpF rs ps q gs i (leastI (awL rs ps q)) (rI 0 ps.length)
def goneL : List Int := (rI 0 ps.length).map (goneF rs ps q)
end
open Classical in
noncomputable def F_law_stop (ds : List D) (st : Sto) : Res D := match ds with
  | [.ref r, .ref c, y, .ref g, .int i] => match rdR st r, rdR st c, unP y, rdL st g with
    | some rs, some ps, some q, some xs => match intsD xs with
      | some gs => if okR rs ∧ allP rs ps ∧ isPt rs q = true ∧ 0 < ps.length ∧ ps.length < 1000 ∧ gs.length = ps.length ∧ 0 ≤ i ∧ i < ps.length then .ok (.int (stpV rs ps q gs i)) st else .bad
      | none => .bad
    | _, _, _, _ => .bad
  | _ => .bad
end Lw
set_option maxRecDepth 100000
set_option maxHeartbeats 4000000
namespace Lw
open PySem PySem.Spec PyProof.Rows L2 Dn
noncomputable def b_law_stop_1 : MS := (mSeq (mSet 8 (mCall F_law_far (mCons (mVar 0) (mCons (mOp fIdx (mVar 1) (mVar 4)) (mCons (mOp fIdx (mVar 1) (mVar 7)) mNil))))) (mSeq (mSet 9 (mOp fDiv (mOp fSub (mOp fAdd (mOp fIdx (mVar 5) (mVar 4)) (mVar 8)) (mOp fIdx (mVar 5) (mVar 7))) (mC (.int 2)))) (mSeq (mSet 10 (mOp fDiv (mOp fSub (mOp fAdd (mOp fIdx (mVar 5) (mVar 7)) (mVar 8)) (mOp fIdx (mVar 5) (mVar 4))) (mC (.int 2)))) (mIfS (mAnd (mB (mOp fNe (mVar 7) (mVar 4))) (mAnd (mB (mOp fGe (mOp fIdx (mVar 3) (mVar 7)) (mVar 10))) (mOr (mB (mOp fLt (mVar 10) (mVar 9))) (mAnd (mB (mOp fEq (mVar 10) (mVar 9))) (mB (mOp fLt (mVar 7) (mVar 4))))))) (mSet 6 (mFn fMin (mCons (mVar 6) (mCons (mVar 10) mNil)))) mNext))))
noncomputable def m_law_stop : MS := (mSeq (mSet 5 (mLc [11] (mIter (mVar 1)) (gN 11) mYes (mCall F_law_far (mCons (mVar 0) (mCons (mVar 11) (mCons (mVar 2) mNil)))))) (mSeq (mSet 6 (mFn fMin (mCons (mVar 5) mNil))) (mSeq (mFor (mRng (mCons (mFn fLen (mCons (mVar 1) mNil)) mNil)) (gN 7) b_law_stop_1) (mRet (mVar 6)))))
end Lw
set_option maxRecDepth 100000
set_option maxHeartbeats 4000000
namespace Lw
open PySem PySem.Spec PyProof.Rows L2 Dn
section
variable {rs ps : List (Int × Int)} {q : Int × Int}
theorem lc_awL {r c x0 : Nat} {s : Sto} {e : En} (hx : e.length = x0 + 1) (h0 : e[0]? = some (some (.ref r))) (h2 : e[2]? = some (some (prD q))) (hne : 2 < x0) (cR : okR rs) (hp : allP rs ps) (hq : isPt rs q = true) (hr : rdL s r = some (rs.map prD)) (hc : rdL s c = some (ps.map prD)) :
    lcS [(c, ps.map prD)] [x0] (gN x0) mYes (mCall F_law_far (mCons (mVar 0) (mCons (mVar x0) (mCons (mVar 2) mNil)))) e (ps.map prD) [] s = .ok ((awL rs ps q).map .int) s := by
  rw [lc_map (fun d => match unP d with | some p => .int (wayLen rs p q) | none => .non) (stays_one hc)]
  · simp [awL]
  · intro x hx'
    obtain ⟨p, hpp, rfl⟩ := List.mem_map.mp hx'
    have w0 : ((wipeE e [x0]).set x0 (some (prD p)))[0]? = some (some (.ref r)) := by simp [wipeE, h0, List.getElem?_set]; omega
    have w2 : ((wipeE e [x0]).set x0 (some (prD p)))[2]? = some (some (prD q)) := by simp [wipeE, h2, List.getElem?_set]; omega
    have wx : ((wipeE e [x0]).set x0 (some (prD p)))[x0]? = some (some (prD p)) := by
      rw [List.getElem?_set_self]
      rw [wipeE_len, hx]
      omega
    refine ⟨_, rfl, ?_⟩
    simp only [ev_call, ev_cons, ev_var, ev_nil, w0, w2, wx, bind_ok, c_far cR hr (hp p hpp) hq, unP_pr]
theorem stop_loop {r c g L : Nat} {gs : List Int} {i : Int} {st0 s : Sto} (cR : okR rs) (hp : allP rs ps) (hq : isPt rs q = true) (hr : rdL s r = some (rs.map prD)) (hc : rdL s c = some (ps.map prD)) (hg : rdL s g = some (gs.map .int)) (hL : rdL s L = some ((awL rs ps q).map .int)) (lg : gs.length = ps.length) (hi : 0 ≤ i ∧ i < ps.length) :
    ∀ (k : Nat) (t st : Int) (z7 z8 z9 z10 z11 : Option D), 0 ≤ t → t + k = ps.length →
    ∃ z7' z8' z9' z10', forS [] (gN 7) b_law_stop_1 (rng t k) [some (.ref r), some (.ref c), some (prD q), some (.ref g), some (.int i), some (.ref L), some (.int st), z7, z8, z9, z10, z11] s =
      .nx [some (.ref r), some (.ref c), some (prD q), some (.ref g), some (.int i), some (.ref L), some (.int (stpF rs ps q gs i st (rI t k))), z7', z8', z9', z10', z11] s := by
  intro k
  induction k with
  | zero => intro t st z7 z8 z9 z10 z11 _ _; exact ⟨z7, z8, z9, z10, by rw [rng_nil, for_nil0]; rfl⟩
  | succ k ih =>
    intro t st z7 z8 z9 z10 z11 t0 tk
    have ai := atN_mem (ps := ps) hi.1 hi.2
    have at_ := atN_mem (ps := ps) t0 (by omega)
    have f := c_far cR hr (hp _ ai.1) (hp _ at_.1)
    have wi := awL_at (rs := rs) (q := q) (ps := ps) hi.1 hi.2
    have wt := awL_at (rs := rs) (q := q) (ps := ps) t0 (by omega)
    have hk : t.toNat < gs.length := by omega
    have gt : atI (gs.map D.int) t = some (.int (gs[t.toNat]?.getD 0)) := atI_nat' t0 (by simp [hk])
    obtain ⟨y7, y8, y9, y10, e⟩ := ih (t + 1) (if stpB rs ps q gs i t = true then (if thF rs ps q i t < st then thF rs ps q i t else st) else st) (some (.int t)) (some (.int (wayLen rs (atN ps i) (atN ps t)))) (some (.int (owF rs ps q i t))) (some (.int (thF rs ps q i t))) z11 (by omega) (by omega)
    refine ⟨y7, y8, y9, y10, ?_⟩
    rw [rng_cons, for_cons0]
    simp only [ev_gN, List.set_cons_succ, List.set_cons_zero]
    obtain ⟨A, hA⟩ : ∃ A, awA rs ps q i = A := ⟨_, rfl⟩
    obtain ⟨B, hB⟩ : ∃ B, awA rs ps q t = B := ⟨_, rfl⟩
    obtain ⟨W, hW⟩ : ∃ W, wayLen rs (atN ps i) (atN ps t) = W := ⟨_, rfl⟩
    obtain ⟨G, hG⟩ : ∃ G, gs[t.toNat]?.getD 0 = G := ⟨_, rfl⟩
    have eT : (B + W - A) / 2 = thF rs ps q i t := by unfold thF; rw [hA, hB, hW]
    have eO : (A + W - B) / 2 = owF rs ps q i t := by unfold owF; rw [hA, hB, hW]
    obtain ⟨T, hT⟩ : ∃ T, thF rs ps q i t = T := ⟨_, rfl⟩
    obtain ⟨O, hO⟩ : ∃ O, owF rs ps q i t = O := ⟨_, rfl⟩
    have eb : stpB rs ps q gs i t = decide (t ≠ i ∧ T ≤ G ∧ (T < O ∨ (T = O ∧ t < i))) := by unfold stpB; rw [hG, hT, hO]
    rw [hT] at eT
    rw [hO] at eO
    rw [hW] at f
    rw [hA] at wi
    rw [hB] at wt
    rw [hG] at gt
    have step : b_law_stop_1 [some (.ref r), some (.ref c), some (prD q), some (.ref g), some (.int i), some (.ref L), some (.int st), some (.int t), z8, z9, z10, z11] s = .nx [some (.ref r), some (.ref c), some (prD q), some (.ref g), some (.int i), some (.ref L), some (.int (if stpB rs ps q gs i t = true then (if T < st then T else st) else st)), some (.int t), some (.int W), some (.int O), some (.int T), z11] s := by
      rw [eb]
      by_cases c1 : t = i
      · subst c1
        have hAB : A = B := hA.symm.trans hB
        subst hAB
        simp -implicitDefEqProofs [b_law_stop_1, hc, hL, hg, ai.2, f, wi, wt, gt, eT, eO, fNe]
        exact eT.symm.trans eO
      · by_cases c2 : T ≤ G
        · by_cases c3 : T < O
          · simp -implicitDefEqProofs [b_law_stop_1, hc, hL, hg, ai.2, at_.2, f, wi, wt, gt, eT, eO, fNe, c1, c2, c3]
          · by_cases c4 : T = O
            · subst c4
              by_cases c5 : t < i
              · simp -implicitDefEqProofs [b_law_stop_1, hc, hL, hg, ai.2, at_.2, f, wi, wt, gt, eT, eO, fNe, fEq, c1, c2, c5]
              · simp -implicitDefEqProofs [b_law_stop_1, hc, hL, hg, ai.2, at_.2, f, wi, wt, gt, eT, eO, fNe, fEq, c1, c2, c5]
            · simp -implicitDefEqProofs [b_law_stop_1, hc, hL, hg, ai.2, at_.2, f, wi, wt, gt, eT, eO, fNe, fEq, c1, c2, c3, c4]
        · simp -implicitDefEqProofs [b_law_stop_1, hc, hL, hg, ai.2, at_.2, f, wi, wt, gt, eT, eO, fNe, c1, c2]
    rw [hW, hT, hO] at e
    rw [step, loopS_nx, e]
    simp only [rI, stpF, hT]
end
theorem hm_law_stop : ∀ ds st0, ds.length = 5 → wfS st0 → wfD.wfDs st0.length ds → Fin st0.length (retR (m_law_stop (startE 12 ds) st0)) (F_law_stop ds st0) := by
  intro ds st0 hl hw hd
  unfold F_law_stop
  split
  · split
    · split
      · split
        · rename_i r c y g i _ _ _ _ rs ps q xs hr hc hy hg _ gs hj cond
          have hr := rdR_some hr
          have hc := rdR_some hc
          have hy := unP_some hy
          subst hy
          have hx := intsD_map hj
          subst hx
          obtain ⟨c1, c2, c3, c4, c5, c6, c7, c8⟩ := cond
          have lc := lc_awL (x0 := 11) (e := [some (.ref r), some (.ref c), some (prD q), some (.ref g), some (.int i), none, none, none, none, none, none, none]) rfl rfl rfl (by omega) c1 c2 c3 hr hc
          obtain ⟨s1, L, e1, e1', H⟩ := g_new (HS.nil st0) (.lst ((awL rs ps q).map .int))
          have rL := H.rd 0 rfl
          have ne : awL rs ps q ≠ [] := by intro z; have := congrArg List.length z; simp [awL] at this; rw [this] at c4; simp at c4
          obtain ⟨z7, z8, z9, z10, e2⟩ := stop_loop (g := g) (L := L) (st0 := st0) c1 c2 c3 (H.old hr) (H.old hc) (H.old hg) rL c6 ⟨c7, c8⟩ ps.length 0 (leastI (awL rs ps q)) none none none none none (by omega) (by omega)
          have ll : ps.length ≤ 100000 := by omega
          have hc1 := H.old hc
          have bb : -4611686018427387904 ≤ (ps.length : Int) ∧ (ps.length : Int) < 4611686018427387904 := by omega
          have e : retR (m_law_stop (startE 12 [.ref r, .ref c, prD q, .ref g, .int i]) st0) = .ok (.int (stpV rs ps q gs i)) s1 := by
            simp -implicitDefEqProofs [m_law_stop, startE, hc, ll, lc, e1, e1', rL, ne, hc1, bb, e2, stpV]
          rw [e]
          exact fin_ext hw H.ext trivial
        · exact fin_bad
      · exact fin_bad
    · exact fin_bad
  · exact fin_bad
section
variable {rs ps : List (Int × Int)} {q : Int × Int}
theorem stpF_prop (gs : List Int) (i : Int) : ∀ (js : List Int) (st : Int), stpF rs ps q gs i st js ≤ st ∧ (∀ j ∈ js, stpB rs ps q gs i j = true → stpF rs ps q gs i st js ≤ thF rs ps q i j) ∧ (stpF rs ps q gs i st js = st ∨ ∃ j ∈ js, stpB rs ps q gs i j = true ∧ stpF rs ps q gs i st js = thF rs ps q i j)
  | [], st => ⟨Int.le_refl _, (fun _ h => (List.not_mem_nil h).elim), Or.inl rfl⟩
  | j :: r, st => by
    unfold stpF
    obtain ⟨h1, h2, h3⟩ := stpF_prop gs i r (if stpB rs ps q gs i j = true then (if thF rs ps q i j < st then thF rs ps q i j else st) else st)
    by_cases c : stpB rs ps q gs i j = true
    · rw [if_pos c] at h1 h2 h3 ⊢
      by_cases d : thF rs ps q i j < st
      · rw [if_pos d] at h1 h2 h3 ⊢
        refine ⟨by omega, fun k hk b => ?_, ?_⟩
        · rcases List.mem_cons.mp hk with rfl | hk
          · exact h1
          · exact h2 k hk b
        · rcases h3 with h3 | ⟨k, hk, b, e⟩
          · exact .inr ⟨j, by simp, c, h3⟩
          · exact .inr ⟨k, by simp [hk], b, e⟩
      · rw [if_neg d] at h1 h2 h3 ⊢
        refine ⟨h1, fun k hk b => ?_, ?_⟩
        · rcases List.mem_cons.mp hk with rfl | hk
          · omega
          · exact h2 k hk b
        · rcases h3 with h3 | ⟨k, hk, b, e⟩
          · exact .inl h3
          · exact .inr ⟨k, by simp [hk], b, e⟩
    · rw [if_neg c] at h1 h2 h3 ⊢
      refine ⟨h1, fun k hk b => ?_, ?_⟩
      · rcases List.mem_cons.mp hk with rfl | hk
        · exact absurd b c
        · exact h2 k hk b
      · rcases h3 with h3 | ⟨k, hk, b, e⟩
        · exact .inl h3
        · exact .inr ⟨k, by simp [hk], b, e⟩
theorem less_iff {i j : Int} : lessF rs ps q i j = true ↔ awA rs ps q j < awA rs ps q i ∨ (awA rs ps q j = awA rs ps q i ∧ j < i) := by
  unfold lessF
  rw [decide_eq_true_eq]
theorem th_row {i j : Int} : (wayLen rs (atN ps i) (atN ps j) + awA rs ps q j - awA rs ps q i) / 2 = thF rs ps q i j := by
  unfold thF
  rw [Int.add_comm (wayLen rs (atN ps i) (atN ps j))]
theorem gone_le {i j : Int} (hj : 0 ≤ j ∧ j < ps.length) (h : lessF rs ps q i j = true) : goneF rs ps q i ≤ thF rs ps q i j := by
  have m : thF rs ps q i j ∈ rowF rs ps q i := by
    rw [← th_row]
    exact List.mem_map.mpr ⟨j, List.mem_filter.mpr ⟨mem_rI.mpr ⟨hj.1, by omega⟩, h⟩, rfl⟩
  unfold goneF
  cases e : rowF rs ps q i with
  | nil => rw [e] at m; cases m
  | cons n r =>
    rw [e] at m
    simp only
    have := foldl_min_le r n
    rcases List.mem_cons.mp m with k | k
    · rw [k]; exact this.1
    · exact this.2 _ k
theorem gone_is {i : Int} : ((∀ j : Int, 0 ≤ j → j < ps.length → lessF rs ps q i j = false) ∧ goneF rs ps q i = awA rs ps q i) ∨ ∃ j : Int, (0 ≤ j ∧ j < ps.length) ∧ lessF rs ps q i j = true ∧ goneF rs ps q i = thF rs ps q i j := by
  cases e : rowF rs ps q i with
  | nil =>
    left
    refine ⟨fun j h0 h1 => ?_, by unfold goneF; rw [e]⟩
    rw [Bool.eq_false_iff]
    intro h
    have m : thF rs ps q i j ∈ rowF rs ps q i := by
      rw [← th_row]
      exact List.mem_map.mpr ⟨j, List.mem_filter.mpr ⟨mem_rI.mpr ⟨h0, by omega⟩, h⟩, rfl⟩
    rw [e] at m
    cases m
  | cons n r =>
    right
    have g : goneF rs ps q i ∈ rowF rs ps q i := by
      unfold goneF
      rw [e]
      simp only
      rcases foldl_min_mem r n with k | k
      · rw [k]; simp
      · simp [k]
    obtain ⟨j, hj, e2⟩ := List.mem_map.mp g
    obtain ⟨h1, h2⟩ := List.mem_filter.mp hj
    have h1 := mem_rI.mp h1
    exact ⟨j, ⟨h1.1, by omega⟩, h2, by rw [← e2, th_row]⟩
/-- of those whose comings are least, one comes so far itself -/
theorem comer (cR : okR rs) (ha : allP rs ps) (hq : isPt rs q = true) {i : Int} (hi : 0 ≤ i ∧ i < ps.length) : ∀ (m : Nat) (j : Int), (awA rs ps q j * ps.length + j).toNat < m → (0 ≤ j ∧ j < ps.length) → lessF rs ps q i j = true → thF rs ps q i j = goneF rs ps q i →
    ∃ j : Int, (0 ≤ j ∧ j < ps.length) ∧ lessF rs ps q i j = true ∧ thF rs ps q i j = goneF rs ps q i ∧ thF rs ps q i j ≤ goneF rs ps q j := by
  intro m
  induction m with
  | zero => intro j h; omega
  | succ m ih =>
    intro j hm hj hl he
    by_cases c : thF rs ps q i j ≤ goneF rs ps q j
    · exact ⟨j, hj, hl, he, c⟩
    · have li := less_iff.mp hl
      have cij := coming_in cR ha hq hi hj (by omega)
      rw [th_row] at cij
      rcases gone_is (rs := rs) (ps := ps) (q := q) (i := j) with ⟨_, e⟩ | ⟨k, hk, lk, ek⟩
      · omega
      · have lk' := less_iff.mp lk
        have cjk := coming_in cR ha hq hj hk (by omega)
        have cik := coming_in cR ha hq hi hk (by omega)
        rw [th_row] at cjk cik
        have pi := ha _ (atN_mem hi.1 hi.2).1
        have pj := ha _ (atN_mem hj.1 hj.2).1
        have pk := ha _ (atN_mem hk.1 hk.2).1
        have f := four cR (isPt_vp cR pi) (isPt_vp cR pj) (isPt_vp cR pk) (isPt_vp cR hq) _ _ _ rfl rfl rfl
        have lik : lessF rs ps q i k = true := less_iff.mpr (by omega)
        have ge := gone_le hk lik
        have e1 : wayLen rs (atN ps i) q = awA rs ps q i := rfl
        have e2 : wayLen rs (atN ps j) q = awA rs ps q j := rfl
        have e3 : wayLen rs (atN ps k) q = awA rs ps q k := rfl
        rw [e1, e2, e3] at f
        have eq : thF rs ps q i k = goneF rs ps q i := by omega
        have gk := gone_in cR ha hq hk
        have gj := gone_in cR ha hq hj
        refine ih k ?_ hk lik eq
        have dec : awA rs ps q k * ps.length + k < awA rs ps q j * ps.length + j := by
          rcases lk' with h | ⟨h, h2⟩
          · have : (awA rs ps q k + 1) * ps.length ≤ awA rs ps q j * ps.length := Int.mul_le_mul_of_nonneg_right (by omega) (by omega)
            rw [Int.add_mul] at this
            omega
          · rw [h]
            omega
        have nn : 0 ≤ awA rs ps q k * ps.length := Int.mul_nonneg (by omega) (by omega)
        omega
theorem stop_gone (cR : okR rs) (ha : allP rs ps) (hq : isPt rs q = true) {i : Int} (hi : 0 ≤ i ∧ i < ps.length) : stpV rs ps q (goneL rs ps q) i = goneF rs ps q i := by
  have ne : awL rs ps q ≠ [] := by intro z; have := congrArg List.length z; simp [awL] at this; rw [this] at hi; simp at hi; omega
  have gl : ∀ j : Int, 0 ≤ j ∧ j < ps.length → (goneL rs ps q)[j.toNat]?.getD 0 = goneF rs ps q j := fun j hj => by
    unfold goneL
    rw [List.getElem?_map, rI_get _ 0 _ (by omega)]
    simp
    rw [show max j 0 = j by omega]
  have ow : ∀ j : Int, 0 ≤ j ∧ j < ps.length → owF rs ps q i j - thF rs ps q i j = awA rs ps q i - awA rs ps q j := fun j hj => by
    have pi := ha _ (atN_mem hi.1 hi.2).1
    have pj := ha _ (atN_mem hj.1 hj.2).1
    obtain ⟨half, M, e, _⟩ := middle cR (isPt_vp cR pi) (isPt_vp cR pj) (isPt_vp cR hq)
    have sy := way_sym cR pi hq
    rw [sy] at e
    unfold owF thF
    have e1 : wayLen rs (atN ps i) q = awA rs ps q i := rfl
    have e2 : wayLen rs (atN ps j) q = awA rs ps q j := rfl
    rw [e1, e2] at e
    omega
  have sb : ∀ j : Int, 0 ≤ j ∧ j < ps.length → (stpB rs ps q (goneL rs ps q) i j = true ↔ lessF rs ps q i j = true ∧ thF rs ps q i j ≤ goneF rs ps q j) := fun j hj => by
    have o := ow j hj
    unfold stpB
    rw [decide_eq_true_eq, less_iff, gl j hj]
    constructor
    · rintro ⟨h1, h2, h3⟩
      exact ⟨by omega, h2⟩
    · rintro ⟨h1, h2⟩
      refine ⟨?_, h2, by omega⟩
      rintro rfl
      omega
  obtain ⟨p1, p2, p3⟩ := stpF_prop (rs := rs) (ps := ps) (q := q) (goneL rs ps q) i (rI 0 ps.length) (leastI (awL rs ps q))
  have le_all : ∀ j : Int, 0 ≤ j ∧ j < ps.length → leastI (awL rs ps q) ≤ awA rs ps q j := fun j hj => by
    refine leastI_le (List.mem_map.mpr ⟨atN ps j, (atN_mem hj.1 hj.2).1, rfl⟩)
  obtain ⟨m, hm, em⟩ : ∃ m : Int, (0 ≤ m ∧ m < ps.length) ∧ awA rs ps q m = leastI (awL rs ps q) := by
    obtain ⟨nl, na⟩ := near_lt (rs := rs) (ps := ps) (q := q) (by omega)
    exact ⟨_, ⟨by omega, by omega⟩, na⟩
  have gi := gone_in cR ha hq hi
  have li := le_all i hi
  show stpF rs ps q (goneL rs ps q) i (leastI (awL rs ps q)) (rI 0 ps.length) = _
  refine Int.le_antisymm ?_ ?_
  · rcases gone_is (rs := rs) (ps := ps) (q := q) (i := i) with ⟨h, e⟩ | ⟨j, hj, lj, ej⟩
    · have hm' := h m hm.1 hm.2
      have : ¬ awA rs ps q m < awA rs ps q i := fun z => by
        rw [less_iff.mpr (.inl z)] at hm'
        cases hm'
      omega
    · obtain ⟨j, hj, lj, ej, ge⟩ := comer cR ha hq hi _ j (Nat.lt_succ_self _) hj lj ej.symm
      have := p2 j (mem_rI.mpr ⟨hj.1, by omega⟩) ((sb j hj).mpr ⟨lj, ge⟩)
      omega
  · rcases p3 with e | ⟨j, hj, b, e⟩
    · rw [e, ← em]
      by_cases c : lessF rs ps q i m = true
      · have := gone_le hm c
        have := coming_in cR ha hq hi hm (by have := less_iff.mp c; omega)
        rw [th_row] at this
        omega
      · have : ¬ awA rs ps q m < awA rs ps q i := fun z => c (less_iff.mpr (.inl z))
        omega
    · have hj := mem_rI.mp hj
      have hj : 0 ≤ j ∧ j < ps.length := ⟨hj.1, by omega⟩
      rw [e]
      exact gone_le hj ((sb j hj).mp b).1
end
theorem c_stop {s : Sto} {r c g : Nat} {rs ps : List (Int × Int)} {q : Int × Int} {i : Int} (c1 : okR rs) (hr : rdL s r = some (rs.map prD)) (hc : rdL s c = some (ps.map prD)) (hg : rdL s g = some ((goneL rs ps q).map .int)) (hp : allP rs ps) (hq : isPt rs q = true) (hl : 0 < ps.length ∧ ps.length < 1000) (hi : 0 ≤ i ∧ i < ps.length) :
    F_law_stop [.ref r, .ref c, prD q, .ref g, .int i] s = .ok (.int (goneF rs ps q i)) s := by
  simp only [F_law_stop, rdR_of hr, rdR_of hc, unP_pr, hg, intsD_ints]
  rw [if_pos ⟨c1, hp, hq, hl.1, hl.2, by simp [goneL, rI_len], hi.1, hi.2⟩, stop_gone c1 hp hq hi]
theorem lc_goneL {rs ps : List (Int × Int)} {q : Int × Int} {s : Sto} {r c l : Nat} {w : Int} {x4 x5 : Option D} (c1 : okR rs) (hp : allP rs ps) (hq : isPt rs q = true) (hr : rdL s r = some (rs.map prD)) (hc : rdL s c = some (ps.map prD)) (hz : rdL s l = some ((bothC rs ps q).map prD)) :
    lcS [] [5] (gN 5) mYes (mCall F_law_far (mCons (mVar 0) (mCons (mOp fIdx (mVar 1) (mVar 5)) (mCons (mOp fIdx (mOp fIdx (mVar 3) (mC (.int 0))) (mVar 5)) mNil)))) [some (.ref r), some (.ref c), some (prD q), some (.tup [.ref l, .int w]), x4, x5] (rng 0 ps.length) [] s = .ok ((goneL rs ps q).map .int) s := by
  rw [lc_map (fun d => match d with | .int i => .int (goneF rs ps q i) | _ => .non) stays_nil]
  · rw [rng_rI]
    simp [goneL]
  · intro x hx
    obtain ⟨i, rfl, i0, i1⟩ := mem_rng hx
    have am := atN_mem (ps := ps) i0 (by omega)
    have bm := atN_mem (ps := bothC rs ps q) i0 (by rw [bothC_len]; omega)
    have bp := bothP_ok c1 hp hq (i := i) ⟨i0, by omega⟩
    rw [bothC_at ⟨i0, by omega⟩] at bm
    have f := c_far c1 hr (hp _ am.1) bp.1
    rw [bp.2.1] at f
    refine ⟨_, rfl, ?_⟩
    simp [wipeE, hc, hz, am.2, bm.2, f]
end Lw
set_option maxRecDepth 100000
/-! run -/
namespace Lw
open PySem PySem.Spec PyProof.Rows L2 Dn
def nameR (nr : Bool) : Str := if nr = true then "Nearest" else "Both"
def leadC (nr : Bool) (rs ps : List (Int × Int)) (q : Int × Int) : List (Int × Int) := if nr = true then nearC rs ps q else bothC rs ps q
def leadW (nr : Bool) (rs ps : List (Int × Int)) (q : Int × Int) : Int := if nr = true then nearW rs ps q else bothW rs ps q
def runC (nr : Bool) (rs : List (Int × Int)) : List (Int × Int) → List (Int × Int) → List (Int × Int)
  | ps, [] => ps
  | ps, q :: r => runC nr rs (leadC nr rs ps q) r
def runW (nr : Bool) (rs : List (Int × Int)) : Int → List (Int × Int) → List (Int × Int) → Int
  | w, _, [] => w
  | w, ps, q :: r => runW nr rs (w + leadW nr rs ps q) (leadC nr rs ps q) r
def ruleOf (s : Sto) (r : Nat) : Option Bool := if insCls s (.ref r) = some "Nearest" then some true else if insCls s (.ref r) = some "Both" then some false else none
open Classical in
noncomputable def F_run (ds : List D) (st : Sto) : Res D := match ds with
  | [t, .ref r, .ref c, .ref k] => match rdT st t, ruleOf st r, rdR st c, rdR st k with
    | some rs, some nr, some ps, some qs => if allP rs ps ∧ allP rs qs ∧ 0 < ps.length ∧ ps.length < 1000 ∧ qs.length < 1000 then .ok (.tup [.ref st.length, .int (runW nr rs 0 ps qs)]) (st ++ [.lst ((runC nr rs ps qs).map prD)]) else .bad
    | _, _, _, _ => .bad
  | _ => .bad
open Classical in
noncomputable def F_law_is_pair (ds : List D) (st : Sto) : Res D := match ds with
  | [.ref r, .tup [.ref a, .int _], .int n] => match rdR st r, rdR st a with
    | some rs, some ps => if okR rs ∧ allP rs ps ∧ ps.length = n ∧ n < 1000 then .ok (.bl true) st else .bad
    | _, _ => .bad
  | _ => .bad
end Lw
set_option maxRecDepth 100000
set_option maxHeartbeats 4000000
namespace Lw
open PySem PySem.Spec PyProof.Rows L2 Dn
noncomputable def b_run_1 : MS := (mSeq (mAsg (mCall F_lead (mCons (mVar 0) (mCons (mVar 1) (mCons (mVar 4) (mCons (mVar 6) mNil))))) (gT 2 (gConsM (gN 4) (gConsM (gN 7) gNilM)))) (mSet 5 (mOp fAdd (mVar 5) (mVar 7))))
noncomputable def m_run : MS := (mSeq (mSet 4 (mFn fList (mCons (mVar 2) mNil))) (mSeq (mSet 5 (mC (.int 0))) (mSeq (mFor (mIter (mVar 3)) (gN 6) b_run_1) (mRet (mTup (mCons (mVar 4) (mCons (mVar 5) mNil)))))))
noncomputable def m_law_is_pair : MS := (mSeq (mIfS (mOr (mNot (mB (mIsiO ["Tree"] "tuple" (mVar 1)))) (mB (mOp fNe (mFn fLen (mCons (mVar 1) mNil)) (mC (.int 2))))) (mRet (mC (.bl false))) mNext) (mRet (mAndV (mCall F_law_are_points (mCons (mVar 0) (mCons (mOp fIdx (mVar 1) (mC (.int 0))) (mCons (mVar 2) mNil)))) (mCall F_law_is_integer (mCons (mOp fIdx (mVar 1) (mC (.int 1))) mNil)))))
end Lw
set_option maxRecDepth 100000
set_option maxHeartbeats 4000000
namespace Lw
open PySem PySem.Spec PyProof.Rows L2 Dn
section
variable {s : Sto} {rs ps qs : List (Int × Int)} {t u a k : Nat} {q : Int × Int} {fs : List (Str × D)} {nr : Bool}
theorem c_leadR (hu : s[u]? = some (.ins (nameR nr) fs)) (T : IsT s t rs) (h : rdL s a = some (ps.map prD)) (hp : allP rs ps) (hq : isPt rs q = true) (hl : 0 < ps.length ∧ ps.length < 1000) :
    F_lead [.ref t, .ref u, .ref a, prD q] s = .ok (.tup [.ref s.length, .int (leadW nr rs ps q)]) (s ++ [.lst ((leadC nr rs ps q).map prD)]) := by
  cases nr with
  | true => exact c_leadN hu T h hp hq hl
  | false => exact c_leadB hu T h hp hq hl.2
theorem leadC_ok (cR : okR rs) (hp : allP rs ps) (hq : isPt rs q = true) : allP rs (leadC nr rs ps q) := by
  cases nr with
  | true => exact nearC_ok hp hq
  | false => exact bothC_ok cR hp hq
theorem leadC_len : (leadC nr rs ps q).length = ps.length := by
  cases nr with
  | true => exact nearC_len
  | false => exact bothC_len
theorem runC_ok (cR : okR rs) : ∀ {qs ps : List (Int × Int)}, allP rs ps → allP rs qs → allP rs (runC nr rs ps qs)
  | [], ps, hp, _ => hp
  | q :: r, ps, hp, hq => by
    show allP rs (runC nr rs (leadC nr rs ps q) r)
    exact runC_ok cR (leadC_ok cR hp (hq q (by simp))) (fun x hx => hq x (by simp [hx]))
theorem runC_len : ∀ {qs ps : List (Int × Int)}, (runC nr rs ps qs).length = ps.length
  | [], ps => rfl
  | q :: r, ps => by rw [runC, runC_len, leadC_len]
theorem runC_app : ∀ {qs qs2 ps : List (Int × Int)}, runC nr rs ps (qs ++ qs2) = runC nr rs (runC nr rs ps qs) qs2
  | [], _, _ => rfl
  | q :: r, qs2, ps => by rw [List.cons_append, runC, runC, runC_app]
theorem runW_add : ∀ {qs ps : List (Int × Int)} {w : Int}, runW nr rs w ps qs = w + runW nr rs 0 ps qs
  | [], _, w => by simp [runW]
  | q :: r, ps, w => by
    rw [runW, runW, runW_add, runW_add (w := 0 + _)]
    omega
theorem runW_app : ∀ {qs qs2 ps : List (Int × Int)} {w : Int}, runW nr rs w ps (qs ++ qs2) = runW nr rs (runW nr rs w ps qs) (runC nr rs ps qs) qs2
  | [], _, _, _ => rfl
  | q :: r, qs2, ps, w => by rw [List.cons_append, runW, runW_app, runW, runC]
theorem ins_of (h : ruleOf s u = some nr) : ∃ fs, s[u]? = some (.ins (nameR nr) fs) := by
  have key : ∀ {c : Str}, insCls s (.ref u) = some c → ∃ fs, s[u]? = some (.ins c fs) := fun {c} h => by
    unfold insCls at h
    simp only at h
    split at h
    · rename_i c' fs e
      cases h
      exact ⟨fs, e⟩
    · cases h
  unfold ruleOf at h
  split at h
  · rename_i e
    cases h
    exact key e
  · split at h
    · rename_i e
      cases h
      exact key e
    · cases h
theorem rule_of (h : s[u]? = some (.ins (nameR nr) fs)) : ruleOf s u = some nr := by
  have e : insCls s (.ref u) = some (nameR nr) := by simp [insCls, h]
  unfold ruleOf
  rw [e]
  cases nr <;> simp [nameR]
theorem run_loop {st0 : Sto} {c : Nat} (T : IsT st0 t rs) (cR : okR rs) (hu : st0[u]? = some (.ins (nameR nr) fs)) (hk : rdL st0 k = some (qs.map prD)) : ∀ (zs ps : List (Int × Int)) (w : Int) (l : Nat) (z6 z7 : Option D) (s : Sto), allP rs ps → allP rs zs → (0 < ps.length ∧ ps.length < 1000) → HS st0 s [(l, .lst (ps.map prD))] →
    ∃ l' z6' z7' s', forS [(k, qs.map prD)] (gN 6) b_run_1 (zs.map prD) [some (.ref t), some (.ref u), some (.ref c), some (.ref k), some (.ref l), some (.int w), z6, z7] s = .nx [some (.ref t), some (.ref u), some (.ref c), some (.ref k), some (.ref l'), some (.int (runW nr rs w ps zs)), z6', z7'] s' ∧ HS st0 s' [(l', .lst ((runC nr rs ps zs).map prD))] := by
  intro zs
  induction zs with
  | nil =>
    intro ps w l z6 z7 s _ _ _ H
    exact ⟨l, z6, z7, s, for_nil (H.ext.stays (stays_one hk)), H⟩
  | cons z zs ih =>
    intro ps w l z6 z7 s hp hz hl H
    have f := c_leadR (H.ext _ _ hu) (IsT.ext T H.ext) (H.rd 0 rfl) hp (hz z (by simp)) hl
    obtain ⟨s1, l1, e1, e1', H1⟩ := g_new H.tail (.lst ((leadC nr rs ps z).map prD))
    rw [e1, e1'] at f
    obtain ⟨l', y6, y7, s', e, H'⟩ := ih (leadC nr rs ps z) (w + leadW nr rs ps z) l1 (some (prD z)) (some (.int (leadW nr rs ps z))) s1 (leadC_ok cR hp (hz z (by simp))) (fun x hx => hz x (by simp [hx])) (by rw [leadC_len]; exact hl) H1
    refine ⟨l', y6, y7, s', ?_, H'⟩
    rw [List.map_cons, for_cons (H.ext.stays (stays_one hk))]
    simp only [ev_gN, List.set_cons_succ, List.set_cons_zero]
    have step : b_run_1 [some (.ref t), some (.ref u), some (.ref c), some (.ref k), some (.ref l), some (.int w), some (prD z), z7] s = .nx [some (.ref t), some (.ref u), some (.ref c), some (.ref k), some (.ref l1), some (.int (w + leadW nr rs ps z)), some (prD z), some (.int (leadW nr rs ps z))] s1 := by
      simp -implicitDefEqProofs [b_run_1, f]
    rw [step, loopS_nx, e]
    rfl
end
theorem hm_run : ∀ ds st0, ds.length = 4 → wfS st0 → wfD.wfDs st0.length ds → Fin st0.length (retR (m_run (startE 8 ds) st0)) (F_run ds st0) := by
  intro ds st0 hl hw hd
  unfold F_run
  split
  · split
    · split
      · rename_i t r c k _ _ _ _ rs nr ps qs ht hr hc hk cond
        obtain ⟨n, rfl, T⟩ := rdT_some ht
        have hc := rdR_some hc
        have hk := rdR_some hk
        obtain ⟨fs, hu⟩ := ins_of hr
        obtain ⟨c1, c2, c3, c4, c5⟩ := cond
        obtain ⟨s1, l, e1, e1', H⟩ := g_new (HS.nil st0) (.lst (ps.map prD))
        obtain ⟨l', z6, z7, s', e, H'⟩ := run_loop (c := c) T T.ok hu hk qs ps 0 l none none s1 c1 c2 ⟨c3, c4⟩ H
        have hk1 := H.old hk
        have e : retR (m_run (startE 8 [.ref n, .ref r, .ref c, .ref k]) st0) = .ok (.tup [.ref l', .int (runW nr rs 0 ps qs)]) s' := by
          simp -implicitDefEqProofs [m_run, startE, hc, e1, e1', hk1, e]
        rw [e]
        exact fin_tupI hw H' 0 rfl wf_prs
      · exact fin_bad
    · exact fin_bad
  · exact fin_bad
theorem hm_law_is_pair : ∀ ds st0, ds.length = 3 → wfS st0 → wfD.wfDs st0.length ds → Fin st0.length (retR (m_law_is_pair (startE 3 ds) st0)) (F_law_is_pair ds st0) := by
  intro ds st0 hl hw hd
  unfold F_law_is_pair
  split
  · split
    · split
      · rename_i r a w n _ _ rs ps hr ha cond
        have hr := rdR_some hr
        have ha := rdR_some ha
        obtain ⟨c1, c2, rfl, c4⟩ := cond
        have f := c_are_points c1 hr ha c2 (by omega)
        have e : retR (m_law_is_pair (startE 3 [.ref r, .tup [.ref a, .int w], .int ps.length]) st0) = .ok (.bl true) st0 := by
          simp -implicitDefEqProofs [m_law_is_pair, startE, isiA, tyD, f, c_isint]
        rw [e]
        exact fin_same (by simp) (wfS_N hw) trivial
      · exact fin_bad
    · exact fin_bad
  · exact fin_bad
section
variable {s : Sto} {rs ps qs : List (Int × Int)} {t u a k r : Nat} {fs : List (Str × D)} {nr : Bool}
theorem c_run (hu : s[u]? = some (.ins (nameR nr) fs)) (T : IsT s t rs) (h : rdL s a = some (ps.map prD)) (hk : rdL s k = some (qs.map prD)) (hp : allP rs ps) (hq : allP rs qs) (hl : 0 < ps.length ∧ ps.length < 1000) (hl2 : qs.length < 1000) :
    F_run [.ref t, .ref u, .ref a, .ref k] s = .ok (.tup [.ref s.length, .int (runW nr rs 0 ps qs)]) (s ++ [.lst ((runC nr rs ps qs).map prD)]) := by
  simp only [F_run, rdT_of T, rule_of hu, rdR_of h, rdR_of hk]
  rw [if_pos ⟨hp, hq, hl.1, hl.2, hl2⟩]
theorem c_is_pair {w : Int} (c : okR rs) (h1 : rdL s r = some (rs.map prD)) (h2 : rdL s a = some (ps.map prD)) (hp : allP rs ps) (hl : ps.length < 1000) : F_law_is_pair [.ref r, .tup [.ref a, .int w], .int ps.length] s = .ok (.bl true) s := by
  simp only [F_law_is_pair, rdR_of h1, rdR_of h2]
  rw [if_pos ⟨c, hp, rfl, by omega⟩]
end
end Lw
/-! who came -/
set_option maxRecDepth 100000
set_option maxHeartbeats 4000000
namespace Lw
open PySem PySem.Spec PyProof.Rows L2 Dn
open Classical in
noncomputable def F_who_came (ds : List D) (st : Sto) : Res D := match ds with
  | [.ref r, x] => match rdR st r, unP x with
    | some ps, some c => if ps.length < 1000 ∧ c ∈ ps then .ok (.int (ps.findIdx (· == c))) st else .bad
    | _, _ => .bad
  | _ => .bad
end Lw
set_option maxRecDepth 100000
set_option maxHeartbeats 4000000
namespace Lw
open PySem PySem.Spec PyProof.Rows L2 Dn
noncomputable def m_who_came : MS := (mRet (mMeth fIndex (mVar 0) (mCons (mVar 1) mNil)))
end Lw
set_option maxRecDepth 100000
set_option maxHeartbeats 4000000
namespace Lw
open PySem PySem.Spec PyProof.Rows L2 Dn
theorem cnt_prs {s : Sto} {n : Nat} {xs : List (Int × Int)} {v : Int × Int} (h : rdL s n = some (xs.map prD)) (hl : xs.length < 99000) : fCount (.ref n) [prD v] s = some (.int (xs.count v), s) := by
  have e : toPys s 100001 (xs.map prD) = some (xs.map prP) := toPys_prs (k := 99995) (by omega)
  have ev : toPy s 100002 (prD v) = some (prP v) := toPy_pr (k := 99997)
  have el : toPy s 100002 (.ref n) = some (.list (xs.map prP)) := by simp only [toPy, h, e, Option.map_some]
  simp only [fCount, ev, el, shaped_prs, shaped_pr, and_self, if_true]
  rw [List.countP_map]
  have : ((fun z => PyData.eqv z (prP v)) ∘ prP) = fun z => z == v := by
    funext z
    exact eqv_pr
  rw [this]
  rfl
theorem idx_prs {s : Sto} {n : Nat} {xs : List (Int × Int)} {v : Int × Int} (h : rdL s n = some (xs.map prD)) (hl : xs.length < 99000) (hv : v ∈ xs) : fIndex (.ref n) [prD v] s = some (.int (xs.findIdx (· == v)), s) := by
  have e : toPys s 100001 (xs.map prD) = some (xs.map prP) := toPys_prs (k := 99995) (by omega)
  have ev : toPy s 100002 (prD v) = some (prP v) := toPy_pr (k := 99997)
  have el : toPy s 100002 (.ref n) = some (.list (xs.map prP)) := by simp only [toPy, h, e, Option.map_some]
  have fi : (xs.map prP).findIdx? (fun z => PyData.eqv z (prP v)) = some (xs.findIdx (· == v)) := by
    rw [List.findIdx?_map]
    have : ((fun z => PyData.eqv z (prP v)) ∘ prP) = fun z => z == v := by
      funext z
      exact eqv_pr
    rw [this, List.findIdx?_eq_some_iff_findIdx_eq]
    exact ⟨List.findIdx_lt_length_of_exists ⟨v, hv, by simp⟩, rfl⟩
  simp only [fIndex, ev, el, shaped_prs, shaped_pr, and_self, if_true, fi]
theorem hm_who_came : ∀ ds st0, ds.length = 2 → wfS st0 → wfD.wfDs st0.length ds → Fin st0.length (retR (m_who_came (startE 2 ds) st0)) (F_who_came ds st0) := by
  intro ds st0 hl hw hd
  unfold F_who_came
  split
  · split
    · split
      · rename_i r x _ _ ps c h hx k
        have h := rdR_some h
        have hx := unP_some hx
        subst hx
        have ix := idx_prs (v := c) h (by omega) k.2
        have e : retR (m_who_came (startE 2 [.ref r, prD c]) st0) = .ok (.int (ps.findIdx (· == c))) st0 := by
          simp [m_who_came, startE, h, ix]
        rw [e]
        exact fin_same (by simp) (wfS_N hw) trivial
      · exact fin_bad
    · exact fin_bad
  · exact fin_bad
theorem notin_prs {s : Sto} {n : Nat} {xs : List (Int × Int)} {v : Int × Int} (h : rdL s n = some (xs.map prD)) (hl : xs.length < 99000) : fNotIn (prD v) (.ref n) s = some (.bl (!xs.contains v), s) := by
  have := in_prs (v := v) h hl
  simp only [fIn, isTupD] at this
  simp only [fNotIn, isTupD]
  simp at this ⊢
  exact this
theorem c_who {s : Sto} {a : Nat} {ps : List (Int × Int)} {q : Int × Int} (h : rdL s a = some (ps.map prD)) (hl : ps.length < 1000) (hq : q ∈ ps) : F_who_came [.ref a, prD q] s = .ok (.int (ps.findIdx (· == q))) s := by
  simp only [F_who_came, rdR_of h, unP_pr]
  rw [if_pos ⟨hl, hq⟩]
end Lw
set_option maxRecDepth 100000
set_option maxHeartbeats 4000000
/-! points on the ways to one point; Both, step by step -/
namespace Lw
open PySem PySem.Spec PyProof.Rows L2 Dn
section
variable {rs ps : List (Int × Int)} {p p' q x y : Int × Int}
theorem way_nn (cR : okR rs) (hp : isPt rs p = true) (hq : isPt rs q = true) : 0 ≤ wayLen rs p q := by
  rw [dist_ok cR hp hq]
  obtain ⟨A, B, _, _, e⟩ := way_eq cR (isPt_vp cR hp) (isPt_vp cR hq)
  rw [e]
  simp only [List.length_append, List.length_cons]
  omega
theorem way_eq0 (cR : okR rs) (hp : isPt rs p = true) (hq : isPt rs q = true) : wayLen rs p q = 0 ↔ p = q := by
  have h := wayLen_zero cR hp hq
  rw [Bool.eq_iff_iff] at h
  simpa using h
theorem way_tri (cR : okR rs) (hp : isPt rs p = true) (hx : isPt rs x = true) (hq : isPt rs q = true) : wayLen rs p q ≤ wayLen rs p x + wayLen rs x q := by
  have f := four cR (isPt_vp cR hp) (isPt_vp cR hx) (isPt_vp cR hq) (isPt_vp cR hx) _ _ _ rfl rfl rfl
  rw [way_self cR hx, way_sym cR hx hq] at f
  have s1 := way_sym cR hx hq
  have n1 := way_nn cR hp hx
  have n2 := way_nn cR hx hq
  omega
/-- the only point at its place on a way -/
theorem on_unique (cR : okR rs) (hp : isPt rs p = true) (hq : isPt rs q = true) (hx : isPt rs x = true) (hy : isPt rs y = true) (h1 : wayLen rs p x = wayLen rs p y) (h2 : wayLen rs p x + wayLen rs x q = wayLen rs p q) (h3 : wayLen rs p y + wayLen rs y q = wayLen rs p q) : x = y := by
  have f := four cR (isPt_vp cR hp) (isPt_vp cR hq) (isPt_vp cR hx) (isPt_vp cR hy) _ _ _ rfl rfl rfl
  have s1 := way_sym cR hx hq
  have s2 := way_sym cR hy hq
  have n := way_nn cR hx hy
  exact (way_eq0 cR hx hy).mp (by omega)
theorem ray1 (cR : okR rs) (hp : isPt rs p = true) (hp' : isPt rs p' = true) (hq : isPt rs q = true) (hx : isPt rs x = true) (h : wayLen rs p x + wayLen rs x q = wayLen rs p q) :
    wayLen rs x p' = wayLen rs x q + wayLen rs p' q - min (2 * wayLen rs x q) (wayLen rs p q + wayLen rs p' q - wayLen rs p p') := by
  have f := four cR (isPt_vp cR hp) (isPt_vp cR hx) (isPt_vp cR hp') (isPt_vp cR hq) _ _ _ rfl rfl rfl
  have t1 := way_tri cR hp' hx hq
  have s1 := way_sym cR hx hp'
  have t2 := way_tri cR hp hx hp'
  have n := way_nn cR hp hx
  omega
/-- two points on their ways to q -/
theorem ray2 (cR : okR rs) (hp : isPt rs p = true) (hp' : isPt rs p' = true) (hq : isPt rs q = true) (hx : isPt rs x = true) (hy : isPt rs y = true) (h : wayLen rs p x + wayLen rs x q = wayLen rs p q) (h' : wayLen rs p' y + wayLen rs y q = wayLen rs p' q) :
    wayLen rs x y = wayLen rs x q + wayLen rs y q - min (2 * wayLen rs x q) (min (2 * wayLen rs y q) (wayLen rs p q + wayLen rs p' q - wayLen rs p p')) := by
  have a := ray1 cR hp hp' hq hx h
  have b := ray1 cR hp' hx hq hy h'
  have s1 := way_sym cR hx hp'
  have s2 := way_sym cR hy hx
  omega
theorem step_way (cR : okR rs) (hp : isPt rs p = true) (hq : isPt rs q = true) {a : Int} (h0 : 0 ≤ a) (h1 : a ≤ wayLen rs p q) : isPt rs (stepTo rs p q a) = true ∧ wayLen rs p (stepTo rs p q a) = a ∧ wayLen rs (stepTo rs p q a) q = wayLen rs p q - a :=
  ⟨step_pt cR hp hq h0 h1, step_dist cR (isPt_vp cR hp) (isPt_vp cR hq) h0 h1⟩
theorem step_comp (cR : okR rs) (hp : isPt rs p = true) (hq : isPt rs q = true) {a b : Int} (h0 : 0 ≤ a) (h1 : 0 ≤ b) (h2 : a + b ≤ wayLen rs p q) : stepTo rs (stepTo rs p q a) q b = stepTo rs p q (a + b) := by
  obtain ⟨i1, d1, e1⟩ := step_way cR hp hq h0 (by omega)
  obtain ⟨i2, d2, e2⟩ := step_way cR i1 hq h1 (by omega)
  obtain ⟨i3, d3, e3⟩ := step_way cR hp hq (show 0 ≤ a + b by omega) h2
  have t1 := way_tri cR hp i1 i2
  have t2 := way_tri cR hp i2 hq
  exact on_unique cR hp hq i2 i3 (by omega) (by omega) (by omega)
theorem step_0 (cR : okR rs) (hp : isPt rs p = true) (hq : isPt rs q = true) : stepTo rs p q 0 = p := by
  have n := way_nn cR hp hq
  obtain ⟨i1, d1, e1⟩ := step_way cR hp hq (Int.le_refl 0) n
  exact ((way_eq0 cR hp i1).mp d1).symm
theorem step_all (cR : okR rs) (hp : isPt rs p = true) (hq : isPt rs q = true) : stepTo rs p q (wayLen rs p q) = q := by
  have n := way_nn cR hp hq
  obtain ⟨i1, d1, e1⟩ := step_way cR hp hq n (Int.le_refl _)
  exact (way_eq0 cR i1 hq).mp (by omega)
end
section
variable (rs ps : List (Int × Int)) (q : Int × Int)
/-- where helper i is behind t steps -/
def posF (t i : Int) : Int × Int := stepTo rs (atN ps i) q (min t (goneF rs ps q i))
def posC (t : Int) : List (Int × Int) := (rI 0 ps.length).map (posF rs ps q t)
end
section
variable {rs ps : List (Int × Int)} {q : Int × Int}
theorem posC_len {t : Int} : (posC rs ps q t).length = ps.length := by simp [posC, rI_len]
theorem posC_at {t i : Int} (h : 0 ≤ i ∧ i < ps.length) : atN (posC rs ps q t) i = posF rs ps q t i := by
  unfold atN posC
  rw [List.getElem?_map, rI_get _ 0 _ (by omega)]
  simp
  rw [show max i 0 = i by omega]
theorem posF_ok (cR : okR rs) (ha : allP rs ps) (hq : isPt rs q = true) {t i : Int} (ht : 0 ≤ t) (h : 0 ≤ i ∧ i < ps.length) : isPt rs (posF rs ps q t i) = true ∧ wayLen rs (atN ps i) (posF rs ps q t i) = min t (goneF rs ps q i) ∧ wayLen rs (posF rs ps q t i) q = awA rs ps q i - min t (goneF rs ps q i) := by
  have pi := ha _ (atN_mem h.1 h.2).1
  have g := gone_in cR ha hq h
  exact step_way cR pi hq (by omega) (by show _ ≤ awA rs ps q i; omega)
theorem posC_ok (cR : okR rs) (ha : allP rs ps) (hq : isPt rs q = true) {t : Int} (ht : 0 ≤ t) : allP rs (posC rs ps q t) := fun p h => by
  obtain ⟨i, hi, rfl⟩ := List.mem_map.mp h
  have hi := mem_rI.mp hi
  exact (posF_ok cR ha hq ht ⟨hi.1, by omega⟩).1
theorem awA_pos (cR : okR rs) (ha : allP rs ps) (hq : isPt rs q = true) {t i : Int} (ht : 0 ≤ t) (h : 0 ≤ i ∧ i < ps.length) : awA rs (posC rs ps q t) q i = awA rs ps q i - min t (goneF rs ps q i) := by
  unfold awA
  rw [posC_at h]
  exact (posF_ok cR ha hq ht h).2.2
theorem nearW_is (h : 0 < ps.length) : ∃ m : Int, (0 ≤ m ∧ m < ps.length) ∧ awA rs ps q m = nearW rs ps q := by
  obtain ⟨nl, na⟩ := near_lt (rs := rs) (ps := ps) (q := q) h
  exact ⟨_, ⟨by omega, by omega⟩, na⟩
theorem nearW_le {j : Int} (hj : 0 ≤ j ∧ j < ps.length) : nearW rs ps q ≤ awA rs ps q j :=
  leastI_le (List.mem_map.mpr ⟨atN ps j, (atN_mem hj.1 hj.2).1, rfl⟩)
/-- nobody goes farther than the nearest one -/
theorem gone_near (cR : okR rs) (ha : allP rs ps) (hq : isPt rs q = true) {i : Int} (hi : 0 ≤ i ∧ i < ps.length) : goneF rs ps q i ≤ nearW rs ps q := by
  obtain ⟨m, hm, em⟩ := nearW_is (rs := rs) (ps := ps) (q := q) (by omega)
  have gi := gone_in cR ha hq hi
  by_cases c : lessF rs ps q i m = true
  · have := gone_le hm c
    have := coming_in cR ha hq hi hm (by have := less_iff.mp c; omega)
    rw [th_row] at this
    omega
  · have : ¬ awA rs ps q m < awA rs ps q i := fun z => c (less_iff.mpr (.inl z))
    have := nearW_le (rs := rs) (ps := ps) (q := q) hi
    omega
theorem th_two (cR : okR rs) (ha : allP rs ps) (hq : isPt rs q = true) {i j : Int} (hi : 0 ≤ i ∧ i < ps.length) (hj : 0 ≤ j ∧ j < ps.length) : 2 * thF rs ps q i j = awA rs ps q j + wayLen rs (atN ps i) (atN ps j) - awA rs ps q i := by
  have pi := ha _ (atN_mem hi.1 hi.2).1
  have pj := ha _ (atN_mem hj.1 hj.2).1
  obtain ⟨half, M, e, _⟩ := middle cR (isPt_vp cR pi) (isPt_vp cR pj) (isPt_vp cR hq)
  have sy := way_sym cR pi hq
  rw [sy] at e
  unfold thF
  have e1 : wayLen rs (atN ps i) q = awA rs ps q i := rfl
  have e2 : wayLen rs (atN ps j) q = awA rs ps q j := rfl
  rw [e1, e2] at e
  omega
/-- who stands in the way of i behind t steps -/
theorem bad_pos (cR : okR rs) (ha : allP rs ps) (hq : isPt rs q = true) {t i j : Int} (ht : 0 ≤ t) (hi : 0 ≤ i ∧ i < ps.length) (hj : 0 ≤ j ∧ j < ps.length) :
    badF rs (posC rs ps q t) q i j = true ↔ thF rs ps q i j ≤ min t (goneF rs ps q j) ∧ (awA rs ps q j - min t (goneF rs ps q j) < awA rs ps q i - min t (goneF rs ps q i) ∨ (awA rs ps q j - min t (goneF rs ps q j) = awA rs ps q i - min t (goneF rs ps q i) ∧ j < i)) := by
  have pi := ha _ (atN_mem hi.1 hi.2).1
  have pj := ha _ (atN_mem hj.1 hj.2).1
  have xi := posF_ok cR ha hq ht hi
  have xj := posF_ok cR ha hq ht hj
  have gi := gone_in cR ha hq hi
  have gj := gone_in cR ha hq hj
  have r := ray2 cR pi pj hq xi.1 xj.1 (by rw [xi.2.1, xi.2.2]; show _ = awA rs ps q i; omega) (by rw [xj.2.1, xj.2.2]; show _ = awA rs ps q j; omega)
  have th := th_two cR ha hq hi hj
  have e1 : wayLen rs (atN ps i) q = awA rs ps q i := rfl
  have e2 : wayLen rs (atN ps j) q = awA rs ps q j := rfl
  rw [xi.2.2, xj.2.2, e1, e2] at r
  unfold badF
  rw [awA_pos cR ha hq ht hi, awA_pos cR ha hq ht hj, posC_at hi, posC_at hj, decide_eq_true_eq]
  have z := way_eq0 cR xi.1 xj.1
  have z' : posF rs ps q t j = posF rs ps q t i ↔ wayLen rs (posF rs ps q t i) (posF rs ps q t j) = 0 := ⟨fun h => z.mpr h.symm, fun h => (z.mp h).symm⟩
  rw [z']
  omega
/-- who sees the call behind t steps: those who go farther -/
theorem sees_pos (cR : okR rs) (ha : allP rs ps) (hq : isPt rs q = true) {t i : Int} (ht : 0 ≤ t) (hT : t < nearW rs ps q) (hi : 0 ≤ i ∧ i < ps.length) : seesF rs (posC rs ps q t) q i = decide (t < goneF rs ps q i) := by
  have gi := gone_in cR ha hq hi
  rw [Bool.eq_iff_iff, decide_eq_true_eq]
  unfold seesF
  rw [List.all_eq_true, posC_len]
  constructor
  · intro h
    by_cases c : t < goneF rs ps q i
    · exact c
    · exfalso
      rcases gone_is (rs := rs) (ps := ps) (q := q) (i := i) with ⟨_, e⟩ | ⟨j, hj, lj, ej⟩
      · have := nearW_le (rs := rs) (ps := ps) (q := q) hi
        omega
      · obtain ⟨j, hj, lj, ej, ge⟩ := comer cR ha hq hi _ j (Nat.lt_succ_self _) hj lj ej.symm
        have b := (bad_pos cR ha hq ht hi hj).mpr (by
          have l := less_iff.mp lj
          have gj := gone_in cR ha hq hj
          omega)
        have := h j (mem_rI.mpr ⟨hj.1, by omega⟩)
        rw [b] at this
        cases this
  · intro c j hj
    have hj := mem_rI.mp hj
    have hj : 0 ≤ j ∧ j < ps.length := ⟨hj.1, by omega⟩
    rw [Bool.not_eq_true', Bool.eq_false_iff]
    intro b
    have b := (bad_pos cR ha hq ht hi hj).mp b
    have gj := gone_in cR ha hq hj
    by_cases l : lessF rs ps q i j = true
    · have := gone_le hj l
      omega
    · have l' : ¬ (awA rs ps q j < awA rs ps q i ∨ (awA rs ps q j = awA rs ps q i ∧ j < i)) := fun z => l (less_iff.mpr z)
      omega
theorem posC_0 (cR : okR rs) (ha : allP rs ps) (hq : isPt rs q = true) : posC rs ps q 0 = ps := by
  apply List.ext_getElem?
  intro k
  unfold posC
  rw [List.getElem?_map]
  by_cases h : k < ps.length
  · rw [rI_get _ 0 k h]
    have gi := gone_in cR ha hq (i := (k : Int)) ⟨by omega, by omega⟩
    have e : posF rs ps q 0 (0 + (k : Int)) = atN ps k := by
      unfold posF
      rw [Int.zero_add, show min 0 (goneF rs ps q k) = 0 by omega, step_0 cR (ha _ (atN_mem (by omega) (by omega)).1) hq]
    rw [Option.map_some, e]
    simp [atN, h]
  · rw [List.getElem?_eq_none (by rw [rI_len]; omega), List.getElem?_eq_none (by omega)]
    rfl
theorem posC_T (cR : okR rs) (ha : allP rs ps) (hq : isPt rs q = true) {t : Int} (ht : nearW rs ps q ≤ t) : posC rs ps q t = bothC rs ps q := by
  unfold posC bothC
  apply List.map_congr_left
  intro i hi
  have hi := mem_rI.mp hi
  have hi : 0 ≤ i ∧ i < ps.length := ⟨hi.1, by omega⟩
  have := gone_near cR ha hq hi
  unfold posF bothP
  rw [show min t (goneF rs ps q i) = goneF rs ps q i by omega]
theorem posF_succ (cR : okR rs) (ha : allP rs ps) (hq : isPt rs q = true) {t i : Int} (ht : 0 ≤ t) (hi : 0 ≤ i ∧ i < ps.length) : posF rs ps q (t + 1) i = if t < goneF rs ps q i then stepTo rs (posF rs ps q t i) q 1 else posF rs ps q t i := by
  have pi := ha _ (atN_mem hi.1 hi.2).1
  have gi := gone_in cR ha hq hi
  unfold posF
  split
  · rename_i c
    rw [show min t (goneF rs ps q i) = t by omega, step_comp cR pi hq ht (by omega) (by show t + 1 ≤ awA rs ps q i; omega), show min (t + 1) (goneF rs ps q i) = t + 1 by omega]
  · rw [show min t (goneF rs ps q i) = goneF rs ps q i by omega, show min (t + 1) (goneF rs ps q i) = goneF rs ps q i by omega]
/-- the call is reached just at the time of the nearest -/
theorem at_call (cR : okR rs) (ha : allP rs ps) (hq : isPt rs q = true) {t : Int} (ht : 0 ≤ t) (h0 : 0 < ps.length) : q ∈ posC rs ps q t ↔ nearW rs ps q ≤ t := by
  constructor
  · intro h
    obtain ⟨i, hi, e⟩ := List.mem_map.mp h
    have hi := mem_rI.mp hi
    have hi : 0 ≤ i ∧ i < ps.length := ⟨hi.1, by omega⟩
    have k := (posF_ok cR ha hq ht hi).2.2
    rw [e, way_self cR hq] at k
    have := nearW_le (rs := rs) (ps := ps) (q := q) hi
    omega
  · intro h
    obtain ⟨m, hm, em⟩ := nearW_is (rs := rs) (ps := ps) (q := q) h0
    rcases gone_is (rs := rs) (ps := ps) (q := q) (i := m) with ⟨_, e⟩ | ⟨j, hj, lj, ej⟩
    · refine List.mem_map.mpr ⟨m, mem_rI.mpr ⟨hm.1, by omega⟩, ?_⟩
      unfold posF
      have pm := ha _ (atN_mem hm.1 hm.2).1
      rw [show min t (goneF rs ps q m) = wayLen rs (atN ps m) q by show _ = awA rs ps q m; omega, step_all cR pm hq]
    · -- the nearest one of least number
      obtain ⟨nl, na⟩ := near_lt (rs := rs) (ps := ps) (q := q) h0
      obtain ⟨n, hn⟩ : ∃ n, nearI rs ps q = n := ⟨_, rfl⟩
      rw [hn] at nl na
      have no : ∀ j : Int, 0 ≤ j → j < ps.length → lessF rs ps q n j = false := fun j j0 j1 => by
        rw [Bool.eq_false_iff]
        intro l
        have l := less_iff.mp l
        have := nearW_le (rs := rs) (ps := ps) (q := q) ⟨j0, j1⟩
        have jl : j < n := by omega
        have ej : awA rs ps q j = nearW rs ps q := by omega
        have fi := List.not_of_lt_findIdx (p := (· == nearW rs ps q)) (xs := awL rs ps q) (i := j.toNat) (by
          show j.toNat < nearI rs ps q
          omega)
        have lj : j.toNat < ps.length := by omega
        have : (awL rs ps q)[j.toNat]'(by simp [awL, lj]) = awA rs ps q j := by simp [awL, awA, atN, lj]
        rw [this, ej] at fi
        simp at fi
      have e : goneF rs ps q n = awA rs ps q n := by
        rcases gone_is (rs := rs) (ps := ps) (q := q) (i := (n : Int)) with ⟨_, e⟩ | ⟨j, hj, lj, ej⟩
        · exact e
        · rw [no j hj.1 hj.2] at lj
          cases lj
      refine List.mem_map.mpr ⟨n, mem_rI.mpr ⟨by omega, by omega⟩, ?_⟩
      unfold posF
      have pm := ha _ (atN_mem (ps := ps) (i := (n : Int)) (by omega) (by omega)).1
      rw [show min t (goneF rs ps q n) = wayLen rs (atN ps n) q by show _ = awA rs ps q n; omega, step_all cR pm hq]
theorem bothC_at_call (cR : okR rs) (ha : allP rs ps) (hq : isPt rs q = true) (h0 : 0 < ps.length) : q ∈ bothC rs ps q := by
  obtain ⟨m, hm, em⟩ := nearW_is (rs := rs) (ps := ps) (q := q) h0
  have pm := ha _ (atN_mem hm.1 hm.2).1
  have n := way_nn cR pm hq
  have : 0 ≤ nearW rs ps q := by rw [← em]; exact n
  rw [← posC_T cR ha hq (Int.le_refl _)]
  exact (at_call cR ha hq this h0).mpr (Int.le_refl _)
end
end Lw
set_option maxRecDepth 100000
/-! the laws that go step by step on a table -/
namespace Lw
open PySem PySem.Spec PyProof.Rows L2 Dn
def gI (xs : List Int) (i : Int) : Int := xs[i.toNat]?.getD 0
/-! small trees -/
def smlG (longest : Int) : Nat → Int → Int → List (Int × Int) × Int
  | 0, _, d => ([], d)
  | k + 1, v, d => ((d % v, 1 + d / v % longest) :: (smlG longest k (v + 1) (d / v / longest)).1, (smlG longest k (v + 1) (d / v / longest)).2)
def smlM (d least : Int) : List (Int × Int) × Int :=
  let mode := d % 8
  let e := d / 8
  let size := least + e % (7 - least)
  let f := e / (7 - least)
  if mode = 6 then smlG 3 9 1 f else if mode = 7 then smlG 30 (if 1 + f % 3 > least then 1 + f % 3 else least).toNat 1 (f / 3) else smlG 6 size.toNat 1 f
def F_law_small (ds : List D) (st : Sto) : Res D := match ds with
  | [.ref a, .int least] => match rdI st a with
    | some d => if 0 ≤ least ∧ least < 7 then .ok (.ref st.length) (put1 st a (smlM d least).2 ++ [.lst ((smlM d least).1.map prD)]) else .bad
    | _ => .bad
  | _ => .bad
/-! points: what is built, road by road: the points, above, the nodes -/
structure Pb where
  pts : List (Int × Int)
  abv : List Int
  nds : List Int
def ptI (v len : Int) : Nat → Int → Int → List (Int × Int) → List Int → List (Int × Int) × List Int × Int
  | 0, _, last, P, A => (P, A, last)
  | m + 1, k, last, P, A => ptI v len m (k + 1) (P.length : Int) (P ++ [(v, len - 1 - k)]) (A ++ [last])
def ptA : Int → List (Int × Int) → Pb → Pb
  | _, [], b => b
  | v, (par, len) :: r, b => ptA (v + 1) r ⟨(ptI v len len.toNat 0 (gI b.nds par) b.pts b.abv).1, (ptI v len len.toNat 0 (gI b.nds par) b.pts b.abv).2.1, b.nds ++ [(ptI v len len.toNat 0 (gI b.nds par) b.pts b.abv).2.2]⟩
def ptB (rs : List (Int × Int)) : Pb := ptA 1 rs ⟨[(0, 0)], [0], [0]⟩
open Classical in
noncomputable def F_law_points (ds : List D) (st : Sto) : Res D := match ds with
  | [.ref r] => match rdR st r with
    | some rs => if okR rs ∧ (rs.map (·.2)).sum < 90000 then .ok (.tup [.ref st.length, .ref (st.length + 1)]) (st ++ [.lst ((ptB rs).pts.map prD), .lst ((ptB rs).abv.map .int), .lst ((ptB rs).nds.map .int)]) else .bad
    | none => .bad
  | _ => .bad
/-! the table -/
def okA (ab : List Int) : Prop := 0 < ab.length ∧ ab.length < 90000 ∧ ∀ i : Nat, 0 < i → i < ab.length → 0 ≤ gI ab i ∧ gI ab i < i
def tA (ab : List Int) : Nat → Nat → Nat → Int
  | 0, _, _ => 0
  | f + 1, p, q => if p = q then 0 else if q < p then tA ab f (gI ab p).toNat q + 1 else tA ab f (gI ab q).toNat p + 1
def tV (ab : List Int) (p q : Nat) : Int := tA ab (p + q + 1) p q
def tRow (ab : List Int) (n p : Nat) : List Int := (List.range n).map (tV ab p)
def tRows (ab : List Int) : List (List Int) := (List.range ab.length).map (tRow ab ab.length)
/-- where row p is laid -/
def tAt (L : Nat) (p : Nat) : Nat := if p = 0 then L else L + 1 + p
def tRefs (L n : Nat) : List D := (List.range n).map fun p => .ref (tAt L p)
/-- with n rows, each of n numbers -/
def tSto (ab : List Int) (L n : Nat) : Sto := .lst ((tRow ab n 0).map .int) :: .lst (tRefs L n) :: ((List.range (n - 1)).map fun p => .lst ((tRow ab n (p + 1)).map .int))
open Classical in
noncomputable def F_law_table (ds : List D) (st : Sto) : Res D := match ds with
  | [.ref a] => match rdL st a with
    | some xs => match intsD xs with
      | some ab => if okA ab then .ok (.ref (st.length + 1)) (st ++ tSto ab st.length ab.length) else .bad
      | none => .bad
    | none => .bad
  | _ => .bad
/-! reading a table -/
def rowsD (s : Sto) : List D → Option (List (List Int))
  | [] => some []
  | .ref m :: r => match rdL s m with
    | some xs => match intsD xs, rowsD s r with
      | some x, some y => some (x :: y)
      | _, _ => none
    | none => none
  | _ :: _ => none
def rdTb (s : Sto) (n : Nat) : Option (List (List Int)) := match rdL s n with
  | some ds => rowsD s ds
  | none => none
def gTb (T : List (List Int)) (p q : Int) : Int := gI (T[p.toNat]?.getD []) q
def okT (T : List (List Int)) : Prop := T.length < 90000 ∧ ∀ r ∈ T, r.length = T.length
def inN (n : Nat) (is : List Int) : Prop := ∀ i ∈ is, 0 ≤ i ∧ i < (n : Int)
/-! places -/
def plcF (size : Int) : Nat → Int → List Int → List Int × Int
  | 0, d, acc => (acc, d)
  | j + 1, d, acc => if d % 4 = 3 ∧ 0 < acc.length then plcF size j (d / 4 / acc.length) (acc ++ [gI acc (d / 4 % acc.length)]) else plcF size j (d / 4 / size) (acc ++ [d / 4 % size])
def F_law_places (ds : List D) (st : Sto) : Res D := match ds with
  | [.ref a, .int many, .int size, .ref e] => match rdI st a, rdL st e with
    | some d, some xs => match intsD xs with
      | some el => if (0 ≤ many ∧ many < 100) ∧ (0 < size ∧ size < 100000) ∧ el.length < 1000 then .ok (.ref st.length) (put1 st a (plcF size many.toNat d el).2 ++ [.lst (((plcF size many.toNat d el).1.drop el.length).map .int)]) else .bad
      | none => .bad
    | _, _ => .bad
  | _ => .bad
/-! who sees; the next point; Both; Nearest -/
def blkA (T : List (List Int)) (is : List Int) (c i j : Int) : Bool := decide ((gI is i = gI is j ∧ j < i) ∨ (gI is i ≠ gI is j ∧ gTb T (gI is i) (gI is j) + gTb T (gI is j) c = gTb T (gI is i) c))
def frA (T : List (List Int)) (is : List Int) (c i : Int) : Bool := (rI 0 is.length).all fun j => !blkA T is c i j
def seeA (T : List (List Int)) (is : List Int) (c : Int) : List Int := (rI 0 is.length).filter (frA T is c)
open Classical in
noncomputable def F_law_seeing (ds : List D) (st : Sto) : Res D := match ds with
  | [.ref t, .ref c, .int q] => match rdTb st t, rdL st c with
    | some T, some xs => match intsD xs with
      | some is => if okT T ∧ inN T.length is ∧ (0 ≤ q ∧ q < T.length) ∧ is.length < 1000 then .ok (.ref st.length) (st ++ [.lst ((seeA T is q).map .int)]) else .bad
      | none => .bad
    | _, _ => .bad
  | _ => .bad
def wlkA (ab : List Int) (p : Int) : Nat → Int → Int
  | 0, q => q
  | k + 1, q => if gI ab q = p then q else wlkA ab p k (gI ab q)
def nxtA (ab : List Int) (T : List (List Int)) (p c : Int) : Int := if 0 < p ∧ gTb T (gI ab p) c < gTb T p c then gI ab p else wlkA ab p ab.length c
open Classical in
noncomputable def F_law_next (ds : List D) (st : Sto) : Res D := match ds with
  | [.ref a, .ref t, .int p, .int c] => match rdL st a, rdTb st t with
    | some xs, some T => match intsD xs with
      | some ab => if okA ab ∧ gI ab 0 = 0 ∧ okT T ∧ ab.length = T.length ∧ (0 ≤ p ∧ p < T.length) ∧ (0 ≤ c ∧ c < T.length) then .ok (.int (nxtA ab T p c)) st else .bad
      | none => .bad
    | _, _ => .bad
  | _ => .bad
def goA (ab : List Int) (T : List (List Int)) (c : Int) : List Int → List Int → List Int
  | [], led => led
  | i :: r, led => goA ab T c r (led.set i.toNat (nxtA ab T (gI led i) c))
def bthA (ab : List Int) (T : List (List Int)) (c : Int) : Nat → List Int → Int → List Int × Int
  | 0, led, w => (led, w)
  | k + 1, led, w => if c ∈ led then (led, w) else bthA ab T c k (goA ab T c (seeA T led c) led) (w + (seeA T led c).length)
open Classical in
noncomputable def F_law_both (ds : List D) (st : Sto) : Res D := match ds with
  | [.ref a, .ref t, .ref c, .int q] => match rdL st a, rdTb st t, rdL st c with
    | some xs, some T, some ys => match intsD xs, intsD ys with
      | some ab, some is => if okA ab ∧ gI ab 0 = 0 ∧ okT T ∧ ab.length = T.length ∧ inN T.length is ∧ (0 ≤ q ∧ q < T.length) ∧ is.length < 1000 then .ok (.tup [.ref st.length, .int (bthA ab T q ab.length is 0).2]) (st ++ [.lst ((bthA ab T q ab.length is 0).1.map .int)]) else .bad
      | _, _ => .bad
    | _, _, _ => .bad
  | _ => .bad
end Lw
set_option maxRecDepth 100000
set_option maxHeartbeats 4000000
namespace Lw
open PySem PySem.Spec PyProof.Rows L2 Dn
noncomputable def m_law_small : MS := (mSeq (mSet 2 (mCall F_law_pick (mCons (mVar 0) (mCons (mC (.int 8)) mNil)))) (mSeq (mSet 3 (mOp fAdd (mVar 1) (mCall F_law_pick (mCons (mVar 0) (mCons (mOp fSub (mC (.int 7)) (mVar 1)) mNil))))) (mSeq (mSet 4 (mC (.int 6))) (mSeq (mIfS (mB (mOp fEq (mVar 2) (mC (.int 6)))) (mSeq (mSet 3 (mC (.int 9))) (mSet 4 (mC (.int 3)))) mNext) (mSeq (mIfS (mB (mOp fEq (mVar 2) (mC (.int 7)))) (mSeq (mSet 3 (mFn fMax (mCons (mVar 1) (mCons (mOp fAdd (mC (.int 1)) (mCall F_law_pick (mCons (mVar 0) (mCons (mC (.int 3)) mNil)))) mNil)))) (mSet 4 (mC (.int 30)))) mNext) (mRet (mLc [5] (mRng (mCons (mC (.int 1)) (mCons (mOp fAdd (mVar 3) (mC (.int 1))) mNil))) (gN 5) mYes (mTup (mCons (mCall F_law_pick (mCons (mVar 0) (mCons (mVar 5) mNil))) (mCons (mOp fAdd (mC (.int 1)) (mCall F_law_pick (mCons (mVar 0) (mCons (mVar 4) mNil)))) mNil))))))))))
noncomputable def b_law_points_1 : MS := (mSeq (mDrop (mMeth fAppend (mVar 1) (mCons (mTup (mCons (mVar 4) (mCons (mOp fSub (mOp fSub (mOp fIdx (mOp fIdx (mVar 0) (mOp fSub (mVar 4) (mC (.int 1)))) (mC (.int 1))) (mC (.int 1))) (mVar 6)) mNil))) mNil))) (mSeq (mDrop (mMeth fAppend (mVar 2) (mCons (mVar 5) mNil))) (mSet 5 (mOp fSub (mFn fLen (mCons (mVar 1) mNil)) (mC (.int 1))))))
noncomputable def b_law_points_2 : MS := (mSeq (mSet 5 (mOp fIdx (mVar 3) (mOp fIdx (mOp fIdx (mVar 0) (mOp fSub (mVar 4) (mC (.int 1)))) (mC (.int 0))))) (mSeq (mFor (mRng (mCons (mOp fIdx (mOp fIdx (mVar 0) (mOp fSub (mVar 4) (mC (.int 1)))) (mC (.int 1))) mNil)) (gN 6) b_law_points_1) (mDrop (mMeth fAppend (mVar 3) (mCons (mVar 5) mNil)))))
noncomputable def m_law_points : MS := (mSeq (mSet 1 (mLst (mCons (mTup (mCons (mC (.int 0)) (mCons (mC (.int 0)) mNil))) mNil))) (mSeq (mSet 2 (mLst (mCons (mC (.int 0)) mNil))) (mSeq (mSet 3 (mLst (mCons (mC (.int 0)) mNil))) (mSeq (mFor (mRng (mCons (mC (.int 1)) (mCons (mOp fAdd (mFn fLen (mCons (mVar 0) mNil)) (mC (.int 1))) mNil))) (gN 4) b_law_points_2) (mRet (mTup (mCons (mVar 1) (mCons (mVar 2) mNil))))))))
noncomputable def b_law_table_1 : MS := (mSeq (mSet 5 (mOp fIdx (mVar 1) (mVar 4))) (mDrop (mMeth fAppend (mVar 5) (mCons (mOp fIdx (mVar 3) (mVar 4)) mNil))))
noncomputable def b_law_table_2 : MS := (mSeq (mSet 3 (mLc [4] (mRng (mCons (mVar 2) mNil)) (gN 4) mYes (mOp fAdd (mOp fIdx (mOp fIdx (mVar 1) (mOp fIdx (mVar 0) (mVar 2))) (mVar 4)) (mC (.int 1))))) (mSeq (mFor (mRng (mCons (mVar 2) mNil)) (gN 4) b_law_table_1) (mSeq (mDrop (mMeth fAppend (mVar 3) (mCons (mC (.int 0)) mNil))) (mDrop (mMeth fAppend (mVar 1) (mCons (mVar 3) mNil))))))
noncomputable def m_law_table : MS := (mSeq (mSet 1 (mLst (mCons (mLst (mCons (mC (.int 0)) mNil)) mNil))) (mSeq (mFor (mRng (mCons (mC (.int 1)) (mCons (mFn fLen (mCons (mVar 0) mNil)) mNil))) (gN 2) b_law_table_2) (mRet (mVar 1))))
noncomputable def b_law_places_1 : MS := (mSeq (mSet 6 (mCall F_law_pick (mCons (mVar 0) (mCons (mC (.int 4)) mNil)))) (mIfS (mAnd (mB (mOp fEq (mVar 6) (mC (.int 3)))) (mB (mOp fGt (mFn fLen (mCons (mVar 4) mNil)) (mC (.int 0))))) (mDrop (mMeth fAppend (mVar 4) (mCons (mOp fIdx (mVar 4) (mCall F_law_pick (mCons (mVar 0) (mCons (mFn fLen (mCons (mVar 4) mNil)) mNil)))) mNil))) (mDrop (mMeth fAppend (mVar 4) (mCons (mCall F_law_pick (mCons (mVar 0) (mCons (mVar 2) mNil))) mNil)))))
noncomputable def m_law_places : MS := (mSeq (mSet 4 (mFn fList (mCons (mVar 3) mNil))) (mSeq (mFor (mRng (mCons (mVar 1) mNil)) (gN 5) b_law_places_1) (mRet (mSlice (mVar 4) (mPart (mFn fLen (mCons (mVar 3) mNil))) mNoP))))
noncomputable def b_law_seeing_1 : MS := (mSeq (mSet 7 (mOp fIdx (mVar 1) (mVar 4))) (mSeq (mSet 8 (mOp fIdx (mVar 1) (mVar 6))) (mSeq (mSet 9 (mOp fAdd (mOp fIdx (mOp fIdx (mVar 0) (mVar 7)) (mVar 8)) (mOp fIdx (mOp fIdx (mVar 0) (mVar 8)) (mVar 2)))) (mSeq (mIfS (mAnd (mB (mOp fEq (mVar 7) (mVar 8))) (mB (mOp fLt (mVar 6) (mVar 4)))) (mSet 5 (mC (.bl false))) mNext) (mIfS (mAnd (mB (mOp fNe (mVar 7) (mVar 8))) (mB (mOp fEq (mVar 9) (mOp fIdx (mOp fIdx (mVar 0) (mVar 7)) (mVar 2))))) (mSet 5 (mC (.bl false))) mNext)))))
noncomputable def b_law_seeing_2 : MS := (mSeq (mSet 5 (mC (.bl true))) (mSeq (mFor (mRng (mCons (mFn fLen (mCons (mVar 1) mNil)) mNil)) (gN 6) b_law_seeing_1) (mIfS (mB (mVar 5)) (mDrop (mMeth fAppend (mVar 3) (mCons (mVar 4) mNil))) mNext)))
noncomputable def m_law_seeing : MS := (mSeq (mSet 3 (mLst mNil)) (mSeq (mFor (mRng (mCons (mFn fLen (mCons (mVar 1) mNil)) mNil)) (gN 4) b_law_seeing_2) (mRet (mVar 3))))
noncomputable def b_law_next_1 : MS := (mSeq (mIfS (mB (mOp fEq (mOp fIdx (mVar 0) (mVar 4)) (mVar 2))) (mRet (mVar 4)) mNext) (mSet 4 (mOp fIdx (mVar 0) (mVar 4))))
noncomputable def m_law_next : MS := (mSeq (mIfS (mAnd (mB (mOp fGt (mVar 2) (mC (.int 0)))) (mB (mOp fLt (mOp fIdx (mOp fIdx (mVar 1) (mOp fIdx (mVar 0) (mVar 2))) (mVar 3)) (mOp fIdx (mOp fIdx (mVar 1) (mVar 2)) (mVar 3))))) (mRet (mOp fIdx (mVar 0) (mVar 2))) mNext) (mSeq (mSet 4 (mVar 3)) (mSeq (mFor (mRng (mCons (mFn fLen (mCons (mVar 0) mNil)) mNil)) (gN 5) b_law_next_1) (mRet (mVar 4)))))
noncomputable def b_law_both_1 : MS := (mAsg (mCall F_law_next (mCons (mVar 0) (mCons (mVar 1) (mCons (mOp fIdx (mVar 4) (mVar 8)) (mCons (mVar 3) mNil))))) (gSubM fSetI (mVar 4) (mVar 8)))
noncomputable def b_law_both_2 : MS := (mSeq (mIfS (mB (mOp fIn (mVar 3) (mVar 4))) mBrk mNext) (mSeq (mSet 7 (mCall F_law_seeing (mCons (mVar 1) (mCons (mVar 4) (mCons (mVar 3) mNil))))) (mSeq (mSet 5 (mOp fAdd (mVar 5) (mFn fLen (mCons (mVar 7) mNil)))) (mFor (mIter (mVar 7)) (gN 8) b_law_both_1))))
noncomputable def m_law_both : MS := (mSeq (mSet 4 (mFn fList (mCons (mVar 2) mNil))) (mSeq (mSet 5 (mC (.int 0))) (mSeq (mFor (mRng (mCons (mFn fLen (mCons (mVar 0) mNil)) mNil)) (gN 6) b_law_both_2) (mRet (mTup (mCons (mVar 4) (mCons (mVar 5) mNil)))))))
end Lw
set_option maxRecDepth 100000
set_option maxHeartbeats 4000000
namespace Lw
open PySem PySem.Spec PyProof.Rows L2 Dn
theorem lc_small {a : Nat} {longest : Int} {st0 : Sto} {x1 x2 x3 x5 : Option D} (la : a < st0.length) (hL : 0 < longest ∧ longest < 100) : ∀ (k : Nat) (v d : Int) (acc : List D), 0 < v → v + k < 1000 →
    lcS [] [5] (gN 5) mYes (mTup (mCons (mCall F_law_pick (mCons (mVar 0) (mCons (mVar 5) mNil))) (mCons (mOp fAdd (mC (.int 1)) (mCall F_law_pick (mCons (mVar 0) (mCons (mVar 4) mNil)))) mNil))) [some (.ref a), x1, x2, x3, some (.int longest), x5] (rng v k) acc (put1 st0 a d) =
      .ok (acc ++ (smlG longest k v d).1.map prD) (put1 st0 a (smlG longest k v d).2) := by
  intro k
  induction k with
  | zero => intro v d acc _ _; rw [rng_nil, lc_nil0]; simp [smlG]
  | succ k ih =>
    intro v d acc v0 v1
    have f1 := pick_eq (st := put1 st0 a d) (rdI_put1 la) v0 (by omega)
    rw [put1_put1] at f1
    have f2 := pick_eq (st := put1 st0 a (d / v)) (m := longest) (rdI_put1 la) hL.1 (by omega)
    rw [put1_put1] at f2
    rw [rng_cons, lc_cons stays_nil]
    simp only [ev_gN, wipeE, List.set_cons_succ, List.set_cons_zero, ev_yes, if_true]
    have el : mTup (mCons (mCall F_law_pick (mCons (mVar 0) (mCons (mVar 5) mNil))) (mCons (mOp fAdd (mC (.int 1)) (mCall F_law_pick (mCons (mVar 0) (mCons (mVar 4) mNil)))) mNil)) [some (.ref a), x1, x2, x3, some (.int longest), some (.int v)] (put1 st0 a d) = .ok (prD (d % v, 1 + d / v % longest)) (put1 st0 a (d / v / longest)) := by
      simp -implicitDefEqProofs [f1, f2, prD]
    rw [el]
    simp only []
    rw [ih (v + 1) (d / v / longest) _ (by omega) (by omega)]
    simp [smlG]
theorem smlG_len {longest : Int} : ∀ {k : Nat} {v d : Int}, (smlG longest k v d).1.length = k
  | 0, _, _ => rfl
  | k + 1, v, d => by simp [smlG, smlG_len]
theorem smlG_at {longest : Int} (hL : 0 < longest ∧ longest < 100) : ∀ (k : Nat) (v d : Int), 0 < v → ∀ (i : Nat) (p : Int × Int), (smlG longest k v d).1[i]? = some p → (0 ≤ p.1 ∧ p.1 < v + (i : Int)) ∧ 0 < p.2 ∧ p.2 ≤ longest
  | 0, _, _, _, _, _, h => by simp [smlG] at h
  | k + 1, v, d, v0, 0, p, h => by
    simp [smlG] at h
    subst h
    have := Int.emod_nonneg d (show v ≠ 0 by omega)
    have := Int.emod_lt_of_pos d v0
    have := Int.emod_nonneg (d / v) (show longest ≠ 0 by omega)
    have := Int.emod_lt_of_pos (d / v) hL.1
    simp only
    omega
  | k + 1, v, d, v0, i + 1, p, h => by
    have := smlG_at hL k (v + 1) (d / v / longest) (by omega) i p (by simpa [smlG] using h)
    push_cast
    omega
theorem smlG_ok {longest : Int} {k : Nat} {d : Int} (hL : 0 < longest ∧ longest < 100) (hk : k < 20) : okR (smlG longest k 1 d).1 ∧ ((smlG longest k 1 d).1.map (·.2)).sum ≤ longest * k := by
  refine ⟨⟨by rw [smlG_len]; omega, fun i p h => ?_⟩, ?_⟩
  · have := smlG_at hL k 1 d (by omega) i p h
    omega
  · have key : ∀ (xs : List (Int × Int)), (∀ p ∈ xs, p.2 ≤ longest) → (xs.map (·.2)).sum ≤ longest * xs.length := by
      intro xs
      induction xs with
      | nil => intro _; simp
      | cons x xs ih =>
        intro h
        have h1 := h x (by simp)
        have h2 := ih fun p hp => h p (by simp [hp])
        rw [List.map_cons, List.sum_cons, List.length_cons]
        push_cast
        rw [Int.mul_add]
        omega
    have := key (smlG longest k 1 d).1 fun p hp => by
      obtain ⟨i, hi⟩ := List.getElem?_of_mem hp
      exact (smlG_at hL k 1 d (by omega) i p hi).2.2
    rwa [smlG_len] at this
theorem smlM_ok {d least : Int} (h : 0 ≤ least ∧ least < 7) : okR (smlM d least).1 ∧ ((smlM d least).1.map (·.2)).sum < 1000 ∧ least ≤ (smlM d least).1.length := by
  unfold smlM
  simp only []
  have a0 := Int.emod_nonneg (d / 8) (show 7 - least ≠ 0 by omega)
  have a1 := Int.emod_lt_of_pos (d / 8) (show 0 < 7 - least by omega)
  have b0 := Int.emod_nonneg (d / 8 / (7 - least)) (show (3 : Int) ≠ 0 by omega)
  have b1 := Int.emod_lt_of_pos (d / 8 / (7 - least)) (show (0 : Int) < 3 by omega)
  split
  · have := smlG_ok (longest := 3) (k := 9) (d := d / 8 / (7 - least)) (by omega) (by omega)
    refine ⟨this.1, by omega, by rw [smlG_len]; omega⟩
  · split
    · obtain ⟨n, hn⟩ : ∃ n : Nat, (if 1 + d / 8 / (7 - least) % 3 > least then 1 + d / 8 / (7 - least) % 3 else least) = n ∧ n < 8 ∧ least ≤ n := ⟨(if 1 + d / 8 / (7 - least) % 3 > least then 1 + d / 8 / (7 - least) % 3 else least).toNat, by split <;> omega, by split <;> omega, by split <;> omega⟩
      rw [hn.1, Int.toNat_natCast]
      have := smlG_ok (longest := 30) (k := n) (d := d / 8 / (7 - least) / 3) (by omega) (by omega)
      refine ⟨this.1, by omega, by rw [smlG_len]; omega⟩
    · obtain ⟨n, hn⟩ : ∃ n : Nat, least + d / 8 % (7 - least) = n := ⟨(least + d / 8 % (7 - least)).toNat, by omega⟩
      rw [hn, Int.toNat_natCast]
      have := smlG_ok (longest := 6) (k := n) (d := d / 8 / (7 - least)) (by omega) (by omega)
      refine ⟨this.1, by omega, by rw [smlG_len]; omega⟩
theorem hm_law_small : ∀ ds st0, ds.length = 2 → wfS st0 → wfD.wfDs st0.length ds → Fin st0.length (retR (m_law_small (startE 6 ds) st0)) (F_law_small ds st0) := by
  intro ds st0 hl hw hd
  unfold F_law_small
  split
  · split
    · split
      · rename_i a least _ d h1 c
        have la := rdL_lt (rdI_some h1)
        have a0 := Int.emod_nonneg (d / 8) (show 7 - least ≠ 0 by omega)
        have a1 := Int.emod_lt_of_pos (d / 8) (show 0 < 7 - least by omega)
        have f1 := pick_eq (st := st0) h1 (m := 8) (by omega) (by omega)
        have f2 := pick_eq (st := put1 st0 a (d / 8)) (m := 7 - least) (rdI_put1 la) (by omega) (by omega)
        rw [put1_put1] at f2
        obtain ⟨md, hmd⟩ : ∃ x, d % 8 = x := ⟨_, rfl⟩
        obtain ⟨e, he⟩ : ∃ x, d / 8 = x := ⟨_, rfl⟩
        rw [hmd, he] at f1
        rw [he] at f2 a0 a1
        obtain ⟨f, hf⟩ : ∃ x, e / (7 - least) = x := ⟨_, rfl⟩
        obtain ⟨u, hu⟩ : ∃ x, e % (7 - least) = x := ⟨_, rfl⟩
        rw [hf, hu] at f2
        rw [hu] at a0 a1
        have sm : smlM d least = (if md = 6 then smlG 3 9 1 f else if md = 7 then smlG 30 (if 1 + f % 3 > least then 1 + f % 3 else least).toNat 1 (f / 3) else smlG 6 (least + u).toNat 1 f) := by
          unfold smlM
          simp only [hmd, he, hf, hu]
        rw [sm]
        have fin : ∀ d' (xs : List (Int × Int)), Fin st0.length (.ok (.ref st0.length) (put1 st0 a d' ++ [.lst (xs.map prD)])) (.ok (.ref st0.length) (put1 st0 a d' ++ [.lst (xs.map prD)])) := fun d' xs =>
          fin_new (m := 0) (g := [.lst (xs.map prD)]) (by simp [put1]) rfl (wfN_put1 (wfS_N hw)) wf_prs rfl rfl
        have f3 := pick_eq (st := put1 st0 a f) (m := 3) (rdI_put1 la) (by omega) (by omega)
        rw [put1_put1] at f3
        have b0 := Int.emod_nonneg f (show (3 : Int) ≠ 0 by omega)
        have b1 := Int.emod_lt_of_pos f (show (0 : Int) < 3 by omega)
        by_cases c6 : md = 6
        · rw [if_pos c6]
          have lc := lc_small (x1 := some (.int least)) (x2 := some (.int md)) (x3 := some (.int 9)) (x5 := none) (longest := 3) la (by omega) 9 1 f [] (by omega) (by omega)
          have e : retR (m_law_small (startE 6 [.ref a, .int least]) st0) = .ok (.ref st0.length) (put1 st0 a (smlG 3 9 1 f).2 ++ [.lst ((smlG 3 9 1 f).1.map prD)]) := by
            have rr : (rng 1 9).length ≤ 100000 := by rw [rng_len]; omega
            have k1 : fEq (.int md) (.int 6) (put1 st0 a f) = some (.bl true, put1 st0 a f) := by simp [fEq, c6]
            have k2 : fEq (.int md) (.int 7) (put1 st0 a f) = some (.bl false, put1 st0 a f) := by simp [fEq, c6]
            simp -implicitDefEqProofs [m_law_small, startE, f1, f2, k1, k2, lc, rr, -List.length_set, put_len]
          rw [e]
          exact fin _ _
        · rw [if_neg c6]
          have k1 : fEq (.int md) (.int 6) (put1 st0 a f) = some (.bl false, put1 st0 a f) := by simp [fEq, c6]
          by_cases c7 : md = 7
          · rw [if_pos c7]
            have k2 : fEq (.int md) (.int 7) (put1 st0 a f) = some (.bl true, put1 st0 a f) := by simp [fEq, c7]
            obtain ⟨n, hn⟩ : ∃ n : Int, (if 1 + f % 3 > least then 1 + f % 3 else least) = n ∧ 0 ≤ n ∧ n < 8 := ⟨_, rfl, by split <;> omega, by split <;> omega⟩
            obtain ⟨hn, n0, n1⟩ := hn
            rw [hn]
            have lc := lc_small (x1 := some (.int least)) (x2 := some (.int md)) (x3 := some (.int n)) (x5 := none) (longest := 30) la (by omega) n.toNat 1 (f / 3) [] (by omega) (by omega)
            have rr : (rng 1 n.toNat).length ≤ 100000 := by rw [rng_len]; omega
            have bb : n + 1 < 4611686018427387904 ∧ -4611686018427387904 ≤ n + 1 := by omega
            have e : retR (m_law_small (startE 6 [.ref a, .int least]) st0) = .ok (.ref st0.length) (put1 st0 a (smlG 30 n.toNat 1 (f / 3)).2 ++ [.lst ((smlG 30 n.toNat 1 (f / 3)).1.map prD)]) := by
              simp -implicitDefEqProofs [m_law_small, startE, f1, f2, k1, k2, f3, hn, bb, lc, rr, -List.length_set, put_len]
            rw [e]
            exact fin _ _
          · rw [if_neg c7]
            have k2 : fEq (.int md) (.int 7) (put1 st0 a f) = some (.bl false, put1 st0 a f) := by simp [fEq, c7]
            obtain ⟨n, hn, n0, n1⟩ : ∃ n : Int, least + u = n ∧ 0 ≤ n ∧ n < 8 := ⟨_, rfl, by omega, by omega⟩
            rw [hn]
            have lc := lc_small (x1 := some (.int least)) (x2 := some (.int md)) (x3 := some (.int n)) (x5 := none) (longest := 6) la (by omega) n.toNat 1 f [] (by omega) (by omega)
            have rr : (rng 1 n.toNat).length ≤ 100000 := by rw [rng_len]; omega
            have bb : n + 1 < 4611686018427387904 ∧ -4611686018427387904 ≤ n + 1 := by omega
            have e : retR (m_law_small (startE 6 [.ref a, .int least]) st0) = .ok (.ref st0.length) (put1 st0 a (smlG 6 n.toNat 1 f).2 ++ [.lst ((smlG 6 n.toNat 1 f).1.map prD)]) := by
              simp -implicitDefEqProofs [m_law_small, startE, f1, f2, k1, k2, hn, bb, lc, rr, -List.length_set, put_len]
            rw [e]
            exact fin _ _
      · exact fin_bad
    · exact fin_bad
  · exact fin_bad
end Lw
set_option maxRecDepth 100000
set_option maxHeartbeats 4000000
namespace Lw
open PySem PySem.Spec PyProof.Rows L2 Dn
theorem renO_prs {ρ : Nat → Nat} {xs : List (Int × Int)} : renO ρ (.lst (xs.map prD)) = .lst (xs.map prD) := renO_id (N := 0) _ (show wfO 0 (.lst (xs.map prD)) from wf_prs) fun n h => by omega
theorem ptI_len {v len : Int} : ∀ {m : Nat} {k last : Int} {P : List (Int × Int)} {A : List Int}, (ptI v len m k last P A).1.length = P.length + m ∧ (ptI v len m k last P A).2.1.length = A.length + m
  | 0, _, _, _, _ => ⟨rfl, rfl⟩
  | m + 1, k, last, P, A => by
    have := ptI_len (v := v) (len := len) (m := m) (k := k + 1) (last := (P.length : Int)) (P := P ++ [(v, len - 1 - k)]) (A := A ++ [last])
    simp only [ptI]
    simp only [List.length_append, List.length_cons, List.length_nil] at this
    omega
theorem points_in {r p a n : Nat} {v par len : Int} {rs : List (Int × Int)} {st0 : Sto} {N : List Int} (hr : rdL st0 r = some (rs.map prD)) (hv : atI (rs.map prD) (v - 1) = some (prD (par, len))) : ∀ (m : Nat) (k last : Int) (P : List (Int × Int)) (A : List Int) (z6 : Option D) (s : Sto), P.length + m < 95000 → A.length + m < 95000 →
    HS st0 s [(n, .lst (N.map .int)), (a, .lst (A.map .int)), (p, .lst (P.map prD))] →
    ∃ z6' s', forS [] (gN 6) b_law_points_1 (rng k m) [some (.ref r), some (.ref p), some (.ref a), some (.ref n), some (.int v), some (.int last), z6] s = .nx [some (.ref r), some (.ref p), some (.ref a), some (.ref n), some (.int v), some (.int (ptI v len m k last P A).2.2), z6'] s' ∧
      HS st0 s' [(n, .lst (N.map .int)), (a, .lst ((ptI v len m k last P A).2.1.map .int)), (p, .lst ((ptI v len m k last P A).1.map prD))] := by
  intro m
  induction m with
  | zero => intro k last P A z6 s _ _ H; exact ⟨z6, s, by rw [rng_nil, for_nil0]; rfl, H⟩
  | succ m ih =>
    intro k last P A z6 s h1 h2 H
    have rr := H.old hr
    have rp := H.rd 2 rfl
    obtain ⟨s1, e1, H1⟩ := g_set H 2 rfl (.lst ((P ++ [(v, len - 1 - k)]).map prD))
    have ra := H1.rd 1 rfl
    obtain ⟨s2, e2, H2⟩ := g_set H1 1 rfl (.lst ((A ++ [last]).map .int))
    have rp2 := H2.rd 2 rfl
    obtain ⟨z, s', e, H'⟩ := ih (k + 1) (P.length : Int) (P ++ [(v, len - 1 - k)]) (A ++ [last]) (some (.int k)) s2 (by simp; omega) (by simp; omega) H2
    refine ⟨z, s', ?_, H'⟩
    rw [rng_cons, for_cons0]
    simp only [ev_gN, List.set_cons_succ, List.set_cons_zero]
    have pp : (P ++ [(v, len - 1 - k)]).map prD = P.map prD ++ [prD (v, len - 1 - k)] := by simp
    have aa : (A ++ [last]).map D.int = A.map D.int ++ [.int last] := by simp
    rw [pp] at e1
    rw [aa] at e2
    have l1 : P.length < 100000 := by omega
    have l2 : A.length < 100000 := by omega
    have p0 : prD (v, len - 1 - k) = .tup [.int v, .int (len - 1 - k)] := rfl
    have p1 : prD (par, len) = .tup [.int par, .int len] := rfl
    rw [p0] at e1
    rw [p1] at hv
    have step : b_law_points_1 [some (.ref r), some (.ref p), some (.ref a), some (.ref n), some (.int v), some (.int last), some (.int k)] s = .nx [some (.ref r), some (.ref p), some (.ref a), some (.ref n), some (.int v), some (.int P.length), some (.int k)] s2 := by
      simp -implicitDefEqProofs [b_law_points_1, rr, hv, rp, l1, e1, ra, l2, e2, rp2, -List.map_append]
    rw [step, loopS_nx, e]
    rfl
theorem ptA_len : ∀ {r : List (Int × Int)} {v : Int} {b : Pb}, (∀ x ∈ r, 0 < x.2) → ((ptA v r b).pts.length : Int) = b.pts.length + (r.map (·.2)).sum ∧ ((ptA v r b).abv.length : Int) = b.abv.length + (r.map (·.2)).sum ∧ (ptA v r b).nds.length = b.nds.length + r.length
  | [], _, b, _ => by simp [ptA]
  | (par, len) :: r, v, b, h => by
    have hl := h (par, len) (by simp)
    have i := ptI_len (v := v) (len := len) (m := len.toNat) (k := 0) (last := gI b.nds par) (P := b.pts) (A := b.abv)
    have := ptA_len (r := r) (v := v + 1) (b := ⟨(ptI v len len.toNat 0 (gI b.nds par) b.pts b.abv).1, (ptI v len len.toNat 0 (gI b.nds par) b.pts b.abv).2.1, b.nds ++ [(ptI v len len.toNat 0 (gI b.nds par) b.pts b.abv).2.2]⟩) (fun x hx => h x (by simp [hx]))
    simp only [ptA, List.map_cons, List.sum_cons, List.length_cons]
    simp only [List.length_append, List.length_cons, List.length_nil] at this hl
    omega
theorem points_out {r p a n : Nat} {rs : List (Int × Int)} {st0 : Sto} (cR : okR rs) (hr : rdL st0 r = some (rs.map prD)) : ∀ (q : List (Int × Int)) (v : Nat) (b : Pb) (z4 z5 z6 : Option D) (s : Sto), rs.drop (v - 1) = q → 0 < v → v + q.length = rs.length + 1 → b.nds.length = v → (b.pts.length : Int) + (q.map (·.2)).sum < 95000 → b.abv.length = b.pts.length →
    HS st0 s [(n, .lst (b.nds.map .int)), (a, .lst (b.abv.map .int)), (p, .lst (b.pts.map prD))] →
    ∃ z4' z5' z6' s', forS [] (gN 4) b_law_points_2 (rng v q.length) [some (.ref r), some (.ref p), some (.ref a), some (.ref n), z4, z5, z6] s = .nx [some (.ref r), some (.ref p), some (.ref a), some (.ref n), z4', z5', z6'] s' ∧
      HS st0 s' [(n, .lst ((ptA v q b).nds.map .int)), (a, .lst ((ptA v q b).abv.map .int)), (p, .lst ((ptA v q b).pts.map prD))] := by
  intro q
  induction q with
  | nil => intro v b z4 z5 z6 s _ _ _ _ _ _ H; exact ⟨z4, z5, z6, s, by rw [List.length_nil, rng_nil, for_nil0], H⟩
  | cons x q ih =>
    intro v b z4 z5 z6 s hd v0 hv hn hs hab H
    obtain ⟨par, len⟩ := x
    have vi : v - 1 < rs.length := by simp at hv; omega
    have gx : rs[v - 1]? = some (par, len) := by
      have : (rs.drop (v - 1))[0]? = some (par, len) := by rw [hd]; rfl
      rw [List.getElem?_drop] at this
      simpa using this
    have ok := cR.2 (v - 1) _ gx
    simp only at ok
    have hat : atI (rs.map prD) ((v : Int) - 1) = some (prD (par, len)) := by
      refine atI_nat' (by omega) ?_
      rw [show ((v : Int) - 1).toNat = v - 1 by omega, List.getElem?_map, gx]
      rfl
    have sumq : 0 ≤ (q.map (·.2)).sum := by
      have : ∀ (q : List (Int × Int)), (∀ x ∈ q, 0 < x.2) → 0 ≤ (q.map (·.2)).sum := by
        intro q
        induction q with
        | nil => intro _; simp
        | cons y q ih =>
          intro h
          have := h y (by simp)
          have := ih fun z hz => h z (by simp [hz])
          simp only [List.map_cons, List.sum_cons]
          omega
      refine this q fun y hy => ?_
      have : y ∈ rs := List.mem_of_mem_drop (hd ▸ List.mem_cons_of_mem _ hy)
      obtain ⟨i, hi⟩ := List.getElem?_of_mem this
      exact (cR.2 i y hi).2.1
    simp only [List.map_cons, List.sum_cons] at hs
    have rr := H.old hr
    have rn := H.rd 0 rfl
    have gn : atI (b.nds.map D.int) par = some (.int (gI b.nds par)) := by
      refine atI_nat' ok.1.1 ?_
      have : par.toNat < b.nds.length := by omega
      simp [gI, this]
    obtain ⟨y6, s1, e1, H1⟩ := points_in (N := b.nds) hr hat len.toNat 0 (gI b.nds par) b.pts b.abv z6 s (by omega) (by omega) H
    have rn1 := H1.rd 0 rfl
    obtain ⟨s2, e2, H2⟩ := g_set H1 0 rfl (.lst ((b.nds ++ [(ptI v len len.toNat 0 (gI b.nds par) b.pts b.abv).2.2]).map .int))
    have il := ptI_len (v := v) (len := len) (m := len.toNat) (k := 0) (last := gI b.nds par) (P := b.pts) (A := b.abv)
    obtain ⟨y4, y5, y6', s', e, H'⟩ := ih (v + 1) ⟨(ptI v len len.toNat 0 (gI b.nds par) b.pts b.abv).1, (ptI v len len.toNat 0 (gI b.nds par) b.pts b.abv).2.1, b.nds ++ [(ptI v len len.toNat 0 (gI b.nds par) b.pts b.abv).2.2]⟩ (some (.int v)) (some (.int (ptI v len len.toNat 0 (gI b.nds par) b.pts b.abv).2.2)) y6 s2
      (by rw [show v + 1 - 1 = v - 1 + 1 by omega, ← List.drop_drop, hd]; rfl) (by omega) (by simp at hv ⊢; omega) (by simp [hn]) (by simp only [il.1]; push_cast; omega) (by simp only [il.1, il.2]; omega) H2
    refine ⟨y4, y5, y6', s', ?_, H'⟩
    rw [List.length_cons, rng_cons, for_cons0]
    simp only [ev_gN, List.set_cons_succ, List.set_cons_zero]
    obtain ⟨LL, hLL⟩ : ∃ x, (ptI v len len.toNat 0 (gI b.nds par) b.pts b.abv).2.2 = x := ⟨_, rfl⟩
    rw [hLL] at e1 e2 e
    have nn : (b.nds ++ [LL]).map D.int = b.nds.map D.int ++ [.int LL] := by simp
    rw [nn] at e2
    have l3 : b.nds.length < 100000 := by have := cR.1; omega
    have p1 : prD (par, len) = .tup [.int par, .int len] := rfl
    rw [p1] at hat
    have bb : -4611686018427387904 ≤ len ∧ len < 4611686018427387904 := by omega
    have step : b_law_points_2 [some (.ref r), some (.ref p), some (.ref a), some (.ref n), some (.int v), z5, z6] s = .nx [some (.ref r), some (.ref p), some (.ref a), some (.ref n), some (.int v), some (.int LL), y6] s2 := by
      simp -implicitDefEqProofs [b_law_points_2, rr, hat, rn, gn, bb, e1, rn1, l3, e2, -List.map_append]
    rw [step, loopS_nx]
    push_cast at e
    exact e
theorem hm_law_points : ∀ ds st0, ds.length = 1 → wfS st0 → wfD.wfDs st0.length ds → Fin st0.length (retR (m_law_points (startE 7 ds) st0)) (F_law_points ds st0) := by
  intro ds st0 hl hw hd
  unfold F_law_points
  split
  · split
    · split
      · rename_i r _ rs hr cond
        have hr := rdR_some hr
        obtain ⟨cR, hsum⟩ := cond
        obtain ⟨s1, p, e1, e1', H1⟩ := g_new (HS.nil st0) (.lst ([((0 : Int), (0 : Int))].map prD))
        obtain ⟨s2, a, e2, e2', H2⟩ := g_new H1 (.lst ([(0 : Int)].map .int))
        obtain ⟨s3, n, e3, e3', H3⟩ := g_new H2 (.lst ([(0 : Int)].map .int))
        obtain ⟨z4, z5, z6, s4, e4, H4⟩ := points_out cR hr rs 1 ⟨[(0, 0)], [0], [0]⟩ none none none s3 rfl (by omega) (by omega) rfl (by simp; omega) rfl H3
        rw [show ((1 : Nat) : Int) = 1 from rfl] at e4 H4
        have rr := H3.old hr
        have bb : -4611686018427387904 ≤ (rs.length : Int) + 1 ∧ (rs.length : Int) + 1 < 4611686018427387904 := by have := cR.1; omega
        have rt : ((rs.length : Int) + 1 - 1).toNat = rs.length := by omega
        have p0 : ([((0 : Int), (0 : Int))].map prD) = [D.tup [.int 0, .int 0]] := rfl
        have p1 : ([(0 : Int)].map D.int) = [D.int 0] := rfl
        rw [p0] at e1
        rw [p1] at e2 e3
        have e : retR (m_law_points (startE 7 [.ref r]) st0) = .ok (.tup [.ref p, .ref a]) s4 := by
          simp -implicitDefEqProofs [m_law_points, startE, e1, e1', e2, e2', e3, e3', rr, bb, rt, e4]
        rw [e]
        have H4 : HS st0 s4 [(n, .lst ((ptB rs).nds.map .int)), (a, .lst ((ptB rs).abv.map .int)), (p, .lst ((ptB rs).pts.map prD))] := H4
        have nd := H4.nod
        simp only [List.map_cons, List.map_nil, List.nodup_cons, List.mem_cons, List.not_mem_nil, or_false, not_or] at nd
        refine fin_many (as := [p, a, n]) hw H4.ext rfl (by simp only [List.nodup_cons, List.mem_cons, List.not_mem_nil, or_false, not_or]; exact ⟨⟨Ne.symm nd.2.1, Ne.symm nd.1.2⟩, Ne.symm nd.1.1, not_false, List.nodup_nil⟩) (fun x hx => ?_) (fun i o x h1 h2 => ?_) ?_ ?_
        · simp only [List.mem_cons, List.not_mem_nil, or_false] at hx
          rcases hx with rfl | rfl | rfl
          · exact H4.ge 2 rfl
          · exact H4.ge 1 rfl
          · exact H4.ge 0 rfl
        · match i, h1, h2 with
          | 0, h1, h2 => cases h1; cases h2; exact ⟨by rw [renO_prs]; exact H4.get 2 rfl, wf_prs⟩
          | 1, h1, h2 => cases h1; cases h2; exact ⟨by rw [renO_ints]; exact H4.get 1 rfl, wf_ints⟩
          | 2, h1, h2 => cases h1; cases h2; exact ⟨by rw [renO_ints]; exact H4.get 0 rfl, wf_ints⟩
        · have a0 := mvL_at (b := st0.length) (as := [p, a, n]) (i := 0)
          have a1 := mvL_at (b := st0.length) (as := [p, a, n]) (i := 1)
          simp only [Nat.add_zero] at a0
          simp [renD, renD.renDs, a0, a1]
        · simp [wfD, wfD.wfDs]
      · exact fin_bad
    · exact fin_bad
  · exact fin_bad
end Lw
set_option maxRecDepth 100000
set_option maxHeartbeats 4000000
namespace Lw
open PySem PySem.Spec PyProof.Rows L2 Dn
section
variable {ab : List Int}
theorem tA_fuel (ok : okA ab) : ∀ (n f f' p q : Nat), p + q ≤ n → n < f → n < f' → p < ab.length → q < ab.length → tA ab f p q = tA ab f' p q := by
  intro n
  induction n with
  | zero =>
    intro f f' p q h1 h2 h3 _ _
    obtain ⟨f, rfl⟩ : ∃ k, f = k + 1 := ⟨f - 1, by omega⟩
    obtain ⟨f', rfl⟩ : ∃ k, f' = k + 1 := ⟨f' - 1, by omega⟩
    have : p = q := by omega
    simp only [tA, if_pos this]
  | succ n ih =>
    intro f f' p q h1 h2 h3 hp hq
    obtain ⟨f, rfl⟩ : ∃ k, f = k + 1 := ⟨f - 1, by omega⟩
    obtain ⟨f', rfl⟩ : ∃ k, f' = k + 1 := ⟨f' - 1, by omega⟩
    simp only [tA]
    by_cases c : p = q
    · rw [if_pos c, if_pos c]
    · rw [if_neg c, if_neg c]
      by_cases d : q < p
      · have o := ok.2.2 p (by omega) hp
        rw [if_pos d, if_pos d, ih f f' (gI ab p).toNat q (by omega) (by omega) (by omega) (by omega) hq]
      · have o := ok.2.2 q (by omega) hq
        rw [if_neg d, if_neg d, ih f f' (gI ab q).toNat p (by omega) (by omega) (by omega) (by omega) hp]
theorem tV_self {p : Nat} : tV ab p p = 0 := by
  unfold tV
  simp [tA]
theorem tV_sym (ok : okA ab) {p q : Nat} : tV ab p q = tV ab q p := by
  unfold tV
  rw [Nat.add_comm q p]
  simp only [tA]
  by_cases c : p = q
  · rw [if_pos c, if_pos c.symm]
  · rw [if_neg c, if_neg (Ne.symm c)]
    by_cases d : q < p
    · rw [if_pos d, if_neg (by omega)]
    · rw [if_neg d, if_pos (by omega)]
theorem tV_rec (ok : okA ab) {p q : Nat} (h : q < p) (hp : p < ab.length) : tV ab p q = tV ab (gI ab p).toNat q + 1 := by
  have o := ok.2.2 p (by omega) hp
  have e : tV ab p q = tA ab (p + q) (gI ab p).toNat q + 1 := by
    unfold tV
    simp only [tA]
    rw [if_neg (by omega), if_pos h]
  rw [e]
  unfold tV
  rw [tA_fuel ok ((gI ab p).toNat + q) (p + q) ((gI ab p).toNat + q + 1) _ _ (Nat.le_refl _) (by omega) (by omega) (by omega) (by omega)]
theorem tRow_len {n p : Nat} : (tRow ab n p).length = n := by simp [tRow]
theorem tRow_get {n p q : Nat} (h : q < n) : (tRow ab n p)[q]? = some (tV ab p q) := by
  unfold tRow
  rw [List.getElem?_map, List.getElem?_range h]
  rfl
theorem tRow_snoc {n p : Nat} : tRow ab (n + 1) p = tRow ab n p ++ [tV ab p n] := by
  unfold tRow
  rw [List.range_succ, List.map_append]
  rfl
def tEnt (ab : List Int) (as : List Nat) (f : Nat → Nat) : List (Nat × Ob) := (List.range as.length).map fun i => (as[i]?.getD 0, .lst ((tRow ab (f i) i).map .int))
theorem tEnt_get {as : List Nat} {f : Nat → Nat} {i x : Nat} (h : as[i]? = some x) : (tEnt ab as f)[i]? = some (x, .lst ((tRow ab (f i) i).map .int)) := by
  have hi := (List.getElem?_eq_some_iff.mp h).1
  unfold tEnt
  rw [List.getElem?_map, List.getElem?_range hi, Option.map_some, h]
  rfl
theorem tEnt_set {as : List Nat} {f : Nat → Nat} {q x m : Nat} (h : as[q]? = some x) : (tEnt ab as f).set q (x, .lst ((tRow ab m q).map .int)) = tEnt ab as (fun i => if i = q then m else f i) := by
  apply List.ext_getElem?
  intro j
  have hq := (List.getElem?_eq_some_iff.mp h).1
  rw [List.getElem?_set]
  by_cases c : q = j
  · subst c
    rw [if_pos rfl, if_pos (by simp [tEnt, hq]), tEnt_get h, if_pos rfl]
  · rw [if_neg c]
    by_cases d : j < as.length
    · have g : as[j]? = some as[j] := List.getElem?_eq_getElem d
      rw [tEnt_get g, tEnt_get g, if_neg (Ne.symm c)]
    · rw [List.getElem?_eq_none (by simp [tEnt]; omega), List.getElem?_eq_none (by simp [tEnt]; omega)]
theorem tEnt_snoc {as : List Nat} {n x : Nat} : tEnt ab (as ++ [x]) (fun _ => n) = tEnt ab as (fun _ => n) ++ [(x, .lst ((tRow ab n as.length).map .int))] := by
  unfold tEnt
  rw [List.length_append, List.length_cons, List.length_nil, Nat.zero_add, List.range_succ, List.map_append]
  congr 1
  · apply List.map_congr_left
    intro i hi
    have := List.mem_range.mp hi
    rw [List.getElem?_append_left this]
  · simp
theorem table_in {a tb x p : Nat} {as : List Nat} {st0 : Sto} (ok : okA ab) (hp : p < ab.length) (hl : as.length = p) : ∀ (k q : Nat) (z4 z5 : Option D) (s : Sto), q + k = p →
    HS st0 s ((x, .lst ((tRow ab p p).map .int)) :: (tb, .lst (as.map .ref)) :: tEnt ab as (fun i => if i < q then p + 1 else p)) →
    ∃ z4' z5' s', forS [] (gN 4) b_law_table_1 (rng q k) [some (.ref a), some (.ref tb), some (.int p), some (.ref x), z4, z5] s = .nx [some (.ref a), some (.ref tb), some (.int p), some (.ref x), z4', z5'] s' ∧
      HS st0 s' ((x, .lst ((tRow ab p p).map .int)) :: (tb, .lst (as.map .ref)) :: tEnt ab as (fun i => if i < p then p + 1 else p)) := by
  intro k
  induction k with
  | zero =>
    intro q z4 z5 s hq H
    have : q = p := by omega
    subst this
    exact ⟨z4, z5, s, by rw [rng_nil, for_nil0], H⟩
  | succ k ih =>
    intro q z4 z5 s hq H
    have hqp : q < p := by omega
    have g : as[q]? = some (as[q]'(by omega)) := List.getElem?_eq_getElem _
    obtain ⟨y, hy⟩ : ∃ y, as[q]'(by omega) = y := ⟨_, rfl⟩
    rw [hy] at g
    have te := tEnt_get (ab := ab) (f := fun i => if i < q then p + 1 else p) g
    simp only [Nat.lt_irrefl, if_false] at te
    have rt := H.rd 1 rfl
    have rx := H.rd 0 rfl
    have ry := H.rd (q + 2) (a := y) te
    obtain ⟨s1, e1, H1⟩ := g_set H (q + 2) (a := y) te (.lst ((tRow ab (p + 1) q).map .int))
    rw [List.set_cons_succ, List.set_cons_succ, tEnt_set g] at H1
    have ff : (fun i => if i = q then p + 1 else if i < q then p + 1 else p) = (fun i => if i < q + 1 then p + 1 else p) := by
      funext i
      by_cases c : i = q
      · rw [if_pos c, if_pos (by omega)]
      · rw [if_neg c]
        by_cases d : i < q
        · rw [if_pos d, if_pos (by omega)]
        · rw [if_neg d, if_neg (by omega)]
    rw [ff] at H1
    obtain ⟨w4, w5, s', e, H'⟩ := ih (q + 1) (some (.int q)) (some (.ref y)) s1 (by omega) H1
    refine ⟨w4, w5, s', ?_, H'⟩
    rw [rng_cons, for_cons0]
    simp only [ev_gN, List.set_cons_succ, List.set_cons_zero]
    have a1 : atI (as.map D.ref) (q : Int) = some (.ref y) := atI_nat' (by omega) (by simp [g])
    have a2 : atI ((tRow ab p p).map D.int) (q : Int) = some (.int (tV ab p q)) := atI_nat' (by omega) (by rw [List.getElem?_map]; simp [tRow_get hqp])
    have sn : (tRow ab (p + 1) q).map D.int = (tRow ab p q).map D.int ++ [.int (tV ab p q)] := by rw [tRow_snoc, List.map_append, tV_sym ok]; rfl
    rw [sn] at e1
    have ll : (tRow ab p q).length < 100000 := by rw [tRow_len]; have := ok.2.1; omega
    have step : b_law_table_1 [some (.ref a), some (.ref tb), some (.int p), some (.ref x), some (.int q), z5] s = .nx [some (.ref a), some (.ref tb), some (.int p), some (.ref x), some (.int q), some (.ref y)] s1 := by
      simp -implicitDefEqProofs [b_law_table_1, rt, a1, rx, a2, ry, ll, e1, -List.map_append]
    rw [step, loopS_nx]
    push_cast at e
    exact e
theorem table_out {a tb : Nat} {st0 : Sto} (ok : okA ab) (ha : rdL st0 a = some (ab.map .int)) : ∀ (k p : Nat) (as : List Nat) (z2 z3 z4 z5 : Option D) (s : Sto), p + k = ab.length → 0 < p → as.length = p →
    HS st0 s ((tb, .lst (as.map .ref)) :: tEnt ab as (fun _ => p)) →
    ∃ as' z2' z3' z4' z5' s', forS [] (gN 2) b_law_table_2 (rng p k) [some (.ref a), some (.ref tb), z2, z3, z4, z5] s = .nx [some (.ref a), some (.ref tb), z2', z3', z4', z5'] s' ∧ as'.length = ab.length ∧
      HS st0 s' ((tb, .lst (as'.map .ref)) :: tEnt ab as' (fun _ => ab.length)) := by
  intro k
  induction k with
  | zero =>
    intro p as z2 z3 z4 z5 s hk _ hl H
    have : p = ab.length := by omega
    subst this
    exact ⟨as, z2, z3, z4, z5, s, by rw [rng_nil, for_nil0], hl, H⟩
  | succ k ih =>
    intro p as z2 z3 z4 z5 s hk p0 hl H
    have hp : p < ab.length := by omega
    have o := ok.2.2 p p0 hp
    have g : as[(gI ab p).toNat]? = some (as[(gI ab p).toNat]'(by omega)) := List.getElem?_eq_getElem _
    obtain ⟨y, hy⟩ : ∃ y, as[(gI ab p).toNat]'(by omega) = y := ⟨_, rfl⟩
    rw [hy] at g
    have te := tEnt_get (ab := ab) (f := fun _ => p) g
    have rt := H.rd 0 rfl
    have ry := H.rd ((gI ab p).toNat + 1) (a := y) te
    have rab := H.old ha
    have aab : atI (ab.map D.int) (p : Int) = some (.int (gI ab p)) := atI_nat' (by omega) (by simp [gI, hp])
    have aas : atI (as.map D.ref) (gI ab p) = some (.ref y) := atI_nat' o.1 (by simp [g])
    have lc : lcS [] [4] (gN 4) mYes (mOp fAdd (mOp fIdx (mOp fIdx (mVar 1) (mOp fIdx (mVar 0) (mVar 2))) (mVar 4)) (mC (.int 1))) [some (.ref a), some (.ref tb), some (.int p), z3, z4, z5] (rng 0 p) [] s = .ok ((tRow ab p p).map .int) s := by
      rw [lc_map (fun d => match d with | .int i => .int (tV ab p i.toNat) | _ => .non) stays_nil]
      · congr 1
        unfold rng tRow
        simp
      · intro d hd
        obtain ⟨i, rfl, i0, i1⟩ := mem_rng hd
        have hi : i.toNat < p := by omega
        have ai : atI ((tRow ab p (gI ab p).toNat).map D.int) i = some (.int (tV ab (gI ab p).toNat i.toNat)) := atI_nat' i0 (by rw [List.getElem?_map, tRow_get hi]; rfl)
        refine ⟨_, rfl, ?_⟩
        simp [wipeE, rab, aab, rt, aas, ry, ai, tV_rec ok hi hp]
    obtain ⟨s1, x, e1, e1', H1⟩ := g_new H (.lst ((tRow ab p p).map .int))
    have H1' : HS st0 s1 ((x, .lst ((tRow ab p p).map .int)) :: (tb, .lst (as.map .ref)) :: tEnt ab as (fun i => if i < 0 then p + 1 else p)) := by
      simpa using H1
    obtain ⟨w4, w5, s2, e2, H2⟩ := table_in (a := a) ok hp hl p 0 z4 z5 s1 (by omega) H1'
    have rx := H2.rd 0 rfl
    obtain ⟨s3, e3, H3⟩ := g_set H2 0 rfl (.lst ((tRow ab (p + 1) p).map .int))
    have rt3 := H3.rd 1 rfl
    obtain ⟨s4, e4, H4⟩ := g_set H3 1 rfl (.lst ((as ++ [x]).map .ref))
    have pe : HS st0 s4 ((tb, .lst ((as ++ [x]).map .ref)) :: tEnt ab (as ++ [x]) (fun _ => p + 1)) := by
      have fe : tEnt ab as (fun i => if i < p then p + 1 else p) = tEnt ab as (fun _ => p + 1) := by
        unfold tEnt
        apply List.map_congr_left
        intro i hi
        have := List.mem_range.mp hi
        have e0 : (if i < p then p + 1 else p) = p + 1 := if_pos (by omega)
        simp only [e0]
      have H4' : HS st0 s4 ((x, .lst ((tRow ab (p + 1) p).map .int)) :: (tb, .lst ((as ++ [x]).map .ref)) :: tEnt ab as (fun i => if i < p then p + 1 else p)) := H4
      rw [fe] at H4'
      rw [tEnt_snoc, hl]
      refine H4'.perm ?_
      have := (List.perm_append_singleton (x, Ob.lst ((tRow ab (p + 1) p).map .int)) ((tb, Ob.lst ((as ++ [x]).map .ref)) :: tEnt ab as (fun _ => p + 1))).symm
      simpa using this
    obtain ⟨as', v2, v3, v4, v5, s', e, hl', H'⟩ := ih (p + 1) (as ++ [x]) (some (.int p)) (some (.ref x)) w4 w5 s4 (by omega) (by omega) (by simp [hl]) pe
    refine ⟨as', v2, v3, v4, v5, s', ?_, hl', H'⟩
    rw [rng_cons, for_cons0]
    simp only [ev_gN, List.set_cons_succ, List.set_cons_zero]
    have sn : (tRow ab (p + 1) p).map D.int = (tRow ab p p).map D.int ++ [.int 0] := by rw [tRow_snoc, List.map_append, tV_self]; rfl
    have sr : (as ++ [x]).map D.ref = as.map D.ref ++ [.ref x] := by simp
    rw [sn] at e3
    rw [sr] at e4
    have lk := ok.2.1
    have ll : (tRow ab p p).length < 100000 := by rw [tRow_len]; omega
    have l2 : as.length < 100000 := by omega
    have bb : -4611686018427387904 ≤ (p : Int) ∧ (p : Int) < 4611686018427387904 := by omega
    have rr : (rng 0 p).length ≤ 100000 := by rw [rng_len]; omega
    rw [show ((0 : Nat) : Int) = 0 from rfl] at e2
    have step : b_law_table_2 [some (.ref a), some (.ref tb), some (.int p), z3, z4, z5] s = .nx [some (.ref a), some (.ref tb), some (.int p), some (.ref x), w4, w5] s4 := by
      simp -implicitDefEqProofs [b_law_table_2, bb, rr, lc, e1, e1', e2, rx, ll, e3, rt3, l2, e4, -List.map_append]
    rw [step, loopS_nx]
    push_cast at e
    exact e
end
theorem hm_law_table : ∀ ds st0, ds.length = 1 → wfS st0 → wfD.wfDs st0.length ds → Fin st0.length (retR (m_law_table (startE 6 ds) st0)) (F_law_table ds st0) := by
  intro ds st0 hl hw hd
  unfold F_law_table
  split
  · split
    · split
      · split
        · rename_i a _ xs ha _ ab hj ok
          have hx := intsD_map hj
          subst hx
          obtain ⟨s1, r0, e1, e1', H1⟩ := g_new (HS.nil st0) (.lst ([(0 : Int)].map .int))
          obtain ⟨s2, tb, e2, e2', H2⟩ := g_new H1 (.lst ([r0].map .ref))
          have H2' : HS st0 s2 ((tb, .lst ([r0].map .ref)) :: tEnt ab [r0] (fun _ => 1)) := by
            have : tEnt ab [r0] (fun _ => 1) = [(r0, .lst ([(0 : Int)].map .int))] := by
              simp [tEnt, tRow, tV_self]
            rw [this]
            exact H2
          have lk := ok.1
          have lk2 := ok.2.1
          obtain ⟨as, z2, z3, z4, z5, s3, e3, hl3, H3⟩ := table_out ok ha (ab.length - 1) 1 [r0] none none none none s2 (by omega) (by omega) rfl H2'
          have ra := H2.old ha
          have p0 : ([(0 : Int)].map D.int) = [.int 0] := rfl
          have p1 : ([r0].map D.ref) = [.ref r0] := rfl
          rw [p0] at e1
          rw [p1] at e2
          rw [show ((1 : Nat) : Int) = 1 from rfl] at e3
          have bb : -4611686018427387904 ≤ (ab.length : Int) ∧ (ab.length : Int) < 4611686018427387904 := by omega
          have rt : ((ab.length : Int) - 1).toNat = ab.length - 1 := by omega
          have e : retR (m_law_table (startE 6 [.ref a]) st0) = .ok (.ref tb) s3 := by
            simp -implicitDefEqProofs [m_law_table, startE, e1, e1', e2, e2', ra, bb, rt, e3]
          rw [e]
          -- what is laid: row 0, the outer list, the other rows
          obtain ⟨x0, ar, rfl⟩ : ∃ x0 ar, as = x0 :: ar := by
            cases as with
            | nil => simp at hl3; omega
            | cons x0 ar => exact ⟨x0, ar, rfl⟩
          have nd := H3.nod
          have km : (tEnt ab (x0 :: ar) (fun _ => ab.length)).map (·.1) = x0 :: ar := by
            apply List.ext_getElem?
            intro j
            rw [List.getElem?_map]
            by_cases d : j < (x0 :: ar).length
            · have g : (x0 :: ar)[j]? = some ((x0 :: ar)[j]'d) := List.getElem?_eq_getElem d
              rw [tEnt_get g, g]
              rfl
            · rw [List.getElem?_eq_none (by simp [tEnt] at d ⊢; omega), List.getElem?_eq_none (by omega)]
              rfl
          rw [List.map_cons, km] at nd
          have nd2 : (x0 :: tb :: ar).Nodup := by
            simp only [List.nodup_cons, List.mem_cons, not_or] at nd ⊢
            exact ⟨⟨Ne.symm nd.1.1, nd.2.1⟩, nd.1.2, nd.2.2⟩
          have ln : (x0 :: tb :: ar).length = (tSto ab st0.length ab.length).length := by
            simp [tSto] at hl3 ⊢
            omega
          have mv : ∀ i : Nat, i < ab.length → mvL st0.length (x0 :: tb :: ar) (tAt st0.length i) = (x0 :: ar)[i]?.getD 0 := fun i hi => by
            unfold tAt
            by_cases c : i = 0
            · subst c
              have := mvL_at (b := st0.length) (as := x0 :: tb :: ar) (i := 0)
              rw [Nat.add_zero] at this
              rw [if_pos rfl, this]
              rfl
            · rw [if_neg c, show st0.length + 1 + i = st0.length + (i + 1) by omega, mvL_at]
              obtain ⟨j, rfl⟩ : ∃ j, i = j + 1 := ⟨i - 1, by omega⟩
              simp only [List.getElem?_cons_succ]
              have : j < ar.length := by simp at hl3; omega
              simp [this]
          refine fin_many (as := x0 :: tb :: ar) hw H3.ext ln nd2 (fun x hx => ?_) (fun i o x h1 h2 => ?_) ?_ ?_
          · have : x ∈ (((tb, Ob.lst ((x0 :: ar).map .ref)) :: tEnt ab (x0 :: ar) (fun _ => ab.length)).map (·.1)) := by
              rw [List.map_cons, km]
              simp only [List.mem_cons] at hx ⊢
              rcases hx with h | h | h
              · exact .inr (.inl h)
              · exact .inl h
              · exact .inr (.inr h)
            obtain ⟨p, hp, rfl⟩ := List.mem_map.mp this
            exact H3.low p hp
          · match i, h1, h2 with
            | 0, h1, h2 =>
              cases h1; cases h2
              exact ⟨by rw [renO_ints]; exact H3.get 1 (tEnt_get (i := 0) (as := x0 :: ar) rfl), wf_ints⟩
            | 1, h1, h2 =>
              cases h1; cases h2
              refine ⟨?_, ?_⟩
              · have : renO (mvL st0.length (x0 :: tb :: ar)) (.lst (tRefs st0.length ab.length)) = .lst ((x0 :: ar).map .ref) := by
                  simp only [renO]
                  congr 1
                  have key : ∀ (ns : List Nat), renD.renDs (mvL st0.length (x0 :: tb :: ar)) (ns.map fun p => .ref (tAt st0.length p)) = ns.map fun p => .ref (mvL st0.length (x0 :: tb :: ar) (tAt st0.length p)) := by
                    intro ns
                    induction ns with
                    | nil => rfl
                    | cons n ns ih => simp [renD.renDs, renD, ih]
                  unfold tRefs
                  rw [key]
                  apply List.ext_getElem?
                  intro j
                  rw [List.getElem?_map, List.getElem?_map]
                  by_cases d : j < ab.length
                  · rw [List.getElem?_range d, Option.map_some, mv j d]
                    have : j < (x0 :: ar).length := by omega
                    rw [List.getElem?_eq_getElem this]
                    rfl
                  · rw [List.getElem?_eq_none (by simp; omega), List.getElem?_eq_none (by omega)]
                    rfl
                rw [this]
                exact H3.get 0 rfl
              · have key : ∀ (N : Nat) (ns : List Nat), (∀ p ∈ ns, tAt st0.length p < N) → wfD.wfDs N (ns.map fun p => .ref (tAt st0.length p)) := by
                  intro N ns
                  induction ns with
                  | nil => intro _; trivial
                  | cons n ns ih => intro h; exact ⟨h n (by simp), ih fun p hp => h p (by simp [hp])⟩
                refine key _ _ fun p hp => ?_
                have := List.mem_range.mp hp
                rw [← ln]
                simp at hl3 ⊢
                unfold tAt
                split <;> omega
            | i + 2, h1, h2 =>
              have h1 : ((List.range (ab.length - 1)).map fun p => Ob.lst ((tRow ab ab.length (p + 1)).map .int))[i]? = some o := h1
              have hi : i < ab.length - 1 := by
                have := (List.getElem?_eq_some_iff.mp h1).1
                simpa using this
              rw [List.getElem?_map, List.getElem?_range hi] at h1
              cases h1
              have h2 : (x0 :: ar)[i + 1]? = some x := h2
              exact ⟨by rw [renO_ints]; exact H3.get (i + 2) (tEnt_get h2), wf_ints⟩
          · have := mvL_at (b := st0.length) (as := x0 :: tb :: ar) (i := 1)
            simp [renD, this]
          · show st0.length + 1 < _
            rw [← ln]
            simp
        · exact fin_bad
      · exact fin_bad
    · exact fin_bad
  · exact fin_bad
end Lw
set_option maxRecDepth 100000
set_option maxHeartbeats 4000000
namespace Lw
open PySem PySem.Spec PyProof.Rows L2 Dn
theorem sIx_in {n d : Nat} {i : Int} (h0 : 0 ≤ i) (h1 : i ≤ n) : HT.sIx n d (some i) = i.toNat := by
  unfold HT.sIx
  simp only []
  rw [if_neg (by omega)]
  omega
theorem cut_to {xs : List D} {i : Int} (h0 : 0 ≤ i) (h1 : i ≤ xs.length) : Dn.cutD xs none (some i) = xs.take i.toNat := by
  unfold Dn.cutD
  rw [sIx_in h0 h1]
  simp [HT.sIx]
theorem cut_from {xs : List D} {i : Int} (h0 : 0 ≤ i) (h1 : i ≤ xs.length) : Dn.cutD xs (some i) none = xs.drop i.toNat := by
  unfold Dn.cutD
  rw [sIx_in h0 h1]
  simp only [HT.sIx]
  rw [List.take_of_length_le]
  rw [List.length_drop]
  omega
theorem gI_at {xs : List Int} {i : Int} (h : 0 ≤ i ∧ i < xs.length) : atI (xs.map D.int) i = some (.int (gI xs i)) := by
  refine atI_nat' h.1 ?_
  have : i.toNat < xs.length := by omega
  simp [gI, this]
theorem gI_mem {xs : List Int} {i : Int} (h : 0 ≤ i ∧ i < xs.length) : gI xs i ∈ xs := by
  have : i.toNat < xs.length := by omega
  simp [gI, this]
theorem places_loop {a : Nat} {size : Int} {st0 : Sto} {x1 x3 : Option D} (la : a < st0.length) (hs : 0 < size ∧ size < 100000) : ∀ (j : Nat) (k d : Int) (acc : List Int) (z5 z6 : Option D), acc.length + j < 5000 →
    ∃ z5' z6', forS [] (gN 5) b_law_places_1 (rng k j) [some (.ref a), x1, some (.int size), x3, some (.ref st0.length), z5, z6] (put1 st0 a d ++ [.lst (acc.map .int)]) = .nx [some (.ref a), x1, some (.int size), x3, some (.ref st0.length), z5', z6'] (put1 st0 a (plcF size j d acc).2 ++ [.lst ((plcF size j d acc).1.map .int)]) := by
  intro j
  induction j with
  | zero => intro k d acc z5 z6 _; exact ⟨z5, z6, by rw [rng_nil, for_nil0]; rfl⟩
  | succ j ih =>
    intro k d acc z5 z6 hl
    have f1 := pick_at (st0 := st0) (d := d) (m := 4) (R := [.lst (acc.map .int)]) la (by omega) (by omega)
    have rr : ∀ d', rdL (put1 st0 a d' ++ [Ob.lst (acc.map D.int)]) st0.length = some (acc.map .int) := fun d' => by
      rw [rdL_append, if_neg (by rw [put_len]; omega), put_len, Nat.sub_self]
      rfl
    have ss : ∀ d' (x : D), (put1 st0 a d' ++ [Ob.lst (acc.map D.int)]).set st0.length (.lst (acc.map D.int ++ [x])) = put1 st0 a d' ++ [Ob.lst (acc.map D.int ++ [x])] := fun d' x => by
      rw [List.set_append, if_neg (by rw [put_len]; omega), put_len, Nat.sub_self]
      rfl
    have ll : acc.length < 100000 := by omega
    by_cases c : d % 4 = 3 ∧ 0 < acc.length
    · have f2 := pick_at (st0 := st0) (d := d / 4) (m := acc.length) (R := [.lst (acc.map .int)]) la (by omega) (by omega)
      have b0 := Int.emod_nonneg (d / 4) (show (acc.length : Int) ≠ 0 by omega)
      have b1 := Int.emod_lt_of_pos (d / 4) (show (0 : Int) < acc.length by omega)
      have at_ := gI_at (xs := acc) (i := d / 4 % acc.length) ⟨b0, b1⟩
      obtain ⟨y5, y6, e⟩ := ih (k + 1) (d / 4 / acc.length) (acc ++ [gI acc (d / 4 % acc.length)]) (some (.int k)) (some (.int (d % 4))) (by simp; omega)
      refine ⟨y5, y6, ?_⟩
      rw [rng_cons, for_cons0]
      simp only [ev_gN, List.set_cons_succ, List.set_cons_zero]
      have k1 : fEq (.int (d % 4)) (.int 3) (put1 st0 a (d / 4) ++ [Ob.lst (acc.map D.int)]) = some (.bl true, put1 st0 a (d / 4) ++ [Ob.lst (acc.map D.int)]) := by simp [fEq, c.1]
      have c2 := c.2
      have step : b_law_places_1 [some (.ref a), x1, some (.int size), x3, some (.ref st0.length), some (.int k), z6] (put1 st0 a d ++ [.lst (acc.map .int)]) = .nx [some (.ref a), x1, some (.int size), x3, some (.ref st0.length), some (.int k), some (.int (d % 4))] (put1 st0 a (d / 4 / acc.length) ++ [.lst ((acc ++ [gI acc (d / 4 % acc.length)]).map .int)]) := by
        simp -implicitDefEqProofs [b_law_places_1, f1, k1, rr, c2, f2, at_, ll, ss]
      rw [step, loopS_nx, e]
      simp only [plcF, if_pos c]
    · have f2 := pick_at (st0 := st0) (d := d / 4) (m := size) (R := [.lst (acc.map .int)]) la hs.1 (by omega)
      obtain ⟨y5, y6, e⟩ := ih (k + 1) (d / 4 / size) (acc ++ [d / 4 % size]) (some (.int k)) (some (.int (d % 4))) (by simp; omega)
      refine ⟨y5, y6, ?_⟩
      rw [rng_cons, for_cons0]
      simp only [ev_gN, List.set_cons_succ, List.set_cons_zero]
      have step : b_law_places_1 [some (.ref a), x1, some (.int size), x3, some (.ref st0.length), some (.int k), z6] (put1 st0 a d ++ [.lst (acc.map .int)]) = .nx [some (.ref a), x1, some (.int size), x3, some (.ref st0.length), some (.int k), some (.int (d % 4))] (put1 st0 a (d / 4 / size) ++ [.lst ((acc ++ [d / 4 % size]).map .int)]) := by
        by_cases c1 : d % 4 = 3
        · have k1 : fEq (.int (d % 4)) (.int 3) (put1 st0 a (d / 4) ++ [Ob.lst (acc.map D.int)]) = some (.bl true, put1 st0 a (d / 4) ++ [Ob.lst (acc.map D.int)]) := by simp [fEq, c1]
          have c2 : acc = [] := by
            cases acc with
            | nil => rfl
            | cons x r => exact absurd ⟨c1, by simp⟩ c
          subst c2
          have rr' := rr (d / 4)
          have rr2 := rr (d / 4 / size)
          have ss' := ss (d / 4 / size)
          simp only [List.map_nil, List.nil_append] at rr' rr2 ss' f1 f2 k1
          simp -implicitDefEqProofs [b_law_places_1, f1, k1, rr', rr2, f2, ss']
        · have k1 : fEq (.int (d % 4)) (.int 3) (put1 st0 a (d / 4) ++ [Ob.lst (acc.map D.int)]) = some (.bl false, put1 st0 a (d / 4) ++ [Ob.lst (acc.map D.int)]) := by simp [fEq, c1]
          simp -implicitDefEqProofs [b_law_places_1, f1, k1, rr, f2, ll, ss]
      rw [step, loopS_nx, e]
      simp only [plcF, if_neg c]
theorem plcF_ok {size : Int} (hs : 0 < size) : ∀ (j : Nat) (d : Int) (acc : List Int), (∀ x ∈ acc, 0 ≤ x ∧ x < size) → (plcF size j d acc).1.length = acc.length + j ∧ ∀ x ∈ (plcF size j d acc).1, 0 ≤ x ∧ x < size
  | 0, _, acc, h => ⟨rfl, h⟩
  | j + 1, d, acc, h => by
    unfold plcF
    split
    · rename_i c
      have b0 := Int.emod_nonneg (d / 4) (show (acc.length : Int) ≠ 0 by omega)
      have b1 := Int.emod_lt_of_pos (d / 4) (show (0 : Int) < acc.length by omega)
      have := plcF_ok hs j (d / 4 / acc.length) (acc ++ [gI acc (d / 4 % acc.length)]) (fun x hx => by
        rcases List.mem_append.mp hx with k | k
        · exact h x k
        · rw [List.mem_singleton.mp k]
          exact h _ (gI_mem ⟨b0, b1⟩))
      simp only [List.length_append, List.length_cons, List.length_nil] at this
      exact ⟨by omega, this.2⟩
    · have b0 := Int.emod_nonneg (d / 4) (show size ≠ 0 by omega)
      have b1 := Int.emod_lt_of_pos (d / 4) hs
      have := plcF_ok hs j (d / 4 / size) (acc ++ [d / 4 % size]) (fun x hx => by
        rcases List.mem_append.mp hx with k | k
        · exact h x k
        · rw [List.mem_singleton.mp k]
          exact ⟨b0, b1⟩)
      simp only [List.length_append, List.length_cons, List.length_nil] at this
      exact ⟨by omega, this.2⟩
theorem hm_law_places : ∀ ds st0, ds.length = 4 → wfS st0 → wfD.wfDs st0.length ds → Fin st0.length (retR (m_law_places (startE 7 ds) st0)) (F_law_places ds st0) := by
  intro ds st0 hl hw hd
  unfold F_law_places
  split
  · split
    · split
      · split
        · rename_i a many size e _ _ d xs h1 h2 _ el hj cond
          have hx := intsD_map hj
          subst hx
          obtain ⟨c1, c2, c3⟩ := cond
          have la := rdL_lt (rdI_some h1)
          have le := rdL_lt h2
          have sp := self_put h1
          obtain ⟨y5, y6, lp⟩ := places_loop (x1 := some (.int many)) (x3 := some (.ref e)) la c2 many.toNat 0 d el none none (by omega)
          rw [sp] at lp
          obtain ⟨R, hR⟩ : ∃ R, (plcF size many.toNat d el).1 = R := ⟨_, rfl⟩
          obtain ⟨d', hd'⟩ : ∃ R, (plcF size many.toNat d el).2 = R := ⟨_, rfl⟩
          rw [hR, hd'] at lp ⊢
          have lR : R.length = el.length + many.toNat := by
            rw [← hR]
            have : ∀ (j : Nat) (d : Int) (acc : List Int), (plcF size j d acc).1.length = acc.length + j := by
              intro j
              induction j with
              | zero => intro d acc; rfl
              | succ j ih =>
                intro d acc
                unfold plcF
                split
                · rw [ih]; simp; omega
                · rw [ih]; simp; omega
            exact this _ _ _
          have ex : ∃ ys, rdL (put1 st0 a d' ++ [Ob.lst (R.map D.int)]) e = some ys ∧ ys.length = el.length := by
            rw [rdL_append, if_pos (by rw [put_len]; exact le)]
            unfold put1
            rw [rdL_set]
            by_cases c : a = e
            · subst c
              have := (rdI_some h1).symm.trans h2
              have : el.length = 1 := by
                have := congrArg (fun o => (o.getD []).length) this
                simp at this
                omega
              rw [if_pos rfl, if_pos la]
              exact ⟨_, rfl, by simp [this]⟩
            · rw [if_neg c]
              exact ⟨_, h2, by simp⟩
          obtain ⟨ys, hys, ly⟩ := ex
          have rR : rdL (put1 st0 a d' ++ [Ob.lst (R.map D.int)]) st0.length = some (R.map .int) := by
            rw [rdL_append, if_neg (by rw [put_len]; omega), put_len, Nat.sub_self]
            rfl
          have cf : Dn.cutD (R.map D.int) (some (el.length : Int)) none = (R.drop el.length).map D.int := by
            rw [cut_from (by omega) (by simp; omega), Int.toNat_natCast, List.map_drop]
          have bb : -4611686018427387904 ≤ many ∧ many < 4611686018427387904 := by omega
          have e : retR (m_law_places (startE 7 [.ref a, .int many, .int size, .ref e]) st0) = .ok (.ref (st0.length + 1)) (put1 st0 a d' ++ [.lst (R.map .int), .lst ((R.drop el.length).map .int)]) := by
            simp -implicitDefEqProofs [m_law_places, startE, h2, bb, lp, hys, ly, rR, cf, -List.map_drop]
          rw [e]
          exact fin_new (m := 1) (by simp [put1]) rfl (wfN_put1 (wfS_N hw)) wf_intsL rfl rfl
        · exact fin_bad
      · exact fin_bad
    · exact fin_bad
  · exact fin_bad
/-! reading a table -/
theorem rowsD_at {s : Sto} : ∀ {ds : List D} {T : List (List Int)}, rowsD s ds = some T → ds.length = T.length ∧ ∀ i : Nat, i < T.length → ∃ m, ds[i]? = some (.ref m) ∧ rdL s m = some ((T[i]?.getD []).map .int)
  | [], T, h => by
    simp [rowsD] at h
    subst h
    exact ⟨rfl, fun i hi => by simp at hi⟩
  | d :: r, T, h => by
    cases d with
    | ref m =>
      simp only [rowsD] at h
      split at h
      · rename_i xs hx
        split at h
        · rename_i x y h1 h2
          cases h
          obtain ⟨l, k⟩ := rowsD_at h2
          have hx' := intsD_map h1
          subst hx'
          refine ⟨by simp [l], fun i hi => ?_⟩
          cases i with
          | zero => exact ⟨m, rfl, hx⟩
          | succ i =>
            obtain ⟨m', e1, e2⟩ := k i (by simpa using hi)
            exact ⟨m', e1, e2⟩
        · cases h
      · cases h
    | _ => simp [rowsD] at h
theorem rowsD_ext {s s1 : Sto} (e : Ext s s1) : ∀ {ds : List D} {T : List (List Int)}, rowsD s ds = some T → rowsD s1 ds = some T
  | [], T, h => h
  | d :: r, T, h => by
    cases d with
    | ref m =>
      simp only [rowsD] at h ⊢
      split at h
      · rename_i xs hx
        split at h
        · rename_i x y h1 h2
          cases h
          rw [e.rd hx, rowsD_ext e h2]
          simp only [h1]
        · cases h
      · cases h
    | _ => simp [rowsD] at h
theorem rdTb_ext {s s1 : Sto} {n : Nat} {T : List (List Int)} (e : Ext s s1) (h : rdTb s n = some T) : rdTb s1 n = some T := by
  unfold rdTb at h ⊢
  split at h
  · rename_i ds hd
    rw [e.rd hd]
    exact rowsD_ext e h
  · cases h
theorem tb_at {s : Sto} {n : Nat} {T : List (List Int)} (h : rdTb s n = some T) (ok : okT T) : ∃ ds, rdL s n = some ds ∧ ds.length = T.length ∧ ∀ p : Int, 0 ≤ p → p < T.length → ∃ m xs, atI ds p = some (.ref m) ∧ rdL s m = some xs ∧ ∀ q : Int, 0 ≤ q → q < T.length → atI xs q = some (.int (gTb T p q)) := by
  unfold rdTb at h
  split at h
  · rename_i ds hd
    obtain ⟨l, k⟩ := rowsD_at h
    refine ⟨ds, hd, l, fun p p0 p1 => ?_⟩
    obtain ⟨m, e1, e2⟩ := k p.toNat (by omega)
    refine ⟨m, _, atI_nat' p0 e1, e2, fun q q0 q1 => ?_⟩
    have hp : p.toNat < T.length := by omega
    have lr : (T[p.toNat]?.getD []).length = T.length := by
      rw [List.getElem?_eq_getElem hp]
      exact ok.2 _ (List.getElem_mem hp)
    exact gI_at ⟨q0, by omega⟩
  · cases h
theorem rdTb_of {s : Sto} {n : Nat} : ∀ {as : List Nat} {T : List (List Int)}, rdL s n = some (as.map .ref) → as.length = T.length → (∀ (i : Nat) (x : Nat) (r : List Int), as[i]? = some x → T[i]? = some r → rdL s x = some (r.map .int)) → rdTb s n = some T := by
  intro as T h hl hr
  unfold rdTb
  rw [h]
  show rowsD s (as.map .ref) = some T
  clear h
  induction as generalizing T with
  | nil =>
    cases T with
    | nil => rfl
    | cons _ _ => simp at hl
  | cons x as ih =>
    cases T with
    | nil => simp at hl
    | cons r T =>
      have h0 := hr 0 x r rfl rfl
      have := ih (T := T) (by simpa using hl) (fun i y z h1 h2 => hr (i + 1) y z h1 h2)
      simp only [List.map_cons, rowsD, h0, intsD_ints, this]
end Lw
set_option maxRecDepth 100000
set_option maxHeartbeats 4000000
namespace Lw
open PySem PySem.Spec PyProof.Rows L2 Dn
section
variable {T : List (List Int)} {is ab : List Int}
theorem eq_ii {i j : Int} {s : Sto} : fEq (.int i) (.int j) s = some (.bl (decide (i = j)), s) := by
  by_cases h : i = j
  · simp [fEq, h]
  · simp [fEq, h]
theorem ne_ii {i j : Int} {s : Sto} : fNe (.int i) (.int j) s = some (.bl (!decide (i = j)), s) := by
  by_cases h : i = j
  · simp [fNe, h]
  · simp [fNe, h]
theorem seeing_in {t c : Nat} {q i : Int} {x3 : Option D} {st0 : Sto} (ht : rdTb st0 t = some T) (ok : okT T) (hc : rdL st0 c = some (is.map .int)) (hI : inN T.length is) (hq : 0 ≤ q ∧ q < T.length) (hi : 0 ≤ i ∧ i < is.length) : ∀ (k : Nat) (j : Int) (b : Bool) (z6 z7 z8 z9 : Option D), 0 ≤ j → j + k = is.length →
    ∃ z6' z7' z8' z9', forS [] (gN 6) b_law_seeing_1 (rng j k) [some (.ref t), some (.ref c), some (.int q), x3, some (.int i), some (.bl b), z6, z7, z8, z9] st0 = .nx [some (.ref t), some (.ref c), some (.int q), x3, some (.int i), some (.bl (b && (rI j k).all fun j => !blkA T is q i j)), z6', z7', z8', z9'] st0 := by
  obtain ⟨ds, rt, _, row⟩ := tb_at ht ok
  have oi := hI _ (gI_mem hi)
  intro k
  induction k with
  | zero => intro j b z6 z7 z8 z9 _ _; exact ⟨z6, z7, z8, z9, by rw [rng_nil, for_nil0]; simp [rI]⟩
  | succ k ih =>
    intro j b z6 z7 z8 z9 j0 jk
    have hj : 0 ≤ j ∧ j < is.length := ⟨j0, by omega⟩
    have oj := hI _ (gI_mem hj)
    obtain ⟨mi, xi, a1, r1, v1⟩ := row (gI is i) oi.1 oi.2
    obtain ⟨mj, xj, a2, r2, v2⟩ := row (gI is j) oj.1 oj.2
    have g1 := gI_at hi
    have g2 := gI_at hj
    have w1 := v1 (gI is j) oj.1 oj.2
    have w2 := v2 q hq.1 hq.2
    have w3 := v1 q hq.1 hq.2
    have eb : blkA T is q i j = decide ((gI is i = gI is j ∧ j < i) ∨ (gI is i ≠ gI is j ∧ gTb T (gI is i) (gI is j) + gTb T (gI is j) q = gTb T (gI is i) q)) := rfl
    obtain ⟨A, hA⟩ : ∃ A, gI is i = A := ⟨_, rfl⟩
    obtain ⟨B, hB⟩ : ∃ A, gI is j = A := ⟨_, rfl⟩
    obtain ⟨U, hU⟩ : ∃ X, gTb T A B = X := ⟨_, rfl⟩
    obtain ⟨V, hV⟩ : ∃ X, gTb T B q = X := ⟨_, rfl⟩
    obtain ⟨W, hW⟩ : ∃ X, gTb T A q = X := ⟨_, rfl⟩
    rw [hA, hB, hU, hV, hW] at eb
    rw [hA] at g1 a1 w1 w3
    rw [hB] at g2 a2 w1 w2
    rw [hU] at w1
    rw [hV] at w2
    rw [hW] at w3
    obtain ⟨y6, y7, y8, y9, e⟩ := ih (j + 1) (b && !blkA T is q i j) (some (.int j)) (some (.int A)) (some (.int B)) (some (.int (U + V))) (by omega) (by omega)
    refine ⟨y6, y7, y8, y9, ?_⟩
    rw [rng_cons, for_cons0]
    simp only [ev_gN, List.set_cons_succ, List.set_cons_zero]
    have step : b_law_seeing_1 [some (.ref t), some (.ref c), some (.int q), x3, some (.int i), some (.bl b), some (.int j), z7, z8, z9] st0 = .nx [some (.ref t), some (.ref c), some (.int q), x3, some (.int i), some (.bl (b && !blkA T is q i j)), some (.int j), some (.int A), some (.int B), some (.int (U + V))] st0 := by
      rw [eb]
      by_cases c1 : A = B
      · subst c1
        have hVW : V = W := hV.symm.trans hW
        subst hVW
        by_cases c2 : j < i
        · simp -implicitDefEqProofs [b_law_seeing_1, hc, g1, g2, rt, a1, r1, w1, a2, r2, w2, w3, eq_ii, ne_ii, c2]
        · simp -implicitDefEqProofs [b_law_seeing_1, hc, g1, g2, rt, a1, r1, w1, a2, r2, w2, w3, eq_ii, ne_ii, c2]
      · by_cases c2 : U + V = W
        · simp -implicitDefEqProofs [b_law_seeing_1, hc, g1, g2, rt, a1, r1, w1, a2, r2, w2, w3, eq_ii, ne_ii, c1, c2]
        · simp -implicitDefEqProofs [b_law_seeing_1, hc, g1, g2, rt, a1, r1, w1, a2, r2, w2, w3, eq_ii, ne_ii, c1, c2]
    rw [step, loopS_nx, e]
    simp [rI, Bool.and_assoc]
theorem seeing_out {t c l : Nat} {q : Int} {st0 : Sto} (ht : rdTb st0 t = some T) (ok : okT T) (hc : rdL st0 c = some (is.map .int)) (hI : inN T.length is) (hq : 0 ≤ q ∧ q < T.length) (hl : is.length < 1000) : ∀ (k : Nat) (i : Int) (acc : List Int) (z4 z5 z6 z7 z8 z9 : Option D) (s : Sto), 0 ≤ i → i + k = is.length → acc.length + k < 5000 → HS st0 s [(l, .lst (acc.map .int))] →
    ∃ z4' z5' z6' z7' z8' z9' s', forS [] (gN 4) b_law_seeing_2 (rng i k) [some (.ref t), some (.ref c), some (.int q), some (.ref l), z4, z5, z6, z7, z8, z9] s = .nx [some (.ref t), some (.ref c), some (.int q), some (.ref l), z4', z5', z6', z7', z8', z9'] s' ∧ HS st0 s' [(l, .lst ((acc ++ (rI i k).filter (frA T is q)).map .int))] := by
  intro k
  induction k with
  | zero => intro i acc z4 z5 z6 z7 z8 z9 s _ _ _ H; exact ⟨z4, z5, z6, z7, z8, z9, s, by rw [rng_nil, for_nil0], by simpa [rI] using H⟩
  | succ k ih =>
    intro i acc z4 z5 z6 z7 z8 z9 s i0 ik ha H
    obtain ⟨y6, y7, y8, y9, e1⟩ := seeing_in (x3 := some (.ref l)) (rdTb_ext H.ext ht) ok (H.old hc) hI hq (i := i) ⟨i0, by omega⟩ is.length 0 true z6 z7 z8 z9 (by omega) (by omega)
    rw [Bool.true_and] at e1
    have se : ((rI 0 is.length).all fun j => !blkA T is q i j) = frA T is q i := rfl
    rw [se] at e1
    obtain ⟨fb, hfb⟩ : ∃ b, frA T is q i = b := ⟨_, rfl⟩
    rw [hfb] at e1
    have rl := H.rd 0 rfl
    have rc := H.old hc
    have bb : -4611686018427387904 ≤ (is.length : Int) ∧ (is.length : Int) < 4611686018427387904 := by omega
    have la : acc.length < 100000 := by omega
    obtain ⟨s1, hs1, H1⟩ : ∃ s1, (if fb = true then s.set l (.lst (acc.map .int ++ [.int i])) else s) = s1 ∧ HS st0 s1 [(l, .lst ((acc ++ if fb = true then [i] else []).map .int))] := by
      cases fb with
      | true =>
        have := H.set 0 rfl (.lst ((acc ++ [i]).map .int))
        refine ⟨_, rfl, ?_⟩
        rw [if_pos rfl, if_pos rfl]
        have e : acc.map D.int ++ [.int i] = (acc ++ [i]).map .int := by simp
        rw [e]
        exact this
      | false => exact ⟨_, rfl, by simpa using H⟩
    obtain ⟨w4, w5, w6, w7, w8, w9, s', e, H'⟩ := ih (i + 1) (acc ++ if fb = true then [i] else []) (some (.int i)) (some (.bl fb)) y6 y7 y8 y9 s1 (by omega) (by omega) (by cases fb <;> simp <;> omega) H1
    refine ⟨w4, w5, w6, w7, w8, w9, s', ?_, ?_⟩
    · rw [rng_cons, for_cons0]
      simp only [ev_gN, List.set_cons_succ, List.set_cons_zero]
      have step : b_law_seeing_2 [some (.ref t), some (.ref c), some (.int q), some (.ref l), some (.int i), z5, z6, z7, z8, z9] s = .nx [some (.ref t), some (.ref c), some (.int q), some (.ref l), some (.int i), some (.bl fb), y6, y7, y8, y9] s1 := by
        rw [← hs1]
        cases fb <;> simp -implicitDefEqProofs [b_law_seeing_2, rc, bb, e1, rl, la]
      rw [step, loopS_nx, e]
    · have : acc ++ (rI i (k + 1)).filter (frA T is q) = (acc ++ if fb = true then [i] else []) ++ (rI (i + 1) k).filter (frA T is q) := by
        rw [rI, List.filter_cons, hfb]
        cases fb <;> simp
      rw [this]
      exact H'
end
theorem hm_law_seeing : ∀ ds st0, ds.length = 3 → wfS st0 → wfD.wfDs st0.length ds → Fin st0.length (retR (m_law_seeing (startE 10 ds) st0)) (F_law_seeing ds st0) := by
  intro ds st0 hl hw hd
  unfold F_law_seeing
  split
  · split
    · split
      · split
        · rename_i t c q _ _ T xs ht hc _ is hj cond
          have hx := intsD_map hj
          subst hx
          obtain ⟨c1, c2, c3, c4⟩ := cond
          obtain ⟨s1, l, e1, e1', H1⟩ := g_new (HS.nil st0) (.lst [])
          obtain ⟨z4, z5, z6, z7, z8, z9, s2, e2, H2⟩ := seeing_out (l := l) ht c1 hc c2 c3 c4 is.length 0 [] none none none none none none s1 (by omega) (by omega) (by simp; omega) (by simpa using H1)
          have rc := H1.old hc
          have bb : -4611686018427387904 ≤ (is.length : Int) ∧ (is.length : Int) < 4611686018427387904 := by omega
          have e : retR (m_law_seeing (startE 10 [.ref t, .ref c, .int q]) st0) = .ok (.ref l) s2 := by
            simp -implicitDefEqProofs [m_law_seeing, startE, e1, e1', rc, bb, e2]
          rw [e]
          exact fin_ref hw (by simpa [seeA] using H2) 0 rfl wf_intsL
        · exact fin_bad
      · exact fin_bad
    · exact fin_bad
  · exact fin_bad
section
variable {T : List (List Int)} {is ab : List Int}
theorem ab_in (ok : okA ab) (z : gI ab 0 = 0) {q : Int} (h : 0 ≤ q ∧ q < ab.length) : 0 ≤ gI ab q ∧ gI ab q < ab.length := by
  by_cases c : q = 0
  · subst c
    rw [z]
    omega
  · have := ok.2.2 q.toNat (by omega) (by omega)
    have e : ((q.toNat : Nat) : Int) = q := by omega
    rw [e] at this
    omega
theorem wlkA_in (ok : okA ab) (z : gI ab 0 = 0) {p : Int} : ∀ (m : Nat) (q : Int), (0 ≤ q ∧ q < ab.length) → 0 ≤ wlkA ab p m q ∧ wlkA ab p m q < ab.length
  | 0, q, h => h
  | m + 1, q, h => by
    unfold wlkA
    split
    · exact h
    · exact wlkA_in ok z m _ (ab_in ok z h)
theorem nxtA_in (ok : okA ab) (z : gI ab 0 = 0) {p c : Int} (hp : 0 ≤ p ∧ p < ab.length) (hc : 0 ≤ c ∧ c < ab.length) : 0 ≤ nxtA ab T p c ∧ nxtA ab T p c < ab.length := by
  unfold nxtA
  split
  · exact ab_in ok z hp
  · exact wlkA_in ok z _ _ hc
theorem next_loop {a : Nat} {p : Int} {x1 x3 : Option D} {s : Sto} (ok : okA ab) (z : gI ab 0 = 0) (ha : rdL s a = some (ab.map .int)) : ∀ (m : Nat) (k q : Int) (z5 : Option D), (0 ≤ q ∧ q < ab.length) →
    (forS [] (gN 5) b_law_next_1 (rng k m) [some (.ref a), x1, some (.int p), x3, some (.int q), z5] s = .ret (.int (wlkA ab p m q)) s) ∨ (∃ z5', forS [] (gN 5) b_law_next_1 (rng k m) [some (.ref a), x1, some (.int p), x3, some (.int q), z5] s = .nx [some (.ref a), x1, some (.int p), x3, some (.int (wlkA ab p m q)), z5'] s) := by
  intro m
  induction m with
  | zero => intro k q z5 _; exact .inr ⟨z5, by rw [rng_nil, for_nil0]; rfl⟩
  | succ m ih =>
    intro k q z5 hq
    have g := gI_at hq
    rw [rng_cons, for_cons0]
    simp only [ev_gN, List.set_cons_succ, List.set_cons_zero]
    by_cases c : gI ab q = p
    · left
      have step : b_law_next_1 [some (.ref a), x1, some (.int p), x3, some (.int q), some (.int k)] s = .ret (.int q) s := by
        simp -implicitDefEqProofs [b_law_next_1, ha, g, eq_ii, c]
      rw [step, loopS_ret]
      simp only [wlkA, if_pos c]
    · have step : b_law_next_1 [some (.ref a), x1, some (.int p), x3, some (.int q), some (.int k)] s = .nx [some (.ref a), x1, some (.int p), x3, some (.int (gI ab q)), some (.int k)] s := by
        simp -implicitDefEqProofs [b_law_next_1, ha, g, eq_ii, c]
      rw [step, loopS_nx]
      simp only [wlkA, if_neg c]
      exact ih (k + 1) (gI ab q) (some (.int k)) (ab_in ok z hq)
end
theorem hm_law_next : ∀ ds st0, ds.length = 4 → wfS st0 → wfD.wfDs st0.length ds → Fin st0.length (retR (m_law_next (startE 6 ds) st0)) (F_law_next ds st0) := by
  intro ds st0 hl hw hd
  unfold F_law_next
  split
  · split
    · split
      · split
        · rename_i a t p c _ _ xs T ha ht _ ab hj cond
          have hx := intsD_map hj
          subst hx
          obtain ⟨c1, c2, c3, c4, c5, c6⟩ := cond
          rw [← c4] at c5 c6
          obtain ⟨ds, rt, _, row⟩ := tb_at ht c3
          rw [← c4] at row
          have ai := ab_in c1 c2 c5
          obtain ⟨m1, x1, a1, r1, v1⟩ := row (gI ab p) ai.1 ai.2
          obtain ⟨m2, x2, a2, r2, v2⟩ := row p c5.1 c5.2
          have w1 := v1 c c6.1 c6.2
          have w2 := v2 c c6.1 c6.2
          have g := gI_at c5
          have bb : -4611686018427387904 ≤ (ab.length : Int) ∧ (ab.length : Int) < 4611686018427387904 := by have := c1.2.1; omega
          have e : retR (m_law_next (startE 6 [.ref a, .ref t, .int p, .int c]) st0) = .ok (.int (nxtA ab T p c)) st0 := by
            by_cases k1 : 0 < p
            · by_cases k2 : gTb T (gI ab p) c < gTb T p c
              · have en : nxtA ab T p c = gI ab p := if_pos ⟨k1, k2⟩
                rw [en]
                simp -implicitDefEqProofs [m_law_next, startE, ha, g, rt, a1, r1, w1, a2, r2, w2, k1, k2]
              · have en : nxtA ab T p c = wlkA ab p ab.length c := if_neg (fun h => k2 h.2)
                rw [en]
                rcases next_loop (p := p) (x1 := some (.ref t)) (x3 := some (.int c)) c1 c2 ha ab.length 0 c none c6 with e | ⟨z, e⟩
                · simp -implicitDefEqProofs [m_law_next, startE, ha, g, rt, a1, r1, w1, a2, r2, w2, k1, k2, bb, e]
                · simp -implicitDefEqProofs [m_law_next, startE, ha, g, rt, a1, r1, w1, a2, r2, w2, k1, k2, bb, e]
            · have en : nxtA ab T p c = wlkA ab p ab.length c := if_neg (fun h => k1 h.1)
              rw [en]
              rcases next_loop (p := p) (x1 := some (.ref t)) (x3 := some (.int c)) c1 c2 ha ab.length 0 c none c6 with e | ⟨z, e⟩
              · simp -implicitDefEqProofs [m_law_next, startE, ha, k1, bb, e]
              · simp -implicitDefEqProofs [m_law_next, startE, ha, k1, bb, e]
          rw [e]
          exact fin_same (by simp) (wfS_N hw) trivial
        · exact fin_bad
      · exact fin_bad
    · exact fin_bad
  · exact fin_bad
end Lw
set_option maxRecDepth 100000
set_option maxHeartbeats 4000000
namespace Lw
open PySem PySem.Spec PyProof.Rows L2 Dn
section
variable {T : List (List Int)} {ab : List Int} {s st0 : Sto} {a t c l g : Nat} {q : Int}
theorem c_next (ok : okA ab) (z : gI ab 0 = 0) (okt : okT T) (le : ab.length = T.length) (ha : rdL s a = some (ab.map .int)) (ht : rdTb s t = some T) {p : Int} (hp : 0 ≤ p ∧ p < T.length) (hq : 0 ≤ q ∧ q < T.length) : F_law_next [.ref a, .ref t, .int p, .int q] s = .ok (.int (nxtA ab T p q)) s := by
  simp only [F_law_next, ha, ht, intsD_ints]
  rw [if_pos ⟨ok, z, okt, le, hp, hq⟩]
theorem c_seeing {is : List Int} (okt : okT T) (ht : rdTb s t = some T) (hc : rdL s c = some (is.map .int)) (hI : inN T.length is) (hq : 0 ≤ q ∧ q < T.length) (hl : is.length < 1000) : F_law_seeing [.ref t, .ref c, .int q] s = .ok (.ref s.length) (s ++ [.lst ((seeA T is q).map .int)]) := by
  simp only [F_law_seeing, ht, hc, intsD_ints]
  rw [if_pos ⟨okt, hI, hq, hl⟩]
theorem inN_set {n : Nat} {is : List Int} (h : inN n is) {i : Nat} {x : Int} (hx : 0 ≤ x ∧ x < n) : inN n (is.set i x) := fun y hy => by
  rcases List.mem_or_eq_of_mem_set hy with k | k
  · exact h y k
  · rw [k]; exact hx
theorem goA_ok (ok : okA ab) (z : gI ab 0 = 0) (le : ab.length = T.length) (hq : 0 ≤ q ∧ q < T.length) : ∀ (js led : List Int), inN T.length led → inN led.length js → inN T.length (goA ab T q js led) ∧ (goA ab T q js led).length = led.length
  | [], led, h, _ => ⟨h, rfl⟩
  | i :: r, led, h, hj => by
    have hi := hj i (by simp)
    have x := nxtA_in (T := T) ok z (p := gI led i) (c := q) (by rw [le]; exact h _ (gI_mem hi)) (by rw [le]; exact hq)
    rw [le] at x
    have := goA_ok ok z le hq r (led.set i.toNat (nxtA ab T (gI led i) q)) (inN_set h x) (by rw [List.length_set]; exact fun k hk => hj k (by simp [hk]))
    rw [List.length_set] at this
    exact this
theorem both_in {x5 x6 : Option D} {js0 : List Int} (ok : okA ab) (z : gI ab 0 = 0) (okt : okT T) (le : ab.length = T.length) (ha : rdL st0 a = some (ab.map .int)) (ht : rdTb st0 t = some T) (hq : 0 ≤ q ∧ q < T.length) : ∀ (js led : List Int) (z8 : Option D) (s : Sto), inN T.length led → inN led.length js →
    HS st0 s [(g, .lst (js0.map .int)), (l, .lst (led.map .int))] →
    ∃ z8' s', forS [(g, js0.map .int)] (gN 8) b_law_both_1 (js.map .int) [some (.ref a), some (.ref t), some (.ref c), some (.int q), some (.ref l), x5, x6, some (.ref g), z8] s = .nx [some (.ref a), some (.ref t), some (.ref c), some (.int q), some (.ref l), x5, x6, some (.ref g), z8'] s' ∧
      HS st0 s' [(g, .lst (js0.map .int)), (l, .lst ((goA ab T q js led).map .int))] := by
  intro js
  induction js with
  | nil => intro led z8 s _ _ H; exact ⟨z8, s, by rw [List.map_nil, for_nil (stays_one (H.rd 0 rfl))], H⟩
  | cons i js ih =>
    intro led z8 s hI hj H
    have hi := hj i (by simp)
    have rl := H.rd 1 rfl
    have g1 := gI_at hi
    have oi := hI _ (gI_mem hi)
    have f := c_next ok z okt le (H.old ha) (rdTb_ext H.ext ht) oi hq
    have x := nxtA_in (T := T) ok z (p := gI led i) (c := q) (by rw [le]; exact oi) (by rw [le]; exact hq)
    rw [le] at x
    have ix : ixN led.length i = some i.toNat := ixN_in hi.1 hi.2
    obtain ⟨s1, e1, H1⟩ := g_set H 1 rfl (.lst ((led.set i.toNat (nxtA ab T (gI led i) q)).map .int))
    have ms : (led.set i.toNat (nxtA ab T (gI led i) q)).map D.int = (led.map D.int).set i.toNat (.int (nxtA ab T (gI led i) q)) := by rw [List.map_set]
    rw [ms] at e1
    obtain ⟨y8, s', e, H'⟩ := ih (led.set i.toNat (nxtA ab T (gI led i) q)) (some (.int i)) s1 (inN_set hI x) (by rw [List.length_set]; exact fun k hk => hj k (by simp [hk])) H1
    refine ⟨y8, s', ?_, H'⟩
    rw [List.map_cons, for_cons (stays_one (H.rd 0 rfl))]
    simp only [ev_gN, List.set_cons_succ, List.set_cons_zero]
    have step : b_law_both_1 [some (.ref a), some (.ref t), some (.ref c), some (.int q), some (.ref l), x5, x6, some (.ref g), some (.int i)] s = .nx [some (.ref a), some (.ref t), some (.ref c), some (.int q), some (.ref l), x5, x6, some (.ref g), some (.int i)] s1 := by
      simp -implicitDefEqProofs [b_law_both_1, rl, g1, f, ix, e1, -List.map_set]
    rw [step, loopS_nx, e]
theorem see_in {is : List Int} : inN is.length (seeA T is q) := fun i hi => by
  have := mem_rI.mp (List.mem_filter.mp hi).1
  omega
theorem both_out (ok : okA ab) (z : gI ab 0 = 0) (okt : okT T) (le : ab.length = T.length) (ha : rdL st0 a = some (ab.map .int)) (ht : rdTb st0 t = some T) (hq : 0 ≤ q ∧ q < T.length) : ∀ (m : Nat) (k : Int) (led : List Int) (w : Int) (z6 z7 z8 : Option D) (s : Sto), inN T.length led → led.length < 1000 → HS st0 s [(l, .lst (led.map .int))] →
    ∃ z6' z7' z8' s', forS [] (gN 6) b_law_both_2 (rng k m) [some (.ref a), some (.ref t), some (.ref c), some (.int q), some (.ref l), some (.int w), z6, z7, z8] s = .nx [some (.ref a), some (.ref t), some (.ref c), some (.int q), some (.ref l), some (.int (bthA ab T q m led w).2), z6', z7', z8'] s' ∧
      HS st0 s' [(l, .lst ((bthA ab T q m led w).1.map .int))] := by
  intro m
  induction m with
  | zero => intro k led w z6 z7 z8 s _ _ H; exact ⟨z6, z7, z8, s, by rw [rng_nil, for_nil0]; rfl, H⟩
  | succ m ih =>
    intro k led w z6 z7 z8 s hI hl H
    have rl := H.rd 0 rfl
    have fi := in_ints (v := q) rl (by omega)
    by_cases c0 : q ∈ led
    · have cc : led.contains q = true := by simpa using c0
      rw [cc] at fi
      refine ⟨some (.int k), z7, z8, s, ?_, ?_⟩
      · rw [rng_cons, for_cons0]
        simp only [ev_gN, List.set_cons_succ, List.set_cons_zero]
        have step : b_law_both_2 [some (.ref a), some (.ref t), some (.ref c), some (.int q), some (.ref l), some (.int w), some (.int k), z7, z8] s = .brk [some (.ref a), some (.ref t), some (.ref c), some (.int q), some (.ref l), some (.int w), some (.int k), z7, z8] s := by
          simp -implicitDefEqProofs [b_law_both_2, fi, mBrk]
        rw [step, loopS_brk]
        simp only [bthA, if_pos c0]
      · simpa only [bthA, if_pos c0] using H
    · have cc : led.contains q = false := by simpa using c0
      rw [cc] at fi
      have f := c_seeing okt (rdTb_ext H.ext ht) rl hI hq hl
      obtain ⟨s1, g, e1, e1', H1⟩ := g_new H (.lst ((seeA T led q).map .int))
      rw [e1, e1'] at f
      have rg := H1.rd 0 rfl
      obtain ⟨y8, s2, e2, H2⟩ := both_in (c := c) (g := g) (l := l) (x5 := some (.int (w + (seeA T led q).length))) (x6 := some (.int k)) (js0 := seeA T led q) ok z okt le ha ht hq (seeA T led q) led z8 s1 hI see_in H1
      have go := goA_ok (q := q) ok z le hq (seeA T led q) led hI see_in
      obtain ⟨w6, w7, w8, s', e, H'⟩ := ih (k + 1) (goA ab T q (seeA T led q) led) (w + (seeA T led q).length) (some (.int k)) (some (.ref g)) y8 s2 go.1 (by rw [go.2]; exact hl) H2.tail
      refine ⟨w6, w7, w8, s', ?_, ?_⟩
      · rw [rng_cons, for_cons0]
        simp only [ev_gN, List.set_cons_succ, List.set_cons_zero]
        have step : b_law_both_2 [some (.ref a), some (.ref t), some (.ref c), some (.int q), some (.ref l), some (.int w), some (.int k), z7, z8] s = .nx [some (.ref a), some (.ref t), some (.ref c), some (.int q), some (.ref l), some (.int (w + (seeA T led q).length)), some (.int k), some (.ref g), y8] s2 := by
          simp -implicitDefEqProofs [b_law_both_2, fi, f, rg, e2]
        rw [step, loopS_nx, e]
        simp only [bthA, if_neg c0]
      · simpa only [bthA, if_neg c0] using H'
end
theorem hm_law_both : ∀ ds st0, ds.length = 4 → wfS st0 → wfD.wfDs st0.length ds → Fin st0.length (retR (m_law_both (startE 9 ds) st0)) (F_law_both ds st0) := by
  intro ds st0 hl hw hd
  unfold F_law_both
  split
  · split
    · split
      · split
        · rename_i a t c q _ _ _ xs T ys ha ht hc _ _ ab is hj hj2 cond
          have hx := intsD_map hj
          subst hx
          have hx := intsD_map hj2
          subst hx
          obtain ⟨c1, c2, c3, c4, c5, c6, c7⟩ := cond
          obtain ⟨s1, l, e1, e1', H1⟩ := g_new (HS.nil st0) (.lst (is.map .int))
          obtain ⟨z6, z7, z8, s2, e2, H2⟩ := both_out (c := c) (l := l) c1 c2 c3 c4 ha ht c6 ab.length 0 is 0 none none none s1 c5 c7 H1
          have ra := H1.old ha
          have bb : -4611686018427387904 ≤ (ab.length : Int) ∧ (ab.length : Int) < 4611686018427387904 := by have := c1.2.1; omega
          have e : retR (m_law_both (startE 9 [.ref a, .ref t, .ref c, .int q]) st0) = .ok (.tup [.ref l, .int (bthA ab T q ab.length is 0).2]) s2 := by
            simp -implicitDefEqProofs [m_law_both, startE, hc, e1, e1', ra, bb, e2]
          rw [e]
          exact fin_tupI hw H2 0 rfl wf_intsL
        · exact fin_bad
      · exact fin_bad
    · exact fin_bad
  · exact fin_bad
end Lw
set_option maxRecDepth 100000
set_option maxHeartbeats 4000000
/-! the table measures the tree -/
namespace Lw
open PySem PySem.Spec PyProof.Rows L2 Dn
/-- points and what is above, in an order in which all comes behind what is above it -/
structure PtOk (rs pts : List (Int × Int)) (ab : List Int) : Prop where
  okr : okR rs
  len : ab.length = pts.length
  pos : 0 < pts.length
  z : gI ab 0 = 0
  root : atN pts 0 = (0, 0)
  vp : ∀ p ∈ pts, Vp rs p
  nod : pts.Nodup
  up : ∀ i : Nat, 0 < i → i < pts.length → (0 ≤ gI ab i ∧ gI ab i < i) ∧ atN pts (gI ab i) = nextP rs (atN pts i) ∧ (atN pts i).1 ≠ 0
section
variable {rs pts : List (Int × Int)} {ab : List Int}
theorem PtOk.mem (P : PtOk rs pts ab) {i : Nat} (h : i < pts.length) : atN pts i ∈ pts := (atN_mem (ps := pts) (i := (i : Int)) (by omega) (by omega)).1
theorem PtOk.v (P : PtOk rs pts ab) {i : Nat} (h : i < pts.length) : Vp rs (atN pts i) := P.vp _ (P.mem h)
theorem PtOk.pt (P : PtOk rs pts ab) {i : Nat} (h : i < pts.length) : isPt rs (atN pts i) = true := vp_pt P.okr (P.v h)
theorem PtOk.inj (P : PtOk rs pts ab) {i j : Nat} (hi : i < pts.length) (hj : j < pts.length) (e : atN pts i = atN pts j) : i = j := by
  have e1 : atN pts i = pts[i] := by simp [atN, hi]
  have e2 : atN pts j = pts[j] := by simp [atN, hj]
  rw [e1, e2] at e
  exact (List.getElem_inj P.nod).mp e
theorem PtOk.okA (P : PtOk rs pts ab) (h : pts.length < 90000) : okA ab := ⟨by rw [P.len]; exact P.pos, by rw [P.len]; exact h, fun i h1 h2 => (P.up i h1 (by rw [← P.len]; exact h2)).1⟩
theorem PtOk.upN (P : PtOk rs pts ab) {i : Nat} (h0 : 0 < i) (h : i < pts.length) : ∃ u : Nat, gI ab i = u ∧ u < i ∧ atN pts u = nextP rs (atN pts i) := by
  obtain ⟨a, b, _⟩ := P.up i h0 h
  refine ⟨(gI ab i).toNat, by omega, by omega, ?_⟩
  rw [show (((gI ab i).toNat : Nat) : Int) = gI ab i by omega]
  exact b
/-- all on the way up comes earlier -/
theorem PtOk.anc (P : PtOk rs pts ab) : ∀ (n q : Nat), q ≤ n → q < pts.length → ∀ x ∈ climb rs (atN pts q), ∃ j : Nat, j ≤ q ∧ x = atN pts j := by
  intro n
  induction n with
  | zero =>
    intro q hq hl x hx
    have : q = 0 := by omega
    subst this
    rw [climb_rec P.okr (P.v hl)] at hx
    have r := P.root
    rw [show ((0 : Nat) : Int) = 0 from rfl] at hx
    rw [r] at hx
    simp at hx
    exact ⟨0, Nat.le_refl _, by rw [hx]; exact r.symm⟩
  | succ n ih =>
    intro q hq hl x hx
    by_cases c : q = 0
    · subst c
      exact ih 0 (by omega) hl x hx
    · obtain ⟨u, e, hu, en⟩ := P.upN (by omega) hl
      have n0 := (P.up q (by omega) hl).2.2
      rw [climb_rec P.okr (P.v hl), if_neg n0] at hx
      rcases List.mem_cons.mp hx with h | h
      · exact ⟨q, Nat.le_refl _, h⟩
      · rw [← en] at h
        obtain ⟨j, hj, ej⟩ := ih u (by omega) (by omega) x h
        exact ⟨j, by omega, ej⟩
theorem way_next (cR : okR rs) {p q : Int × Int} (cp : Vp rs p) (cq : Vp rs q) (h0 : p.1 ≠ 0) (h : p ∉ climb rs q) : wayLen rs p q = wayLen rs (nextP rs p) q + 1 := by
  have cn := cp.next cR h0
  have m := top_mem cR cp cq
  have m' := top_mem cR cn cq
  have cl := climb_rec cR cp
  rw [if_neg h0] at cl
  have t1 : top rs p q ∈ climb rs (nextP rs p) := by
    have := m.1
    rw [cl] at this
    rcases List.mem_cons.mp this with e | e
    · exact absurd (e ▸ m.2) h
    · exact e
  have a := top_max cR cn cq t1 m.2
  have b := top_max cR cp cq (x := top rs (nextP rs p) q) (by rw [cl]; exact List.mem_cons_of_mem _ m'.1) m'.2
  have d := depAt_next cR cp h0
  unfold wayLen
  omega
theorem PtOk.dist (P : PtOk rs pts ab) (hl : pts.length < 90000) : ∀ (n p q : Nat), p + q ≤ n → p < pts.length → q < pts.length → tV ab p q = wayLen rs (atN pts p) (atN pts q) := by
  have ok := P.okA hl
  have half : ∀ (n : Nat), (∀ p q : Nat, p + q ≤ n → p < pts.length → q < pts.length → tV ab p q = wayLen rs (atN pts p) (atN pts q)) → ∀ p q : Nat, p + q ≤ n + 1 → q < p → p < pts.length → tV ab p q = wayLen rs (atN pts p) (atN pts q) := by
    intro n ih p q h hq hp
    obtain ⟨u, e, hu, en⟩ := P.upN (by omega) hp
    rw [tV_rec ok hq (by rw [P.len]; exact hp), e, Int.toNat_natCast, ih u q (by omega) (by omega) (by omega), way_next P.okr (P.v hp) (P.v (by omega)) (P.up p (by omega) hp).2.2, en]
    intro hm
    obtain ⟨j, hj, ej⟩ := P.anc q q (Nat.le_refl _) (by omega) _ hm
    have := P.inj hp (by omega) ej
    omega
  intro n
  induction n with
  | zero =>
    intro p q h hp hq
    have : p = q := by omega
    subst this
    rw [tV_self, way_self P.okr (P.pt hp)]
  | succ n ih =>
    intro p q h hp hq
    rcases Nat.lt_trichotomy p q with c | c | c
    · rw [tV_sym ok, half n ih q p (by omega) c hq, way_sym P.okr (P.pt hp) (P.pt hq)]
    · subst c
      rw [tV_self, way_self P.okr (P.pt hp)]
    · exact half n ih p q h c hp
/-- no way is longer than the greater number -/
theorem PtOk.short (P : PtOk rs pts ab) (hl : pts.length < 90000) : ∀ (n p q : Nat), p + q ≤ n → p < pts.length → q < pts.length → tV ab p q ≤ ((max p q : Nat) : Int) := by
  have ok := P.okA hl
  intro n
  induction n with
  | zero =>
    intro p q h hp hq
    have : p = q := by omega
    subst this
    rw [tV_self]
    omega
  | succ n ih =>
    intro p q h hp hq
    rcases Nat.lt_trichotomy p q with c | c | c
    · obtain ⟨u, e, hu, en⟩ := P.upN (by omega) hq
      rw [tV_sym ok, tV_rec ok c (by rw [P.len]; exact hq), e, Int.toNat_natCast]
      have := ih u p (by omega) (by omega) hp
      omega
    · subst c
      rw [tV_self]
      omega
    · obtain ⟨u, e, hu, en⟩ := P.upN (by omega) hp
      rw [tV_rec ok c (by rw [P.len]; exact hp), e, Int.toNat_natCast]
      have := ih u q (by omega) (by omega) hq
      omega
theorem tRows_len : (tRows ab).length = ab.length := by simp [tRows]
theorem tRows_ok (h : ab.length < 90000) : okT (tRows ab) := by
  refine ⟨by rw [tRows_len]; exact h, fun r hr => ?_⟩
  obtain ⟨i, _, rfl⟩ := List.mem_map.mp hr
  rw [tRow_len, tRows_len]
theorem gT_rows {p q : Int} (hp : 0 ≤ p ∧ p < ab.length) (hq : 0 ≤ q ∧ q < ab.length) : gTb (tRows ab) p q = tV ab p.toNat q.toNat := by
  unfold gTb gI tRows
  rw [List.getElem?_map, List.getElem?_range (by omega), Option.map_some, Option.getD_some, tRow_get (by omega)]
  rfl
theorem PtOk.tab (P : PtOk rs pts ab) (hl : pts.length < 90000) {p q : Int} (hp : 0 ≤ p ∧ p < pts.length) (hq : 0 ≤ q ∧ q < pts.length) : gTb (tRows ab) p q = wayLen rs (atN pts p) (atN pts q) := by
  rw [gT_rows (by rw [P.len]; exact hp) (by rw [P.len]; exact hq), P.dist hl (p.toNat + q.toNat) _ _ (Nat.le_refl _) (by omega) (by omega)]
  rw [show ((p.toNat : Nat) : Int) = p by omega, show ((q.toNat : Nat) : Int) = q by omega]
theorem PtOk.ptI (P : PtOk rs pts ab) {i : Int} (h : 0 ≤ i ∧ i < pts.length) : isPt rs (atN pts i) = true := vp_pt P.okr (P.vp _ (atN_mem h.1 h.2).1)
theorem PtOk.injI (P : PtOk rs pts ab) {i j : Int} (hi : 0 ≤ i ∧ i < pts.length) (hj : 0 ≤ j ∧ j < pts.length) : atN pts i = atN pts j ↔ i = j := by
  constructor
  · intro e
    have := P.inj (i := i.toNat) (j := j.toNat) (by omega) (by omega) (by rw [show ((i.toNat : Nat) : Int) = i by omega, show ((j.toNat : Nat) : Int) = j by omega]; exact e)
    omega
  · rintro rfl; rfl
theorem PtOk.upI (P : PtOk rs pts ab) {i : Int} (h0 : 0 < i) (h : i < pts.length) : (0 ≤ gI ab i ∧ gI ab i < i) ∧ atN pts (gI ab i) = nextP rs (atN pts i) ∧ (atN pts i).1 ≠ 0 := by
  have := P.up i.toNat (by omega) (by omega)
  rw [show ((i.toNat : Nat) : Int) = i by omega] at this
  exact this
theorem climb_self' (cR : okR rs) {p : Int × Int} (c : Vp rs p) : p ∈ climb rs p := by
  rw [climb_rec cR c]
  exact List.mem_cons_self
/-- down from p towards c -/
theorem PtOk.walk (P : PtOk rs pts ab) {p : Int} : ∀ (m : Nat) (q : Int), q ≤ m → (0 ≤ q ∧ q < pts.length) → (0 ≤ p ∧ p < pts.length) → atN pts p ∈ climb rs (atN pts q) → q ≠ p →
    (0 < wlkA ab p m q ∧ wlkA ab p m q < pts.length) ∧ gI ab (wlkA ab p m q) = p ∧ atN pts (wlkA ab p m q) ∈ climb rs (atN pts q) := by
  intro m
  have z0 : ∀ q : Int, (0 ≤ q ∧ q < pts.length) → (0 ≤ p ∧ p < pts.length) → atN pts p ∈ climb rs (atN pts q) → q ≠ p → q ≠ 0 := fun q hq hp h hne h0 => by
    subst h0
    have r := P.root
    rw [climb_rec P.okr (P.vp _ (atN_mem hq.1 hq.2).1)] at h
    rw [r] at h
    simp at h
    rw [← r] at h
    exact hne ((P.injI hp hq).mp h).symm
  induction m with
  | zero =>
    intro q h hq hp hm hne
    exact absurd (by omega) (z0 q hq hp hm hne)
  | succ m ih =>
    intro q h hq hp hm hne
    have q0 := z0 q hq hp hm hne
    have u := P.upI (i := q) (by omega) hq.2
    have cq := P.vp _ (atN_mem hq.1 hq.2).1
    unfold wlkA
    by_cases c : gI ab q = p
    · rw [if_pos c]
      exact ⟨⟨by omega, hq.2⟩, c, climb_self' P.okr cq⟩
    · rw [if_neg c]
      have cl := climb_rec P.okr cq
      rw [if_neg u.2.2] at cl
      have hm' : atN pts p ∈ climb rs (atN pts (gI ab q)) := by
        rw [cl] at hm
        rcases List.mem_cons.mp hm with e | e
        · exact absurd ((P.injI hp hq).mp e).symm hne
        · rw [u.2.1]; exact e
      obtain ⟨a, b, d⟩ := ih (gI ab q) (by omega) ⟨u.1.1, by omega⟩ hp hm' c
      refine ⟨a, b, ?_⟩
      rw [cl]
      refine List.mem_cons_of_mem _ ?_
      rw [← u.2.1]
      exact d
/-- the next point of the law is one step on -/
theorem PtOk.next (P : PtOk rs pts ab) (hl : pts.length < 90000) {p c : Int} (hp : 0 ≤ p ∧ p < pts.length) (hc : 0 ≤ c ∧ c < pts.length) (hne : p ≠ c) : (0 ≤ nxtA ab (tRows ab) p c ∧ nxtA ab (tRows ab) p c < pts.length) ∧ atN pts (nxtA ab (tRows ab) p c) = stepTo rs (atN pts p) (atN pts c) 1 := by
  have cR := P.okr
  have pp := P.ptI hp
  have pc := P.ptI hc
  have vp_ := isPt_vp cR pp
  have vc := isPt_vp cR pc
  have w0 : wayLen rs (atN pts p) (atN pts c) ≠ 0 := fun h => hne ((P.injI hp hc).mp ((way_eq0 cR pp pc).mp h))
  have wn := way_nn cR pp pc
  obtain ⟨i1, d1, e1⟩ := step_way cR pp pc (a := 1) (by omega) (by omega)
  unfold nxtA
  by_cases k : 0 < p ∧ gTb (tRows ab) (gI ab p) c < gTb (tRows ab) p c
  · rw [if_pos k]
    have u := P.upI (i := p) k.1 hp.2
    have hu : 0 ≤ gI ab p ∧ gI ab p < pts.length := ⟨u.1.1, by omega⟩
    rw [P.tab hl hu hc, P.tab hl hp hc] at k
    have pu := P.ptI hu
    have nx : nextP rs (atN pts p) ∈ climb rs (atN pts p) := by
      rw [climb_rec cR vp_, if_neg u.2.2]
      exact List.mem_cons_of_mem _ (climb_self' cR (vp_.next cR u.2.2))
    have wu := (way_up cR vp_ nx).1
    rw [depAt_next cR vp_ u.2.2] at wu
    rw [u.2.1] at k pu
    have tr := way_tri cR pp pu pc
    refine ⟨hu, ?_⟩
    rw [u.2.1]
    exact on_unique cR pp pc pu i1 (by omega) (by omega) (by omega)
  · rw [if_neg k]
    have pm : atN pts p ∈ climb rs (atN pts c) := by
      by_cases h : atN pts p ∈ climb rs (atN pts c)
      · exact h
      · exfalso
        by_cases p0 : 0 < p
        · have u := P.upI (i := p) p0 hp.2
          have hu : 0 ≤ gI ab p ∧ gI ab p < pts.length := ⟨u.1.1, by omega⟩
          have wn := way_next cR vp_ vc u.2.2 h
          apply k
          rw [P.tab hl hu hc, P.tab hl hp hc, u.2.1]
          exact ⟨p0, by omega⟩
        · have : p = 0 := by omega
          subst this
          apply h
          rw [P.root, mem_climb cR vc ⟨Int.le_refl _, by simp, Int.le_refl _, fun _ => rfl, fun h => absurd h (by simp)⟩]
          refine ⟨line_root cR vc.lo vc.hi, fun h => ?_⟩
          have h : (0 : Int) = (atN pts c).1 := h
          have := vc.uz h.symm
          rw [this]
          exact Int.le_refl _
    obtain ⟨a, b, d⟩ := P.walk (p := p) ab.length c (by rw [P.len]; omega) hc hp pm (Ne.symm hne)
    have u := P.upI a.1 a.2
    have hr : 0 ≤ wlkA ab p ab.length c ∧ wlkA ab p ab.length c < pts.length := ⟨by omega, a.2⟩
    have pr := P.ptI hr
    have vr := isPt_vp cR pr
    rw [b] at u
    have up1 : atN pts p ∈ climb rs (atN pts (wlkA ab p ab.length c)) := by
      rw [climb_rec cR vr, if_neg u.2.2, ← u.2.1]
      exact List.mem_cons_of_mem _ (climb_self' cR vp_)
    have w1 := (way_up cR vr up1).2
    have w2 := (way_up cR vc d).2
    have w3 := (way_up cR vc pm).2
    rw [u.2.1, depAt_next cR vr u.2.2, ← u.2.1] at w1
    have dn := depAt_next cR vr u.2.2
    rw [← u.2.1] at dn
    refine ⟨hr, ?_⟩
    exact on_unique cR pp pc pr i1 (by omega) (by omega) (by omega)
end
end Lw
set_option maxRecDepth 100000
set_option maxHeartbeats 4000000
namespace Lw
open PySem PySem.Spec PyProof.Rows L2 Dn
theorem rI_nodup2 : ∀ (k : Nat) (t : Int), (rI t k).Nodup
  | 0, _ => List.nodup_nil
  | k + 1, t => by
    rw [rI, List.nodup_cons]
    refine ⟨fun h => ?_, rI_nodup2 k (t + 1)⟩
    have := mem_rI.mp h
    omega
/-- the points of a list of numbers -/
def ptsOf (pts : List (Int × Int)) (is : List Int) : List (Int × Int) := is.map (atN pts)
section
variable {rs pts : List (Int × Int)} {ab is : List Int}
theorem ptsOf_len : (ptsOf pts is).length = is.length := by simp [ptsOf]
theorem ptsOf_at {i : Int} (h : 0 ≤ i ∧ i < is.length) : atN (ptsOf pts is) i = atN pts (gI is i) := by
  have hi : i.toNat < is.length := by omega
  unfold atN ptsOf gI
  rw [List.getElem?_map, List.getElem?_eq_getElem hi]
  rfl
theorem PtOk.all (P : PtOk rs pts ab) (h : inN pts.length is) : allP rs (ptsOf pts is) := fun p hp => by
  obtain ⟨i, hi, rfl⟩ := List.mem_map.mp hp
  exact P.ptI (h i hi)
theorem PtOk.mem_iff (P : PtOk rs pts ab) (h : inN pts.length is) {c : Int} (hc : 0 ≤ c ∧ c < pts.length) : c ∈ is ↔ atN pts c ∈ ptsOf pts is := by
  constructor
  · intro k; exact List.mem_map.mpr ⟨c, k, rfl⟩
  · intro k
    obtain ⟨i, hi, e⟩ := List.mem_map.mp k
    rw [← (P.injI (h i hi) hc).mp e]
    exact hi
/-- who sees, by the table -/
theorem PtOk.see (P : PtOk rs pts ab) (hl : pts.length < 90000) (h : inN pts.length is) {c : Int} (hc : 0 ≤ c ∧ c < pts.length) : seeA (tRows ab) is c = dueF rs (ptsOf pts is) (atN pts c) := by
  unfold seeA dueF
  rw [ptsOf_len]
  apply List.filter_congr
  intro i hi
  have hi := mem_rI.mp hi
  have hi : 0 ≤ i ∧ i < is.length := ⟨hi.1, by omega⟩
  unfold frA seesF
  rw [ptsOf_len]
  rw [Bool.eq_iff_iff, List.all_eq_true, List.all_eq_true]
  have key : ∀ j ∈ rI 0 is.length, blkA (tRows ab) is c i j = badF rs (ptsOf pts is) (atN pts c) i j := by
    intro j hj
    have hj := mem_rI.mp hj
    have hj : 0 ≤ j ∧ j < is.length := ⟨hj.1, by omega⟩
    have oi := h _ (gI_mem hi)
    have oj := h _ (gI_mem hj)
    unfold blkA badF awA
    rw [ptsOf_at hi, ptsOf_at hj, P.tab hl oi oj, P.tab hl oj hc, P.tab hl oi hc]
    have e := P.injI oi oj
    have e' := P.injI oj oi
    have z := way_eq0 P.okr (P.ptI oi) (P.ptI oj)
    have n := way_nn P.okr (P.ptI oi) (P.ptI oj)
    rw [Bool.eq_iff_iff, decide_eq_true_eq, decide_eq_true_eq, e']
    rw [e] at z
    omega
  constructor
  · intro k j hj
    rw [← key j hj]
    exact k j hj
  · intro k j hj
    rw [key j hj]
    exact k j hj
/-- each number of the list steps on -/
theorem goA_get {T : List (List Int)} {c : Int} : ∀ (js led : List Int), js.Nodup → inN led.length js → ∀ i : Int, 0 ≤ i ∧ i < led.length → gI (goA ab T c js led) i = if i ∈ js then nxtA ab T (gI led i) c else gI led i
  | [], led, _, _, i, _ => by simp [goA]
  | j :: r, led, hn, hj, i, hi => by
    have hj0 := hj j (by simp)
    have nd := List.nodup_cons.mp hn
    rw [goA, goA_get r _ nd.2 (by rw [List.length_set]; exact fun k hk => hj k (by simp [hk])) i (by rw [List.length_set]; exact hi)]
    by_cases c1 : i = j
    · subst c1
      rw [if_neg nd.1, if_pos (by simp)]
      unfold gI
      rw [List.getElem?_set_self (by omega)]
      rfl
    · have e : gI (led.set j.toNat (nxtA ab T (gI led j) c)) i = gI led i := by
        unfold gI
        rw [List.getElem?_set_ne (by omega)]
      rw [e]
      by_cases c2 : i ∈ r
      · rw [if_pos c2, if_pos (by simp [c2])]
      · rw [if_neg c2, if_neg (by simp [c1, c2])]
theorem ptsOf_ext {L : List (Int × Int)} {is : List Int} (hl : L.length = is.length) (h : ∀ i : Int, 0 ≤ i ∧ i < is.length → atN pts (gI is i) = atN L i) : ptsOf pts is = L := by
  apply List.ext_getElem?
  intro k
  by_cases d : k < is.length
  · have e := h k ⟨by omega, by omega⟩
    unfold ptsOf
    rw [List.getElem?_map, List.getElem?_eq_getElem d, Option.map_some, List.getElem?_eq_getElem (by omega)]
    have e1 : gI is k = is[k] := by simp [gI, d]
    have e2 : atN L k = L[k]'(by omega) := by simp [atN, show k < L.length by omega]
    rw [e1, e2] at e
    rw [e]
  · rw [List.getElem?_eq_none (by rw [ptsOf_len]; omega), List.getElem?_eq_none (by omega)]
/-- how far all have gone behind t steps -/
def wayT (rs ps : List (Int × Int)) (q : Int × Int) (t : Int) : Int := ((rI 0 ps.length).map fun i => min t (goneF rs ps q i)).sum
theorem sum_step (f g : Int → Int) (b : Int → Bool) (h : ∀ i, g i = f i + if b i = true then 1 else 0) : ∀ L : List Int, (L.map g).sum = (L.map f).sum + (L.filter b).length
  | [] => rfl
  | i :: r => by
    rw [List.map_cons, List.sum_cons, List.map_cons, List.sum_cons, sum_step f g b h r, h i, List.filter_cons]
    split
    · rw [List.length_cons]
      push_cast
      omega
    · omega
theorem sum_congr {f g : Int → Int} : ∀ {L : List Int}, (∀ i ∈ L, f i = g i) → (L.map f).sum = (L.map g).sum
  | [], _ => rfl
  | i :: r, h => by
    rw [List.map_cons, List.sum_cons, List.map_cons, List.sum_cons, h i (by simp), sum_congr fun j hj => h j (by simp [hj])]
theorem PtOk.steps (P : PtOk rs pts ab) (hl : pts.length < 90000) (h : inN pts.length is) (h0 : 0 < is.length) {c : Int} (hc : 0 ≤ c ∧ c < pts.length) : ∀ (m : Nat) (t : Int) (led : List Int), 0 ≤ t → t + m = nearW rs (ptsOf pts is) (atN pts c) + 1 → led.length = is.length → inN pts.length led → ptsOf pts led = posC rs (ptsOf pts is) (atN pts c) t →
    ∀ k : Nat, (bthA ab (tRows ab) c (m + k) led (wayT rs (ptsOf pts is) (atN pts c) t)).2 = bothW rs (ptsOf pts is) (atN pts c) ∧ ptsOf pts (bthA ab (tRows ab) c (m + k) led (wayT rs (ptsOf pts is) (atN pts c) t)).1 = bothC rs (ptsOf pts is) (atN pts c) ∧ inN pts.length (bthA ab (tRows ab) c (m + k) led (wayT rs (ptsOf pts is) (atN pts c) t)).1 := by
  have cR := P.okr
  have ap := P.all h
  have pc := P.ptI hc
  have lp := ptsOf_len (pts := pts) (is := is)
  obtain ⟨ps, hps⟩ : ∃ ps, ptsOf pts is = ps := ⟨_, rfl⟩
  obtain ⟨q, hq⟩ : ∃ q, atN pts c = q := ⟨_, rfl⟩
  rw [hps] at ap lp ⊢
  rw [hq] at pc ⊢
  have ok := P.okA hl
  have done : ∀ t : Int, nearW rs ps q ≤ t → wayT rs ps q t = bothW rs ps q := fun t ht => by
    unfold wayT bothW
    refine sum_congr fun i hi => ?_
    have hi := mem_rI.mp hi
    have := gone_near cR ap pc (i := i) ⟨hi.1, by omega⟩
    omega
  intro m
  induction m with
  | zero =>
    intro t led t0 ht ll il pl k
    have cin : c ∈ led := (P.mem_iff il hc).mpr (by rw [pl, hq]; exact (at_call cR ap pc t0 (by omega)).mpr (by omega))
    have e : bthA ab (tRows ab) c (0 + k) led (wayT rs ps q t) = (led, wayT rs ps q t) := by
      cases k with
      | zero => rfl
      | succ k =>
        rw [Nat.zero_add]
        simp only [bthA, if_pos cin]
    rw [e]
    exact ⟨done t (by omega), by rw [pl, posC_T cR ap pc (by omega)], il⟩
  | succ m ih =>
    intro t led t0 ht ll il pl k
    rw [show m + 1 + k = (m + k) + 1 by omega]
    simp only [bthA]
    by_cases cin : c ∈ led
    · rw [if_pos cin]
      have := (P.mem_iff il hc).mp cin
      rw [pl, hq, at_call cR ap pc t0 (by omega)] at this
      exact ⟨done t this, by rw [pl, posC_T cR ap pc this], il⟩
    · rw [if_neg cin]
      have tn : t < nearW rs ps q := by
        apply Classical.byContradiction
        intro hge
        apply cin
        refine (P.mem_iff il hc).mpr ?_
        rw [pl, hq]
        exact (at_call cR ap pc t0 (by omega)).mpr (by omega)
      have se := P.see hl il hc
      rw [pl, hq] at se
      have sj : seeA (tRows ab) led c = (rI 0 ps.length).filter fun i => decide (t < goneF rs ps q i) := by
        rw [se]
        unfold dueF
        rw [posC_len]
        apply List.filter_congr
        intro i hi
        have hi := mem_rI.mp hi
        exact sees_pos cR ap pc t0 tn ⟨hi.1, by omega⟩
      have le : ab.length = (tRows ab).length := tRows_len.symm
      have lT : (tRows ab).length = pts.length := by rw [tRows_len, P.len]
      have gok := goA_ok (T := tRows ab) (q := c) ok P.z le (by rw [lT]; exact hc) (seeA (tRows ab) led c) led (by rw [lT]; exact il) see_in
      rw [lT] at gok
      have wt : wayT rs ps q t + ((seeA (tRows ab) led c).length : Int) = wayT rs ps q (t + 1) := by
        rw [sj]
        unfold wayT
        rw [sum_step (fun i => min t (goneF rs ps q i)) (fun i => min (t + 1) (goneF rs ps q i)) (fun i => decide (t < goneF rs ps q i)) (fun i => by
          by_cases x : t < goneF rs ps q i
          · rw [if_pos (by simpa using x)]
            omega
          · rw [if_neg (by simpa using x)]
            omega)]
      have lp' : ps.length = is.length := lp
      have pl' : ptsOf pts (goA ab (tRows ab) c (seeA (tRows ab) led c) led) = posC rs ps q (t + 1) := by
        refine ptsOf_ext (by rw [posC_len, gok.2]; omega) fun i hi => ?_
        rw [gok.2] at hi
        have hi2 : 0 ≤ i ∧ i < ps.length := ⟨hi.1, by omega⟩
        rw [goA_get (seeA (tRows ab) led c) led (show (seeA (tRows ab) led c).Nodup from (rI_nodup2 _ _).filter _) see_in i hi, posC_at hi2, posF_succ cR ap pc t0 hi2]
        have pa : atN pts (gI led i) = posF rs ps q t i := by
          rw [← ptsOf_at hi, pl, posC_at hi2]
        rw [sj]
        by_cases x : t < goneF rs ps q i
        · have m1 : i ∈ (rI 0 ps.length).filter fun i => decide (t < goneF rs ps q i) := List.mem_filter.mpr ⟨mem_rI.mpr ⟨hi2.1, by omega⟩, by simpa using x⟩
          rw [if_pos m1, if_pos x]
          have ne : gI led i ≠ c := fun e => cin (by rw [← e]; exact gI_mem hi)
          have := (P.next hl (il _ (gI_mem hi)) hc ne).2
          rw [this, pa, hq]
        · have m1 : ¬ i ∈ (rI 0 ps.length).filter fun i => decide (t < goneF rs ps q i) := fun hm => x (by simpa using (List.mem_filter.mp hm).2)
          rw [if_neg m1, if_neg x]
          exact pa
      have := ih (t + 1) _ (by omega) (by omega) (by rw [gok.2]; exact ll) gok.1 pl' k
      rw [wt]
      exact this
/-- the law's Both, by steps on its table, is the program's -/
theorem PtOk.both (P : PtOk rs pts ab) (hl : pts.length < 90000) (h : inN pts.length is) (h0 : 0 < is.length) {c : Int} (hc : 0 ≤ c ∧ c < pts.length) :
    (bthA ab (tRows ab) c ab.length is 0).2 = bothW rs (ptsOf pts is) (atN pts c) ∧ ptsOf pts (bthA ab (tRows ab) c ab.length is 0).1 = bothC rs (ptsOf pts is) (atN pts c) ∧ inN pts.length (bthA ab (tRows ab) c ab.length is 0).1 := by
  have cR := P.okr
  have ap := P.all h
  have pc := P.ptI hc
  have lp := ptsOf_len (pts := pts) (is := is)
  have near : nearW rs (ptsOf pts is) (atN pts c) < ab.length := by
    obtain ⟨m, hm, em⟩ := nearW_is (rs := rs) (ps := ptsOf pts is) (q := atN pts c) (by omega)
    rw [lp] at hm
    have om := h _ (gI_mem hm)
    have e : awA rs (ptsOf pts is) (atN pts c) m = wayLen rs (atN pts (gI is m)) (atN pts c) := by
      unfold awA
      rw [ptsOf_at hm]
    have d := P.dist hl _ (gI is m).toNat c.toNat (Nat.le_refl _) (by omega) (by omega)
    have s := P.short hl _ (gI is m).toNat c.toNat (Nat.le_refl _) (by omega) (by omega)
    rw [show (((gI is m).toNat : Nat) : Int) = gI is m by omega, show ((c.toNat : Nat) : Int) = c by omega] at d
    have := P.len
    omega
  have nn : 0 ≤ nearW rs (ptsOf pts is) (atN pts c) := by
    obtain ⟨m, hm, em⟩ := nearW_is (rs := rs) (ps := ptsOf pts is) (q := atN pts c) (by omega)
    rw [← em]
    exact way_nn cR (ap _ (atN_mem hm.1 hm.2).1) pc
  have w0 : wayT rs (ptsOf pts is) (atN pts c) 0 = 0 := by
    unfold wayT
    have : ∀ L : List Int, (∀ i ∈ L, 0 ≤ i ∧ i < (ptsOf pts is).length) → (L.map fun i => min 0 (goneF rs (ptsOf pts is) (atN pts c) i)).sum = 0 := by
      intro L
      induction L with
      | nil => intro _; rfl
      | cons i r ih =>
        intro hL
        have g := gone_in cR ap pc (hL i (by simp))
        rw [List.map_cons, List.sum_cons, ih fun j hj => hL j (by simp [hj])]
        omega
    refine this _ fun i hi => ?_
    have hi := mem_rI.mp hi
    omega
  have := P.steps hl h h0 hc (nearW rs (ptsOf pts is) (atN pts c) + 1).toNat 0 is (Int.le_refl _) (by omega) rfl h (by rw [posC_0 cR ap pc]) (ab.length - (nearW rs (ptsOf pts is) (atN pts c) + 1).toNat)
  rw [w0, show (nearW rs (ptsOf pts is) (atN pts c) + 1).toNat + (ab.length - (nearW rs (ptsOf pts is) (atN pts c) + 1).toNat) = ab.length by omega] at this
  exact this
end
end Lw
set_option maxRecDepth 100000
set_option maxHeartbeats 4000000
/-! the points that the laws lay -/
namespace Lw
open PySem PySem.Spec PyProof.Rows L2 Dn
structure PbOk (rs : List (Int × Int)) (v : Int) (P : List (Int × Int)) (A N : List Int) : Prop where
  len : A.length = P.length
  pos : 0 < P.length
  z : gI A 0 = 0
  root : atN P 0 = (0, 0)
  vp : ∀ p ∈ P, Vp rs p ∧ p.1 ≤ v
  nod : P.Nodup
  up : ∀ i : Nat, 0 < i → i < P.length → (0 ≤ gI A i ∧ gI A i < i) ∧ atN P (gI A i) = nextP rs (atN P i) ∧ (atN P i).1 ≠ 0
  nds : ∀ u : Int, 0 ≤ u → u < N.length → (0 ≤ gI N u ∧ gI N u < P.length) ∧ atN P (gI N u) = (u, 0)
theorem gI_app {xs ys : List Int} {i : Int} (h : 0 ≤ i ∧ i < xs.length) : gI (xs ++ ys) i = gI xs i := by
  unfold gI
  rw [List.getElem?_append_left (by omega)]
theorem gI_last {xs : List Int} {x : Int} : gI (xs ++ [x]) xs.length = x := by
  unfold gI
  rw [Int.toNat_natCast, List.getElem?_append_right (Nat.le_refl _), Nat.sub_self]
  rfl
theorem atN_app {xs ys : List (Int × Int)} {i : Int} (h : 0 ≤ i ∧ i < xs.length) : atN (xs ++ ys) i = atN xs i := by
  unfold atN
  rw [List.getElem?_append_left (by omega)]
theorem atN_last {xs : List (Int × Int)} {x : Int × Int} : atN (xs ++ [x]) xs.length = x := by
  unfold atN
  rw [Int.toNat_natCast, List.getElem?_append_right (Nat.le_refl _), Nat.sub_self]
  rfl
/-- one point more -/
theorem PbOk.more {rs P : List (Int × Int)} {A N : List Int} {v last : Int} {x : Int × Int} (B : PbOk rs v P A N) (hx : Vp rs x) (hv : x.1 ≤ v) (h0 : x.1 ≠ 0) (hn : x ∉ P) (hl : 0 ≤ last ∧ last < P.length) (hu : atN P last = nextP rs x) : PbOk rs v (P ++ [x]) (A ++ [last]) N where
  len := by simp [B.len]
  pos := by simp
  z := by rw [gI_app ⟨by omega, by have := B.pos; rw [B.len]; omega⟩]; exact B.z
  root := by rw [atN_app ⟨by omega, by have := B.pos; omega⟩]; exact B.root
  vp := fun p hp => by
    rcases List.mem_append.mp hp with k | k
    · exact B.vp p k
    · rw [List.mem_singleton.mp k]; exact ⟨hx, hv⟩
  nod := by
    rw [List.nodup_append]
    refine ⟨B.nod, by simp, fun a ha b hb => ?_⟩
    rw [List.mem_singleton.mp hb]
    rintro rfl
    exact hn ha
  up := fun i h1 h2 => by
    by_cases c : i < P.length
    · have u := B.up i h1 c
      rw [gI_app ⟨by omega, by rw [B.len]; omega⟩, atN_app (i := (i : Int)) ⟨by omega, by omega⟩, atN_app (i := gI A i) ⟨u.1.1, by omega⟩]
      exact u
    · have e : i = P.length := by simp at h2; omega
      subst e
      have g : gI (A ++ [last]) (P.length : Int) = last := by rw [← B.len]; exact gI_last
      rw [g, atN_last, atN_app hl]
      exact ⟨by omega, hu, h0⟩
  nds := fun u h1 h2 => by
    have n := B.nds u h1 h2
    rw [atN_app n.1]
    refine ⟨⟨n.1.1, ?_⟩, n.2⟩
    rw [List.length_append, List.length_cons, List.length_nil]
    push_cast
    omega
theorem ptI_ok {rs : List (Int × Int)} {N : List Int} {v par len : Int} (cR : okR rs) (v0 : 0 < v) (v1 : v ≤ rs.length) (hp : parAt rs v = par) (hlen : lenAt rs v = len) : ∀ (m : Nat) (k last : Int) (P : List (Int × Int)) (A : List Int), 0 ≤ k → k + m = len → PbOk rs v P A N → (0 ≤ last ∧ last < P.length) → atN P last = (if k = 0 then (par, 0) else (v, len - k)) → (∀ p ∈ P, p.1 = v → len - k ≤ p.2) →
    PbOk rs v (ptI v len m k last P A).1 (ptI v len m k last P A).2.1 N ∧ (0 ≤ (ptI v len m k last P A).2.2 ∧ (ptI v len m k last P A).2.2 < (ptI v len m k last P A).1.length) ∧ atN (ptI v len m k last P A).1 (ptI v len m k last P A).2.2 = (if len = 0 then (par, 0) else (v, 0))
  | 0, k, last, P, A, k0, hk, B, hl, ha, _ => by
    have : k = len := by omega
    subst this
    refine ⟨B, hl, ?_⟩
    show atN P last = _
    rw [ha]
    split
    · rfl
    · rw [Int.sub_self]
  | m + 1, k, last, P, A, k0, hk, B, hl, ha, hm => by
    have lp := okR_at cR v0 v1
    have vx : Vp rs (v, len - 1 - k) := ⟨by show 0 ≤ v; omega, v1, by show 0 ≤ len - 1 - k; omega, fun h => by have h : v = 0 := h; omega, fun _ => by show len - 1 - k < lenAt rs v; omega⟩
    have B' := B.more (x := (v, len - 1 - k)) (last := last) vx (Int.le_refl _) (by show v ≠ 0; omega) (fun h => by
      have := hm _ h rfl
      simp only at this
      omega) hl (by
      rw [ha]
      unfold nextP
      simp only
      by_cases c : k = 0
      · rw [if_pos c, if_pos (by omega), hp]
      · rw [if_neg c, if_neg (by omega), show len - 1 - k + 1 = len - k by omega])
    have := ptI_ok cR v0 v1 hp hlen m (k + 1) (P.length : Int) (P ++ [(v, len - 1 - k)]) (A ++ [last]) (by omega) (by omega) B' (by simp; omega) (by rw [atN_last, if_neg (by omega), show len - 1 - k = len - (k + 1) by omega]) (fun p hpp e => by
      rcases List.mem_append.mp hpp with h | h
      · have := hm p h e
        omega
      · rw [List.mem_singleton.mp h]
        show len - (k + 1) ≤ len - 1 - k
        omega)
    exact this
theorem ptA_ok {rs : List (Int × Int)} (cR : okR rs) : ∀ (q : List (Int × Int)) (v : Nat) (b : Pb), rs.drop (v - 1) = q → 0 < v → v + q.length = rs.length + 1 → b.nds.length = v → PbOk rs ((v : Int) - 1) b.pts b.abv b.nds →
    PbOk rs rs.length (ptA v q b).pts (ptA v q b).abv (ptA v q b).nds
  | [], v, b, _, v0, hv, _, B => by
    have e : (v : Int) - 1 = rs.length := by simp at hv; omega
    rw [e] at B
    exact B
  | (par, len) :: q, v, b, hd, v0, hv, hn, B => by
    have vi : v - 1 < rs.length := by simp at hv; omega
    have gx : rs[v - 1]? = some (par, len) := by
      have : (rs.drop (v - 1))[0]? = some (par, len) := by rw [hd]; rfl
      rw [List.getElem?_drop] at this
      simpa using this
    have ok := cR.2 (v - 1) _ gx
    simp only at ok
    have hp : parAt rs v = par := by unfold parAt; rw [show ((v : Int) - 1).toNat = v - 1 by omega, gx]; rfl
    have hl : lenAt rs v = len := by unfold lenAt; rw [show ((v : Int) - 1).toNat = v - 1 by omega, gx]; rfl
    have B1 : PbOk rs v b.pts b.abv b.nds := { B with vp := fun p h => ⟨(B.vp p h).1, by have := (B.vp p h).2; omega⟩ }
    have n := B.nds par ok.1.1 (by omega)
    obtain ⟨B2, l2, a2⟩ := ptI_ok cR (v := v) (by omega) (by omega) hp hl len.toNat 0 (gI b.nds par) b.pts b.abv (by omega) (by omega) B1 n.1 (by rw [if_pos rfl]; exact n.2) (fun p h e => by
      have := (B.vp p h).2
      omega)
    rw [if_neg (by omega)] at a2
    refine ptA_ok cR q (v + 1) ⟨(ptI v len len.toNat 0 (gI b.nds par) b.pts b.abv).1, (ptI v len len.toNat 0 (gI b.nds par) b.pts b.abv).2.1, b.nds ++ [(ptI v len len.toNat 0 (gI b.nds par) b.pts b.abv).2.2]⟩ (by rw [show v + 1 - 1 = v - 1 + 1 by omega, ← List.drop_drop, hd]; rfl) (by omega) (by simp at hv ⊢; omega) (by simp [hn]) ?_
    have e : ((v + 1 : Nat) : Int) - 1 = v := by omega
    rw [e]
    refine { B2 with nds := fun u h1 h2 => ?_ }
    simp only [List.length_append, List.length_cons, List.length_nil] at h2
    by_cases c : u < b.nds.length
    · rw [gI_app ⟨h1, c⟩]
      exact B2.nds u h1 c
    · have : u = (b.nds.length : Int) := by omega
      subst this
      rw [gI_last]
      refine ⟨l2, ?_⟩
      rw [a2, hn]
theorem ptB_ok {rs : List (Int × Int)} (cR : okR rs) : PtOk rs (ptB rs).pts (ptB rs).abv := by
  have B0 : PbOk rs ((1 : Nat) - 1 : Int) [(0, 0)] [0] [0] := {
    len := rfl
    pos := by simp
    z := rfl
    root := rfl
    vp := fun p h => by
      rw [List.mem_singleton.mp h]
      exact ⟨⟨Int.le_refl _, by simp, Int.le_refl _, fun _ => rfl, fun h => absurd h (by simp)⟩, by simp⟩
    nod := by simp
    up := fun i h1 h2 => by simp at h2; omega
    nds := fun u h1 h2 => by
      have : u = 0 := by simp at h2; omega
      subst this
      exact ⟨by simp [gI], rfl⟩ }
  have B := ptA_ok cR rs 1 ⟨[(0, 0)], [0], [0]⟩ rfl (by omega) (by omega) rfl B0
  exact ⟨cR, B.len, B.pos, B.z, B.root, fun p h => (B.vp p h).1, B.nod, B.up⟩
theorem ptB_len {rs : List (Int × Int)} (cR : okR rs) : ((ptB rs).pts.length : Int) = 1 + (rs.map (·.2)).sum := by
  have := (ptA_len (r := rs) (v := 1) (b := ⟨[(0, 0)], [0], [0]⟩) (fun x hx => by
    obtain ⟨i, hi⟩ := List.getElem?_of_mem hx
    exact (cR.2 i x hi).2.1)).1
  simpa [ptB] using this
end Lw
set_option maxRecDepth 100000
set_option maxHeartbeats 4000000
namespace Lw
open PySem PySem.Spec PyProof.Rows L2 Dn
def TabIn (TB : List (Nat × Ob)) (tb : Nat) (T : List (List Int)) : Prop := ∃ as : List Nat, (tb, Ob.lst (as.map .ref)) ∈ TB ∧ as.length = T.length ∧ ∀ (i x : Nat) (r : List Int), as[i]? = some x → T[i]? = some r → (x, Ob.lst (r.map .int)) ∈ TB
section
variable {b s : Sto} {L TB : List (Nat × Ob)} {a r c : Nat} {d : Int} {rs ps : List (Int × Int)}
theorem HS.tab {tb : Nat} {T : List (List Int)} (H : HS b s L) (h : TabIn TB tb T) (hs : ∀ x ∈ TB, x ∈ L) : rdTb s tb = some T := by
  obtain ⟨as, h1, h2, h3⟩ := h
  exact rdTb_of (rdL_get (H.has _ (hs _ h1))) h2 fun i x r e1 e2 => rdL_get (H.has _ (hs _ (h3 i x r e1 e2)))
theorem g_small (H : HS b s L) (i : Nat) (hi : L[i]? = some (a, .lst [.int d])) {least : Int} (h0 : 0 ≤ least ∧ least < 7) : ∃ rs d' s' r, F_law_small [.ref a, .int least] s = .ok (.ref r) s' ∧ okR rs ∧ (rs.map (·.2)).sum < 1000 ∧ least ≤ rs.length ∧
    HS b s' ((r, .lst (rs.map prD)) :: L.set i (a, .lst [.int d'])) := by
  have e1 := HS.rdi H i hi
  have ok := smlM_ok (d := d) h0
  refine ⟨(smlM d least).1, (smlM d least).2, put1 s a (smlM d least).2 ++ [.lst ((smlM d least).1.map prD)], s.length, by simp only [F_law_small, e1, if_pos h0], ok.1, ok.2.1, ok.2.2, ?_⟩
  have := (HS.put H i hi (smlM d least).2).new (.lst ((smlM d least).1.map prD))
  rwa [put_len] at this
theorem g_points (H : HS b s L) (cR : okR rs) (hs : (rs.map (·.2)).sum < 1000) (hr : rdL s r = some (rs.map prD)) : ∃ pts abv s' p a, F_law_points [.ref r] s = .ok (.tup [.ref p, .ref a]) s' ∧ PtOk rs pts abv ∧ pts.length < 2000 ∧ HS b s' ((a, .lst (abv.map .int)) :: (p, .lst (pts.map prD)) :: L) := by
  have P := ptB_ok cR
  have l := ptB_len cR
  refine ⟨(ptB rs).pts, (ptB rs).abv, _, s.length, s.length + 1, by simp only [F_law_points, rdR_of hr]; rw [if_pos ⟨cR, by omega⟩], P, by omega, ?_⟩
  have H1 := H.new (.lst ((ptB rs).pts.map prD))
  have H2 := H1.new (.lst ((ptB rs).abv.map .int))
  have H3 := H2.mono (Ext.app (g := [.lst ((ptB rs).nds.map .int)]))
  simpa using H3
theorem g_table {ab : List Int} (H : HS b s L) (ok : okA ab) (ha : rdL s a = some (ab.map .int)) : ∃ s' tb TB, F_law_table [.ref a] s = .ok (.ref tb) s' ∧ HS b s' (L ++ TB) ∧ TabIn TB tb (tRows ab) := by
  obtain ⟨TB, H', k⟩ := H.newL (tSto ab s.length ab.length)
  refine ⟨_, s.length + 1, TB, by simp only [F_law_table, ha, intsD_ints]; rw [if_pos ok], H', (List.range ab.length).map (tAt s.length), ?_, by simp [tRows], fun i x r e1 e2 => ?_⟩
  · have := k 1 _ rfl
    rw [List.map_map]
    exact this
  · have hi : i < ab.length := by
      have := (List.getElem?_eq_some_iff.mp e1).1
      simpa using this
    rw [List.getElem?_map, List.getElem?_range hi] at e1
    unfold tRows at e2
    rw [List.getElem?_map, List.getElem?_range hi] at e2
    cases e1
    cases e2
    unfold tAt
    cases i with
    | zero => exact k 0 _ rfl
    | succ i =>
      rw [if_neg (by omega), show s.length + 1 + (i + 1) = s.length + (i + 2) by omega]
      refine k (i + 2) _ ?_
      show ((List.range (ab.length - 1)).map fun p => Ob.lst ((tRow ab ab.length (p + 1)).map .int))[i]? = _
      rw [List.getElem?_map, List.getElem?_range (by omega)]
      rfl
theorem g_places {e : Nat} {el : List Int} {many size : Int} (H : HS b s L) (i : Nat) (hi : L[i]? = some (a, .lst [.int d])) (he : rdL s e = some (el.map .int)) (h0 : 0 ≤ many ∧ many < 100) (h1 : 0 < size ∧ size < 100000) (hel : ∀ x ∈ el, 0 ≤ x ∧ x < size) (ll : el.length < 1000) :
    ∃ (is : List Int) (d' : Int) (s' : Sto) (c : Nat), F_law_places [.ref a, .int many, .int size, .ref e] s = .ok (.ref c) s' ∧ (∀ x ∈ is, 0 ≤ x ∧ x < size) ∧ (is.length : Int) = many ∧ HS b s' ((c, .lst (is.map .int)) :: L.set i (a, .lst [.int d'])) := by
  have ok := plcF_ok h1.1 many.toNat d el hel
  refine ⟨(plcF size many.toNat d el).1.drop el.length, (plcF size many.toNat d el).2, _, s.length, by simp only [F_law_places, HS.rdi H i hi, he, intsD_ints]; rw [if_pos ⟨h0, h1, ll⟩], fun x hx => ok.2 x (List.mem_of_mem_drop hx), by rw [List.length_drop, ok.1]; omega, ?_⟩
  have := (HS.put H i hi (plcF size many.toNat d el).2).new (.lst (((plcF size many.toNat d el).1.drop el.length).map .int))
  rwa [put_len] at this
theorem c_both {t : Nat} {ab is : List Int} {pts : List (Int × Int)} {call : Int} (P : PtOk rs pts ab) (hl : pts.length < 2000) (ha : rdL s a = some (ab.map .int)) (ht : rdTb s t = some (tRows ab)) (hc : rdL s c = some (is.map .int)) (hI : inN pts.length is) (hq : 0 ≤ call ∧ call < pts.length) (h0 : 0 < is.length ∧ is.length < 1000) :
    ∃ led : List Int, F_law_both [.ref a, .ref t, .ref c, .int call] s = .ok (.tup [.ref s.length, .int (bothW rs (ptsOf pts is) (atN pts call))]) (s ++ [.lst (led.map .int)]) ∧ ptsOf pts led = bothC rs (ptsOf pts is) (atN pts call) ∧ inN pts.length led := by
  have B := P.both (by omega) hI h0.1 hq
  have lT : (tRows ab).length = pts.length := by rw [tRows_len, P.len]
  refine ⟨_, ?_, B.2.1, B.2.2⟩
  simp only [F_law_both, ha, ht, hc, intsD_ints]
  rw [if_pos ⟨P.okA (by omega), P.z, tRows_ok (by rw [P.len]; omega), tRows_len.symm, by rw [lT]; exact hI, by rw [lT]; exact hq, h0.2⟩, B.1]
theorem lc_of {p x0 x : Nat} {e : En} {ck : Chk} {pts : List (Int × Int)} (hs : Stays ck s) (hp : rdL s p = some (pts.map prD)) (h0 : e[x0]? = some (some (.ref p))) (hne : x0 ≠ x) (hx : x < e.length) : ∀ (is : List Int), inN pts.length is → 
    lcS ck [x] (gN x) mYes (mOp fIdx (mVar x0) (mVar x)) e (is.map .int) [] s = .ok ((ptsOf pts is).map prD) s := by
  intro is hI
  rw [lc_map (fun d => match d with | .int i => prD (atN pts i) | _ => .non) hs]
  · simp [ptsOf]
  · intro d hd
    obtain ⟨i, hi, rfl⟩ := List.mem_map.mp hd
    have o := hI i hi
    have am := (atN_mem (ps := pts) o.1 o.2).2
    have w0 : ((wipeE e [x]).set x (some (.int i)))[x0]? = some (some (.ref p)) := by
      rw [List.getElem?_set_ne (Ne.symm hne)]
      simp only [wipeE]
      rw [List.getElem?_set_ne (Ne.symm hne)]
      exact h0
    have w1 : ((wipeE e [x]).set x (some (.int i)))[x]? = some (some (.int i)) := List.getElem?_set_self (by rw [wipeE_len]; exact hx)
    refine ⟨_, rfl, ?_⟩
    simp only [ev_op, ev_var, w0, w1, bind_ok, ix_ref, hp, am, Option.map_some, up_some]
end
end Lw
set_option maxRecDepth 100000
namespace Lw
open PySem PySem.Spec PyProof.Rows L2 Dn
/-! three points in a row; a history that drives Nearest out -/
def farP (rs : List (Int × Int)) (v u : Int) : Bool := decide (2 ≤ wayLen rs (v, 0) (u, 0))
def thrF (rs : List (Int × Int)) : Nat → Int → Option (Int × Int)
  | 0, _ => none
  | k + 1, v => match (rI 0 v.toNat).find? (farP rs v) with
    | some u => some (v, u)
    | none => thrF rs k (v + 1)
def thrP (rs : List (Int × Int)) : Option (Int × Int) := thrF rs (rs.length + 1) 0
def rowP (rs : List (Int × Int)) (z : Int × Int) (i : Int) : Int × Int := stepTo rs (z.1, 0) (z.2, 0) i
open Classical in
noncomputable def F_three_in_a_row (ds : List D) (st : Sto) : Res D := match ds with
  | [t] => match rdT st t with
    | some rs => if okR rs ∧ rs.length < 1000 then (match thrP rs with
      | some z => .ok (.ref st.length) (st ++ [.lst ([rowP rs z 0, rowP rs z 1, rowP rs z 2].map prD)])
      | none => .exc "TooSmall" st) else .bad
    | none => .bad
  | _ => .bad
def turnsF (n : Int) : List Int := (rI 0 n.toNat).map fun t => t % 2
def byCrew (p f : Int × Int) (k : Int) : List (Int × Int) := p :: List.replicate (k - 1).toNat f
def byCalls (p m : Int × Int) (n : Int) : List (Int × Int) := (turnsF n).map fun t => if t = 1 then p else m
def byPlan (n : Int) : List Int := (turnsF n).map fun t => 1 - t
open Classical in
noncomputable def F_beyond (ds : List D) (st : Sto) : Res D := match ds with
  | [t, .int k, .int f, .int l] => match rdT st t with
    | some rs => if okR rs ∧ rs.length < 1000 ∧ (2 ≤ k ∧ k < 100) ∧ (0 ≤ f ∧ f < 1000) ∧ (0 ≤ l ∧ l < 1000) then (match thrP rs with
      | some z => .ok (.tup [.ref st.length, .ref (st.length + 1), .ref (st.length + 2)]) (st ++ [.lst ((byCrew (rowP rs z 0) (rowP rs z 2) k).map prD), .lst ((byCalls (rowP rs z 0) (rowP rs z 1) (f + l + 1)).map prD), .lst ((byPlan (f + l + 1)).map .int)])
      | none => .exc "TooSmall" st) else .bad
    | none => .bad
  | _ => .bad
open Classical in
noncomputable def F_law_are_numbers (ds : List D) (st : Sto) : Res D := match ds with
  | [.ref a, .int n, .int lim] => match rdL st a with
    | some xs => match intsD xs with
      | some js => if (js.length : Int) = n ∧ (∀ j ∈ js, 0 ≤ j ∧ j < lim) ∧ js.length < 10000 then .ok (.bl true) st else .bad
      | none => .bad
    | none => .bad
  | _ => .bad
end Lw
set_option maxRecDepth 100000
set_option maxHeartbeats 4000000
namespace Lw
open PySem PySem.Spec PyProof.Rows L2 Dn
noncomputable def b_three_in_a_row_1 : MS := (mIfS (mB (mOp fGe (mMethO "Tree" "distance" F_Tree_distance (mVar 0) (mCons (mTup (mCons (mVar 1) (mCons (mC (.int 0)) mNil))) (mCons (mTup (mCons (mVar 2) (mCons (mC (.int 0)) mNil))) mNil))) (mC (.int 2)))) (mRet (mLc [3] (mIter (mTup (mCons (mC (.int 0)) (mCons (mC (.int 1)) (mCons (mC (.int 2)) mNil))))) (gN 3) mYes (mMethO "Tree" "towards" F_Tree_towards (mVar 0) (mCons (mTup (mCons (mVar 1) (mCons (mC (.int 0)) mNil))) (mCons (mTup (mCons (mVar 2) (mCons (mC (.int 0)) mNil))) (mCons (mVar 3) mNil)))))) mNext)
noncomputable def b_three_in_a_row_2 : MS := (mFor (mRng (mCons (mVar 1) mNil)) (gN 2) b_three_in_a_row_1)
noncomputable def m_three_in_a_row : MS := (mSeq (mFor (mRng (mCons (mFn (fLenO "Tree" F_Tree_len) (mCons (mVar 0) mNil)) mNil)) (gN 1) b_three_in_a_row_2) (mRaise "TooSmall"))
noncomputable def m_beyond : MS := (mSeq (mAsg (mCall F_three_in_a_row (mCons (mVar 0) mNil)) (gL 3 (gConsM (gN 4) (gConsM (gN 5) (gConsM (gN 6) gNilM))))) (mSeq (mSet 7 (mLc [10] (mRng (mCons (mOp fAdd (mOp fAdd (mVar 2) (mVar 3)) (mC (.int 1))) mNil)) (gN 10) mYes (mOp fMod (mVar 10) (mC (.int 2))))) (mSeq (mSet 8 (mOp fAdd (mLst (mCons (mVar 4) mNil)) (mOp fMul (mLst (mCons (mVar 6) mNil)) (mOp fSub (mVar 1) (mC (.int 1)))))) (mSeq (mSet 9 (mLc [11] (mIter (mVar 7)) (gN 11) mYes (mIf (mB (mOp fEq (mVar 11) (mC (.int 1)))) (mVar 4) (mVar 5)))) (mRet (mTup (mCons (mVar 8) (mCons (mVar 9) (mCons (mLc [11] (mIter (mVar 7)) (gN 11) mYes (mOp fSub (mC (.int 1)) (mVar 11))) mNil)))))))))
noncomputable def b_law_are_numbers_1 : MS := (mIfS (mOr (mNot (mB (mCall F_law_is_integer (mCons (mVar 3) mNil)))) (mOr (mB (mOp fLt (mVar 3) (mC (.int 0)))) (mB (mOp fGe (mVar 3) (mVar 2))))) (mRet (mC (.bl false))) mNext)
noncomputable def m_law_are_numbers : MS := (mSeq (mIfS (mOr (mNot (mB (mIsiO ["Tree"] "list" (mVar 0)))) (mB (mOp fNe (mFn fLen (mCons (mVar 0) mNil)) (mVar 1)))) (mRet (mC (.bl false))) mNext) (mSeq (mFor (mIter (mVar 0)) (gN 3) b_law_are_numbers_1) (mRet (mC (.bl true)))))
noncomputable def m_Tree_len : MS := (mRet (mFn fLen (mCons (mFld "Tree" "_parents" (mVar 0)) mNil)))
end Lw
set_option maxRecDepth 100000
set_option maxHeartbeats 4000000
namespace Lw
open PySem PySem.Spec PyProof.Rows L2 Dn
section
variable {rs : List (Int × Int)}
theorem vp_node (cR : okR rs) {v : Int} (h0 : 0 ≤ v) (h1 : v ≤ rs.length) : Vp rs (v, 0) := ⟨h0, h1, Int.le_refl _, fun _ => rfl, fun h => (okR_at cR h h1).2.2⟩
theorem node_pt (cR : okR rs) {v : Int} (h0 : 0 ≤ v) (h1 : v ≤ rs.length) : isPt rs (v, 0) = true := vp_pt cR (vp_node cR h0 h1)
theorem two_apart (cR : okR rs) {v u : Int} (h0 : 0 ≤ u) (h1 : u < v) (h2 : v ≤ rs.length) (hn : nextP rs (v, 0) ≠ (u, 0)) : 2 ≤ wayLen rs (v, 0) (u, 0) := by
  have cv := vp_node cR (show 0 ≤ v by omega) h2
  have cu := vp_node cR h0 (show u ≤ rs.length by omega)
  have nc : ((v, 0) : Int × Int) ∉ climb rs (u, 0) := fun h => by
    have := (line_mem cR h0 (by omega) ((mem_climb cR cu cv).mp h).1).2
    simp only at this
    omega
  have w := way_next cR cv cu (by show v ≠ 0; omega) nc
  have cn := Vp.next cR cv (by show v ≠ 0; omega)
  have pn := vp_pt cR cn
  have pu := vp_pt cR cu
  have nn := way_nn cR pn pu
  have nz : wayLen rs (nextP rs (v, 0)) (u, 0) ≠ 0 := fun h => hn ((way_eq0 cR pn pu).mp h)
  omega
theorem three_ex (cR : okR rs) (h : 2 ≤ rs.length ∨ (rs.length = 1 ∧ 2 ≤ lenAt rs 1)) : ∃ v u : Int, 0 ≤ u ∧ u < v ∧ v ≤ rs.length ∧ farP rs v u = true := by
  rcases h with h | ⟨h1, h2⟩
  · have o := okR_at cR (v := 2) (by omega) (by omega)
    have hx : nextP rs ((2, 0) : Int × Int) = (parAt rs 2, 0) ∨ (nextP rs ((2, 0) : Int × Int)).1 = 2 := by
      unfold nextP
      split
      · exact .inl rfl
      · exact .inr rfl
    refine ⟨2, 1 - parAt rs 2, by omega, by omega, by omega, ?_⟩
    unfold farP
    rw [decide_eq_true_eq]
    refine two_apart cR (by omega) (by omega) (by omega) fun e => ?_
    rcases hx with h' | h'
    · rw [h'] at e
      have := congrArg Prod.fst e
      simp only at this
      omega
    · rw [e] at h'
      simp only at h'
      omega
  · refine ⟨1, 0, by omega, by omega, by omega, ?_⟩
    unfold farP
    rw [decide_eq_true_eq]
    refine two_apart cR (by omega) (by omega) (by omega) fun e => ?_
    unfold nextP at e
    simp only at e
    rw [if_neg (by omega)] at e
    have := congrArg Prod.fst e
    simp only at this
    omega
theorem thrF_ne {v u : Int} (h0 : 0 ≤ u) (h1 : u < v) (h2 : farP rs v u = true) : ∀ (k : Nat) (w : Int), w ≤ v → v < w + k → 0 ≤ w → thrF rs k w ≠ none
  | 0, w, a, b, _ => by omega
  | k + 1, w, a, b, c => by
    unfold thrF
    split
    · simp
    · rename_i hn
      by_cases e : w = v
      · subst e
        have := List.find?_eq_none.mp hn u (mem_rI.mpr ⟨h0, by omega⟩)
        exact absurd h2 this
      · exact thrF_ne h0 h1 h2 k (w + 1) (by omega) (by omega) (by omega)
theorem thrF_is {z : Int × Int} : ∀ (k : Nat) (w : Int), 0 ≤ w → thrF rs k w = some z → 0 ≤ z.2 ∧ z.2 < z.1 ∧ z.1 < w + k ∧ 2 ≤ wayLen rs (z.1, 0) (z.2, 0)
  | 0, w, _, h => by cases h
  | k + 1, w, c, h => by
    unfold thrF at h
    split at h
    · rename_i u hu
      cases h
      have m := mem_rI.mp (List.mem_of_find?_eq_some hu)
      have p := List.find?_some hu
      unfold farP at p
      rw [decide_eq_true_eq] at p
      exact ⟨m.1, by simp only; omega, by simp only; omega, p⟩
    · have := thrF_is k (w + 1) (by omega) h
      exact ⟨this.1, this.2.1, by omega, this.2.2.2⟩
theorem thrP_is {z : Int × Int} (h : thrP rs = some z) : 0 ≤ z.2 ∧ z.2 < z.1 ∧ z.1 ≤ rs.length ∧ 2 ≤ wayLen rs (z.1, 0) (z.2, 0) := by
  have := thrF_is _ _ (Int.le_refl 0) h
  exact ⟨this.1, this.2.1, by omega, this.2.2.2⟩
theorem thrP_ex (cR : okR rs) (h : 2 ≤ rs.length ∨ (rs.length = 1 ∧ 2 ≤ lenAt rs 1)) : ∃ z, thrP rs = some z := by
  obtain ⟨v, u, a, b, c, d⟩ := three_ex cR h
  have := thrF_ne a b d (rs.length + 1) 0 (by omega) (by omega) (Int.le_refl _)
  unfold thrP
  cases e : thrF rs (rs.length + 1) 0 with
  | none => exact absurd e this
  | some z => exact ⟨z, rfl⟩
/-- the three points: all of the tree, a step from each other -/
theorem row_ok (cR : okR rs) {z : Int × Int} (h : thrP rs = some z) : (isPt rs (rowP rs z 0) = true ∧ isPt rs (rowP rs z 1) = true ∧ isPt rs (rowP rs z 2) = true) ∧ wayLen rs (rowP rs z 0) (rowP rs z 1) = 1 ∧ wayLen rs (rowP rs z 2) (rowP rs z 1) = 1 ∧ wayLen rs (rowP rs z 2) (rowP rs z 0) = 2 := by
  obtain ⟨a, b, c, d⟩ := thrP_is h
  have pv := node_pt cR (show 0 ≤ z.1 by omega) c
  have pu := node_pt cR a (show z.2 ≤ rs.length by omega)
  have e0 : rowP rs z 0 = (z.1, 0) := step_0 cR pv pu
  have s1 := step_way cR pv pu (a := 1) (by omega) (by omega)
  have s2 := step_way cR pv pu (a := 2) (by omega) (by omega)
  have sc := step_comp cR pv pu (a := 1) (b := 1) (by omega) (by omega) (by omega)
  rw [show (1 : Int) + 1 = 2 by omega] at sc
  have s3 := step_way cR s1.1 pu (a := 1) (by omega) (by omega)
  rw [sc] at s3
  have y1 := way_sym cR s1.1 s3.1
  have y2 := way_sym cR pv s2.1
  unfold rowP at *
  rw [e0]
  exact ⟨⟨pv, s1.1, s2.1⟩, s1.2.1, by omega, by omega⟩
end
theorem hm_Tree_len : ∀ ds st0, ds.length = 1 → wfS st0 → wfD.wfDs st0.length ds → Fin st0.length (retR (m_Tree_len (startE 1 ds) st0)) (F_Tree_len ds st0) := by
  intro ds st0 hl hw hd
  unfold F_Tree_len
  split
  · split
    · rename_i t _ rs ht
      obtain ⟨n, rfl, T⟩ := rdT_some ht
      obtain ⟨m, e1, _, e3, _⟩ := T.ex
      have o1 := obj_of e1
      have cR := T.ok
      have lp : (parL rs).length = rs.length + 1 := by simp [parL]
      have l1 : rs.length + 1 ≤ 100000 := by have := cR.1; omega
      have e : retR (m_Tree_len (startE 1 [.ref n]) st0) = .ok (.int (rs.length + 1)) st0 := by
        simp -implicitDefEqProofs [m_Tree_len, startE, insOf_get, o1, treeF, List.lookup, e3, lp, l1]
      rw [e]
      exact fin_same (by simp) (wfS_N hw) trivial
    · exact fin_bad
  · exact fin_bad
theorem three_in {t : Nat} {rs : List (Int × Int)} {st0 : Sto} {v : Int} {z3 : Option D} (T : IsT st0 t rs) (cR : okR rs) (hv : 0 ≤ v ∧ v ≤ rs.length) : ∀ (k : Nat) (u : Int) (z2 : Option D), 0 ≤ u → u + k = v →
    match (rI u k).find? (farP rs v) with
    | some w => forS [] (gN 2) b_three_in_a_row_1 (rng u k) [some (.ref t), some (.int v), z2, z3] st0 = .ret (.ref st0.length) (st0 ++ [.lst ([rowP rs (v, w) 0, rowP rs (v, w) 1, rowP rs (v, w) 2].map prD)])
    | none => ∃ z2', forS [] (gN 2) b_three_in_a_row_1 (rng u k) [some (.ref t), some (.int v), z2, z3] st0 = .nx [some (.ref t), some (.int v), z2', z3] st0
  | 0, u, z2, h0, hk => by
    simp only [rI, List.find?_nil]
    exact ⟨z2, by rw [rng_nil, for_nil0]⟩
  | k + 1, u, z2, h0, hk => by
    have pv := node_pt cR hv.1 hv.2
    have pu := node_pt cR h0 (show u ≤ rs.length by omega)
    obtain ⟨m, e1, _⟩ := T.ex
    have o1 := obj_of e1
    have fd := c_dist T pv pu
    have d0 : prD (v, 0) = .tup [.int v, .int 0] := rfl
    have d1 : prD (u, 0) = .tup [.int u, .int 0] := rfl
    rw [d0, d1] at fd
    simp only [rI, List.find?_cons]
    by_cases c : 2 ≤ wayLen rs (v, 0) (u, 0)
    · have fp : farP rs v u = true := by unfold farP; rw [decide_eq_true_eq]; exact c
      rw [fp]
      simp only []
      have t0 := c_towards T pv pu (far := 0) (by omega)
      have t1 := c_towards T pv pu (far := 1) (by omega)
      have t2 := c_towards T pv pu (far := 2) (by omega)
      rw [d0, d1] at t0 t1 t2
      rw [rng_cons]
      simp -implicitDefEqProofs [b_three_in_a_row_1, insOf_get, o1, treeF, List.lookup, fd, c, t0, t1, t2, wipeE, lc_cons, lc_nil, stays_nil, rowP]
    · have fp : farP rs v u = false := by unfold farP; rw [decide_eq_false_iff_not]; exact c
      rw [fp]
      simp only []
      have ih := three_in (z3 := z3) T cR hv k (u + 1) (some (.int u)) (by omega) (by omega)
      have step : b_three_in_a_row_1 [some (.ref t), some (.int v), some (.int u), z3] st0 = .nx [some (.ref t), some (.int v), some (.int u), z3] st0 := by
        simp -implicitDefEqProofs [b_three_in_a_row_1, insOf_get, o1, treeF, List.lookup, fd, c]
      rw [rng_cons, for_cons0]
      simp only [ev_gN, List.set_cons_succ, List.set_cons_zero]
      rw [step, loopS_nx]
      exact ih
theorem three_out {t : Nat} {rs : List (Int × Int)} {st0 : Sto} {z3 : Option D} (T : IsT st0 t rs) (cR : okR rs) (hl : rs.length < 1000) : ∀ (k : Nat) (v : Int) (z1 z2 : Option D), 0 ≤ v → v + k = rs.length + 1 →
    match thrF rs k v with
    | some z => forS [] (gN 1) b_three_in_a_row_2 (rng v k) [some (.ref t), z1, z2, z3] st0 = .ret (.ref st0.length) (st0 ++ [.lst ([rowP rs z 0, rowP rs z 1, rowP rs z 2].map prD)])
    | none => ∃ z1' z2', forS [] (gN 1) b_three_in_a_row_2 (rng v k) [some (.ref t), z1, z2, z3] st0 = .nx [some (.ref t), z1', z2', z3] st0
  | 0, v, z1, z2, _, _ => ⟨z1, z2, by rw [rng_nil, for_nil0]⟩
  | k + 1, v, z1, z2, h0, hk => by
    have ti := three_in (z3 := z3) T cR (v := v) ⟨h0, by omega⟩ v.toNat 0 z2 (Int.le_refl _) (by omega)
    have bb : -4611686018427387904 ≤ v ∧ v < 4611686018427387904 := by omega
    unfold thrF
    cases e : (rI 0 v.toNat).find? (farP rs v) with
    | some w =>
      rw [e] at ti
      simp only [] at ti ⊢
      rw [rng_cons]
      simp -implicitDefEqProofs [b_three_in_a_row_2, bb, ti]
    | none =>
      rw [e] at ti
      simp only [] at ti ⊢
      obtain ⟨z2', ti⟩ := ti
      have ih := three_out (z3 := z3) T cR hl k (v + 1) (some (.int v)) z2' (by omega) (by omega)
      have step : b_three_in_a_row_2 [some (.ref t), some (.int v), z2, z3] st0 = .nx [some (.ref t), some (.int v), z2', z3] st0 := by
        simp -implicitDefEqProofs [b_three_in_a_row_2, bb, ti]
      rw [rng_cons, for_cons0]
      simp only [ev_gN, List.set_cons_succ, List.set_cons_zero]
      rw [step, loopS_nx]
      exact ih
theorem hm_three_in_a_row : ∀ ds st0, ds.length = 1 → wfS st0 → wfD.wfDs st0.length ds → Fin st0.length (retR (m_three_in_a_row (startE 4 ds) st0)) (F_three_in_a_row ds st0) := by
  intro ds st0 hl hw hd
  unfold F_three_in_a_row
  split
  · split
    · split
      · rename_i t _ rs ht cond
        obtain ⟨n, rfl, T⟩ := rdT_some ht
        obtain ⟨m, e1, _⟩ := T.ex
        have o1 := obj_of e1
        have o := three_out (z3 := none) T cond.1 cond.2 (rs.length + 1) 0 none none (Int.le_refl _) (by omega)
        have bb : -4611686018427387904 ≤ (rs.length : Int) + 1 ∧ (rs.length : Int) + 1 < 4611686018427387904 := by omega
        have b2 : 0 ≤ (rs.length : Int) + 1 ∧ (rs.length : Int) + 1 < 9223372036854775808 := by omega
        have nt : ((rs.length : Int) + 1).toNat = rs.length + 1 := by omega
        have fl : F_Tree_len [.ref n] st0 = .ok (.int (rs.length + 1)) st0 := by simp [F_Tree_len, rdT_of T]
        split
        · rename_i z hz
          unfold thrP at hz
          rw [hz] at o
          simp only [] at o
          obtain ⟨xs, hxs⟩ : ∃ xs, [rowP rs z 0, rowP rs z 1, rowP rs z 2].map prD = xs := ⟨_, rfl⟩
          have wx : wfO st0.length (.lst xs) := by rw [← hxs]; exact wf_prs
          rw [hxs] at o ⊢
          have e : retR (m_three_in_a_row (startE 4 [.ref n]) st0) = .ok (.ref st0.length) (st0 ++ [.lst xs]) := by
            simp -implicitDefEqProofs [m_three_in_a_row, startE, fLenO, insOf_get, o1, treeF, List.lookup, fl, b2, bb, nt, o]
          rw [e]
          exact fin_ref hw ((HS.nil st0).new (.lst xs)) 0 rfl wx
        · rename_i hz
          unfold thrP at hz
          rw [hz] at o
          simp only [] at o
          obtain ⟨z1, z2, o⟩ := o
          have e : retR (m_three_in_a_row (startE 4 [.ref n]) st0) = .exc "TooSmall" st0 := by
            simp -implicitDefEqProofs [m_three_in_a_row, startE, fLenO, insOf_get, o1, treeF, List.lookup, fl, b2, bb, nt, o]
          rw [e]
          exact fin_extX hw (HS.nil st0).ext
      · exact fin_bad
    · exact fin_bad
  · exact fin_bad
end Lw
set_option maxRecDepth 100000
set_option maxHeartbeats 4000000
namespace Lw
open PySem PySem.Spec PyProof.Rows L2 Dn
theorem arenum_loop {a : Nat} {n lim : Int} {st0 : Sto} {xs : List D} (h : rdL st0 a = some xs) : ∀ (js : List Int) (z : Option D), (∀ j ∈ js, 0 ≤ j ∧ j < lim) → ∃ z', forS [(a, xs)] (gN 3) b_law_are_numbers_1 (js.map .int) [some (.ref a), some (.int n), some (.int lim), z] st0 = .nx [some (.ref a), some (.int n), some (.int lim), z'] st0 := by
  intro js
  induction js with
  | nil => intro z _; exact ⟨z, for_nil (stays_one h)⟩
  | cons j r ih =>
    intro z hj
    have c := hj j (by simp)
    obtain ⟨z', e⟩ := ih (some (.int j)) fun x hx => hj x (by simp [hx])
    refine ⟨z', ?_⟩
    rw [List.map_cons, for_cons (stays_one h)]
    have c1 : ¬ j < 0 := by omega
    have c2 : ¬ lim ≤ j := by omega
    have eb : b_law_are_numbers_1 [some (.ref a), some (.int n), some (.int lim), some (.int j)] st0 = .nx [some (.ref a), some (.int n), some (.int lim), some (.int j)] st0 := by
      simp -implicitDefEqProofs [b_law_are_numbers_1, c_isint, c1, c2]
    simp -implicitDefEqProofs [eb, e]
theorem hm_law_are_numbers : ∀ ds st0, ds.length = 3 → wfS st0 → wfD.wfDs st0.length ds → Fin st0.length (retR (m_law_are_numbers (startE 4 ds) st0)) (F_law_are_numbers ds st0) := by
  intro ds st0 hl hw hd
  unfold F_law_are_numbers
  split
  · split
    · split
      · split
        · rename_i a n lim _ xs hx _ js hj cond
          have hj := intsD_map hj
          subst hj
          obtain ⟨c1, c2, c3⟩ := cond
          obtain ⟨z', e⟩ := arenum_loop (n := n) hx js none c2
          have l0 : fNe (.int (js.length : Int)) (.int n) st0 = some (.bl false, st0) := by rw [ne_ii, c1]; simp
          have l1 : js.length ≤ 100000 := by omega
          have e : retR (m_law_are_numbers (startE 4 [.ref a, .int n, .int lim]) st0) = .ok (.bl true) st0 := by
            simp -implicitDefEqProofs [m_law_are_numbers, startE, isiA, tyD, hx, rdL_some hx, l0, l1, e]
          rw [e]
          exact fin_same (by simp) (wfS_N hw) trivial
        · exact fin_bad
      · exact fin_bad
    · exact fin_bad
  · exact fin_bad
section
variable {b s : Sto} {rs ps qs : List (Int × Int)} {js : List Int}
theorem c_arenum {a : Nat} {n lim : Int} (h : rdL s a = some (js.map .int)) (hn : (js.length : Int) = n) (hj : ∀ j ∈ js, 0 ≤ j ∧ j < lim) (hl : js.length < 10000) : F_law_are_numbers [.ref a, .int n, .int lim] s = .ok (.bl true) s := by
  simp only [F_law_are_numbers, h, intsD_ints]
  rw [if_pos ⟨hn, hj, hl⟩]
theorem c_three {t : Nat} {z : Int × Int} (T : IsT s t rs) (hl : rs.length < 1000) (hz : thrP rs = some z) : F_three_in_a_row [.ref t] s = .ok (.ref s.length) (s ++ [.lst ([rowP rs z 0, rowP rs z 1, rowP rs z 2].map prD)]) := by
  simp only [F_three_in_a_row, rdT_of T]
  rw [if_pos ⟨T.ok, hl⟩]
  simp only [hz]
theorem c_beyond {t : Nat} {k f l : Int} {z : Int × Int} (T : IsT s t rs) (hl : rs.length < 1000) (hk : 2 ≤ k ∧ k < 100) (hf : 0 ≤ f ∧ f < 1000) (hm : 0 ≤ l ∧ l < 1000) (hz : thrP rs = some z) : F_beyond [.ref t, .int k, .int f, .int l] s = .ok (.tup [.ref s.length, .ref (s.length + 1), .ref (s.length + 2)]) (s ++ [.lst ((byCrew (rowP rs z 0) (rowP rs z 2) k).map prD), .lst ((byCalls (rowP rs z 0) (rowP rs z 1) (f + l + 1)).map prD), .lst ((byPlan (f + l + 1)).map .int)]) := by
  simp only [F_beyond, rdT_of T]
  rw [if_pos ⟨T.ok, hl, hk, hf, hm⟩]
  simp only [hz]
end
theorem flat_one {x : D} : ∀ n : Nat, (List.replicate n [x]).flatten = List.replicate n x
  | 0 => rfl
  | n + 1 => by
    rw [List.replicate_succ, List.replicate_succ, List.flatten_cons, flat_one n]
    rfl
theorem turns_len {n : Int} : (turnsF n).length = n.toNat := by simp [turnsF, rI_len]
theorem turns_bit {n : Int} : ∀ t ∈ turnsF n, t = 0 ∨ t = 1 := fun t h => by
  obtain ⟨i, _, rfl⟩ := List.mem_map.mp h
  have := Int.emod_nonneg i (show (2 : Int) ≠ 0 by omega)
  have := Int.emod_lt_of_pos i (show (0 : Int) < 2 by omega)
  omega
theorem hm_beyond : ∀ ds st0, ds.length = 4 → wfS st0 → wfD.wfDs st0.length ds → Fin st0.length (retR (m_beyond (startE 12 ds) st0)) (F_beyond ds st0) := by
  intro ds st0 hl hw hd
  unfold F_beyond
  split
  · split
    · split
      · rename_i t k f l _ rs ht cond
        obtain ⟨n, rfl, T⟩ := rdT_some ht
        obtain ⟨cR, lr, hk, hf, hm⟩ := cond
        split
        · rename_i z hz
          have f1 := c_three T lr hz
          obtain ⟨p, hp⟩ : ∃ p, rowP rs z 0 = p := ⟨_, rfl⟩
          obtain ⟨q, hq⟩ : ∃ p, rowP rs z 1 = p := ⟨_, rfl⟩
          obtain ⟨r, hr⟩ : ∃ p, rowP rs z 2 = p := ⟨_, rfl⟩
          rw [hp, hq, hr] at f1
          rw [hp, hq, hr]
          obtain ⟨s1, g1, e1, e1', H1⟩ := g_new (HS.nil st0) (.lst ([p, q, r].map prD))
          rw [e1, e1'] at f1
          have r1 := H1.rd 0 rfl
          obtain ⟨N, hN⟩ : ∃ N, f + l + 1 = N := ⟨_, rfl⟩
          rw [hN]
          obtain ⟨s2, g2, e2, e2', H2⟩ := g_new H1 (.lst ((turnsF N).map .int))
          have bb : -4611686018427387904 ≤ N ∧ N < 4611686018427387904 := by omega
          have lc1 : lcS [] [10] (gN 10) mYes (mOp fMod (mVar 10) (mC (.int 2))) [some (.ref n), some (.int k), some (.int f), some (.int l), some (prD p), some (prD q), some (prD r), none, none, none, none, none] (rng 0 N.toNat) [] s1 = .ok ((turnsF N).map .int) s1 := by
            rw [lc_map (fun d => match d with | .int i => .int (i % 2) | _ => .non) stays_nil]
            · rw [rng_rI]
              simp [turnsF]
            · intro dd hdd
              obtain ⟨i, rfl, i0, i1⟩ := mem_rng hdd
              refine ⟨[some (.ref n), some (.int k), some (.int f), some (.int l), some (prD p), some (prD q), some (prD r), none, none, none, some (.int i), none], rfl, ?_⟩
              simp -implicitDefEqProofs []
          have lt : (turnsF N).length ≤ 100000 := by rw [turns_len]; omega
          obtain ⟨s3, g3, e3, e3', H3⟩ := g_new H2 (.lst ([p].map prD))
          obtain ⟨s4, g4, e4, e4', H4⟩ := g_new H3 (.lst ([r].map prD))
          obtain ⟨s5, g5, e5, e5', H5⟩ := g_new H4 (.lst ((List.replicate (k - 1).toNat r).map prD))
          have r3 := H5.rd 2 rfl
          have r4 := H4.rd 0 rfl
          have r5 := H5.rd 0 rfl
          obtain ⟨s6, g6, e6, e6', H6⟩ := g_new H5 (.lst ((byCrew p r k).map prD))
          have r6 := H6.rd 4 rfl
          have lc2 : lcS [(g2, (turnsF N).map .int)] [11] (gN 11) mYes (mIf (mB (mOp fEq (mVar 11) (mC (.int 1)))) (mVar 4) (mVar 5)) [some (.ref n), some (.int k), some (.int f), some (.int l), some (prD p), some (prD q), some (prD r), some (.ref g2), some (.ref g6), none, none, none] ((turnsF N).map .int) [] s6 = .ok ((byCalls p q N).map prD) s6 := by
            rw [lc_map (fun d => match d with | .int i => prD (if i = 1 then p else q) | _ => .non) (stays_one r6)]
            · simp [byCalls]
            · intro dd hdd
              obtain ⟨i, _, rfl⟩ := List.mem_map.mp hdd
              refine ⟨[some (.ref n), some (.int k), some (.int f), some (.int l), some (prD p), some (prD q), some (prD r), some (.ref g2), some (.ref g6), none, none, some (.int i)], rfl, ?_⟩
              by_cases c : i = 1
              · simp -implicitDefEqProofs [eq_ii, c]
              · simp -implicitDefEqProofs [eq_ii, c]
          have lb : (byCalls p q N).length ≤ 100000 := by unfold byCalls; rw [List.length_map, turns_len]; omega
          obtain ⟨s7, g7, e7, e7', H7⟩ := g_new H6 (.lst ((byCalls p q N).map prD))
          have r7 := H7.rd 5 rfl
          have lc3 : lcS [(g2, (turnsF N).map .int)] [11] (gN 11) mYes (mOp fSub (mC (.int 1)) (mVar 11)) [some (.ref n), some (.int k), some (.int f), some (.int l), some (prD p), some (prD q), some (prD r), some (.ref g2), some (.ref g6), some (.ref g7), none, none] ((turnsF N).map .int) [] s7 = .ok ((byPlan N).map .int) s7 := by
            rw [lc_map (fun d => match d with | .int i => .int (1 - i) | _ => .non) (stays_one r7)]
            · simp [byPlan]
            · intro dd hdd
              obtain ⟨i, _, rfl⟩ := List.mem_map.mp hdd
              refine ⟨[some (.ref n), some (.int k), some (.int f), some (.int l), some (prD p), some (prD q), some (prD r), some (.ref g2), some (.ref g6), some (.ref g7), none, some (.int i)], rfl, ?_⟩
              simp -implicitDefEqProofs []
          have lp : (byPlan N).length ≤ 100000 := by unfold byPlan; rw [List.length_map, turns_len]; omega
          obtain ⟨s8, g8, e8, e8', H8⟩ := g_new H7 (.lst ((byPlan N).map .int))
          have fm : fMul (.ref g4) (.int (k - 1)) s4 = some (.ref g5, s5) := by
            have : (List.replicate (k - 1).toNat [prD r]).flatten = (List.replicate (k - 1).toNat r).map prD := by rw [flat_one, List.map_replicate]
            simp only [List.map_cons, List.map_nil] at r4
            simp only [fMul, r4, this]
            rw [if_pos ⟨by omega, by omega, by simp; omega⟩, e5, e5']
          have fa : fAdd (.ref g3) (.ref g5) s5 = some (.ref g6, s6) := by
            have l6 : ([p].map prD).length + ((List.replicate (k - 1).toNat r).map prD).length ≤ 100000 := by simp; omega
            simp only [fAdd, r3, r5]
            rw [if_pos l6, ← List.map_append, e6']
            exact congrArg (fun x => some (D.ref g6, x)) e6
          have e : retR (m_beyond (startE 12 [.ref n, .int k, .int f, .int l]) st0) = .ok (.tup [.ref g6, .ref g7, .ref g8]) s8 := by
            simp only [List.map_cons, List.map_nil] at e3 e4 r3 r4 r1
            have nl : N ≤ 100000 := by omega
            simp -implicitDefEqProofs [m_beyond, startE, f1, r1, hN, bb, lc1, rng_len, nl, lt, e2, e2', e3, e3', e4, e4', fm, fa, r6, lc2, lb, e7, e7', r7, lc3, lp, e8, e8']
          rw [e]
          have nd := H8.nod
          simp only [List.map_cons, List.map_nil, List.nodup_cons, List.mem_cons, List.not_mem_nil, or_false, not_or] at nd
          refine fin_many (as := [g6, g7, g8]) hw H8.ext rfl (by simp only [List.nodup_cons, List.mem_cons, List.not_mem_nil, or_false, not_or]; exact ⟨⟨Ne.symm nd.2.1.1, Ne.symm nd.1.2.1⟩, Ne.symm nd.1.1, not_false, List.nodup_nil⟩) (fun x hx => ?_) (fun i o x h1 h2 => ?_) ?_ ?_
          · simp only [List.mem_cons, List.not_mem_nil, or_false] at hx
            rcases hx with rfl | rfl | rfl
            · exact H8.ge 2 rfl
            · exact H8.ge 1 rfl
            · exact H8.ge 0 rfl
          · match i, h1, h2 with
            | 0, h1, h2 => cases h1; cases h2; exact ⟨by rw [renO_prs]; exact H8.get 2 rfl, wf_prs⟩
            | 1, h1, h2 => cases h1; cases h2; exact ⟨by rw [renO_prs]; exact H8.get 1 rfl, wf_prs⟩
            | 2, h1, h2 => cases h1; cases h2; exact ⟨by rw [renO_ints]; exact H8.get 0 rfl, wf_ints⟩
          · have a0 := mvL_at (b := st0.length) (as := [g6, g7, g8]) (i := 0)
            have a1 := mvL_at (b := st0.length) (as := [g6, g7, g8]) (i := 1)
            have a2 := mvL_at (b := st0.length) (as := [g6, g7, g8]) (i := 2)
            simp only [Nat.add_zero] at a0
            simp [renD, renD.renDs, a0, a1, a2]
          · simp [wfD, wfD.wfDs]
        · rename_i hz
          have f1 : F_three_in_a_row [.ref n] st0 = .exc "TooSmall" st0 := by
            simp only [F_three_in_a_row, rdT_of T]
            rw [if_pos ⟨T.ok, lr⟩]
            simp only [hz]
          have e : retR (m_beyond (startE 12 [.ref n, .int k, .int f, .int l]) st0) = .exc "TooSmall" st0 := by
            simp -implicitDefEqProofs [m_beyond, startE, f1]
          rw [e]
          exact fin_extX hw (HS.nil st0).ext
      · exact fin_bad
    · exact fin_bad
  · exact fin_bad
end Lw
set_option maxRecDepth 100000
namespace Lw
open PySem PySem.Spec PyProof.Rows L2 Dn
open Classical in
noncomputable def F_law_refused (ds : List D) (st : Sto) : Res D := match ds with
  | [t, .int k, .int f, .int l] => match rdT st t with
    | some rs => if okR rs ∧ rs.length < 1000 ∧ (2 ≤ k ∧ k < 100) ∧ (0 ≤ f ∧ f < 1000) ∧ (0 ≤ l ∧ l < 1000) ∧ thrP rs = none then .ok (.bl true) st else .bad
    | none => .bad
  | _ => .bad
open Classical in
noncomputable def F_law_let (ds : List D) (st : Sto) : Res D := match ds with
  | [t, .int k, .int f, .int l] => match rdT st t with
    | some rs => if okR rs ∧ rs.length < 1000 ∧ (2 ≤ k ∧ k < 100) ∧ (0 ≤ f ∧ f < 1000) ∧ (0 ≤ l ∧ l < 1000) ∧ thrP rs ≠ none then .ok (.bl true) st else .bad
    | none => .bad
  | _ => .bad
def F_law (ds : List D) (st : Sto) : Res D := match ds with
  | [.fz xs] => match intsD xs with
    | some ns => if ns.length < 1000 then .ok (.bl true) st else .bad
    | none => .bad
  | _ => .bad
end Lw
set_option maxRecDepth 100000
set_option maxHeartbeats 4000000
namespace Lw
open PySem PySem.Spec PyProof.Rows L2 Dn
noncomputable def m_law_refused : MS := (mSeq (mSet 4 (mC .non)) (mSeq (mTryN (mtL ["TooSmall", "InvalidTree", "InvalidPoint"]) 5 (mDrop (mCall F_beyond (mCons (mVar 0) (mCons (mVar 1) (mCons (mVar 2) (mCons (mVar 3) mNil)))))) (mSet 4 (mVar 5))) (mSeq (mIfS (mOr (mNot (mB (mIsX ["TooSmall"] [] (mVar 4)))) (mNot (mB (mIsX ["TooSmall"] [] (mVar 4))))) (mRet (mC (.bl false))) mNext) (mSeq (mIfS (mOr (mB (mIsX [] ["TooSmall"] (mVar 4))) (mB (mIsX [] ["TooSmall"] (mVar 4)))) (mRet (mC (.bl false))) mNext) (mRet (mAndV (mNotV (mIsX [] ["TooSmall"] (mVar 4))) (mNotV (mIsX [] ["TooSmall"] (mVar 4)))))))))
noncomputable def b_law_let_1 : MS := (mIfS (mOr (mNot (mB (mIsiO ["Tree"] "list" (mVar 5)))) (mB (mOp fEq (mFn fLen (mCons (mVar 5) mNil)) (mC (.int 0))))) (mRet (mC (.bl false))) mNext)
noncomputable def m_law_let : MS := (mSeq (mSet 4 (mCall F_beyond (mCons (mVar 0) (mCons (mVar 1) (mCons (mVar 2) (mCons (mVar 3) mNil)))))) (mSeq (mIfS (mOr (mNot (mB (mIsiO ["Tree"] "tuple" (mVar 4)))) (mB (mOp fNe (mFn fLen (mCons (mVar 4) mNil)) (mC (.int 3))))) (mRet (mC (.bl false))) mNext) (mSeq (mFor (mIter (mVar 4)) (gN 5) b_law_let_1) (mRet (mC (.bl true))))))
noncomputable def b_law_1 : MS := (mIfS (mB (mOp fLt (mFn fSum (mCons (mLc [11] (mIter (mOp fIdx (mVar 6) (mVar 9))) (gN 11) mYes (mOp fIdx (mVar 11) (mC (.int 1)))) mNil)) (mC (.int 2)))) (mIfS (mNot (mB (mCall F_law_refused (mCons (mOp fIdx (mVar 7) (mVar 9)) (mCons (mVar 2) (mCons (mVar 3) (mCons (mVar 4) mNil))))))) (mRet (mC (.bl false))) mNext) (mIfS (mNot (mB (mCall F_law_let (mCons (mOp fIdx (mVar 7) (mVar 9)) (mCons (mVar 2) (mCons (mVar 3) (mCons (mVar 4) mNil))))))) (mRet (mC (.bl false))) mNext))
noncomputable def b_law_2 : MS := (mFor (mRng (mCons (mC (.int 6)) mNil)) (gN 9) b_law_1)
noncomputable def m_law : MS := (mSeq (mSet 1 (mCall F_law_source (mCons (mVar 0) mNil))) (mSeq (mSet 2 (mOp fAdd (mC (.int 2)) (mCall F_law_pick (mCons (mVar 1) (mCons (mC (.int 3)) mNil))))) (mSeq (mSet 3 (mCall F_law_pick (mCons (mVar 1) (mCons (mC (.int 21)) mNil)))) (mSeq (mSet 4 (mCall F_law_pick (mCons (mVar 1) (mCons (mC (.int 21)) mNil)))) (mSeq (mSet 5 (mCall F_law_pick (mCons (mVar 1) (mCons (mC (.int 6)) mNil)))) (mSeq (mSet 6 (mLst (mCons (mLst mNil) (mCons (mLst (mCons (mTup (mCons (mC (.int 0)) (mCons (mC (.int 1)) mNil))) mNil)) (mCons (mLst (mCons (mTup (mCons (mC (.int 0)) (mCons (mOp fAdd (mC (.int 2)) (mCall F_law_pick (mCons (mVar 1) (mCons (mC (.int 39)) mNil)))) mNil))) mNil)) (mCons (mLst (mCons (mTup (mCons (mC (.int 0)) (mCons (mC (.int 1)) mNil))) (mCons (mTup (mCons (mC (.int 0)) (mCons (mC (.int 1)) mNil))) mNil))) (mCons (mLst (mCons (mTup (mCons (mC (.int 0)) (mCons (mC (.int 1)) mNil))) (mCons (mTup (mCons (mC (.int 1)) (mCons (mC (.int 1)) mNil))) mNil))) (mCons (mCall F_law_roads (mCons (mVar 1) (mCons (mC (.int 0)) mNil))) mNil)))))))) (mSeq (mSet 6 (mOp fAdd (mSlice (mVar 6) (mPart (mVar 5)) mNoP) (mSlice (mVar 6) mNoP (mPart (mVar 5))))) (mSeq (mSet 7 (mLc [10] (mIter (mVar 6)) (gN 10) mYes (mMake "Tree" F_Tree_init (mCons (mFn fList (mCons (mVar 10) mNil)) mNil)))) (mSeq (mFor (mRng (mCons (mC (.int 2)) mNil)) (gN 8) b_law_2) (mRet (mC (.bl true))))))))))))
end Lw
set_option maxRecDepth 100000
set_option maxHeartbeats 4000000
namespace Lw
open PySem PySem.Spec PyProof.Rows L2 Dn
section
variable {s : Sto} {rs : List (Int × Int)}
theorem x_beyond {t : Nat} {k f l : Int} (T : IsT s t rs) (cR : okR rs) (hl : rs.length < 1000) (hk : 2 ≤ k ∧ k < 100) (hf : 0 ≤ f ∧ f < 1000) (hm : 0 ≤ l ∧ l < 1000) (hz : thrP rs = none) : F_beyond [.ref t, .int k, .int f, .int l] s = .exc "TooSmall" s := by
  simp only [F_beyond, rdT_of T]
  rw [if_pos ⟨cR, hl, hk, hf, hm⟩, hz]
end
theorem hm_law_refused : ∀ ds st0, ds.length = 4 → wfS st0 → wfD.wfDs st0.length ds → Fin st0.length (retR (m_law_refused (startE 6 ds) st0)) (F_law_refused ds st0) := by
  intro ds st0 hl hw hd
  unfold F_law_refused
  split
  · split
    · split
      · rename_i t k f l _ rs ht cond
        obtain ⟨cR, lr, hk, hf, hm, hz⟩ := cond
        obtain ⟨n, rfl, T⟩ := rdT_some ht
        have q := x_beyond T cR lr hk hf hm hz
        obtain ⟨s1, a, e1, e1', H1⟩ := g_new (HS.nil st0) (.ex "TooSmall")
        have h1 := H1.get 0 rfl
        have i1 : isX ["TooSmall"] [] s1 (.ref a) = some true := isX_t h1 (by simp)
        have i2 : isX [] ["TooSmall"] s1 (.ref a) = some false := isX_f h1 (by simp) (by simp)
        have mt : mtL ["TooSmall", "InvalidTree", "InvalidPoint"] "TooSmall" = some true := if_pos (by simp)
        have e : retR (m_law_refused (startE 6 [.ref n, .int k, .int f, .int l]) st0) = .ok (.bl true) s1 := by
          simp -implicitDefEqProofs [m_law_refused, startE, q, mt, e1, e1', i1, i2]
        rw [e]
        exact fin_ext hw H1.ext trivial
      · exact fin_bad
    · exact fin_bad
  · exact fin_bad
theorem hm_law_let : ∀ ds st0, ds.length = 4 → wfS st0 → wfD.wfDs st0.length ds → Fin st0.length (retR (m_law_let (startE 6 ds) st0)) (F_law_let ds st0) := by
  intro ds st0 hl hw hd
  unfold F_law_let
  split
  · split
    · split
      · rename_i t k f l _ rs ht cond
        obtain ⟨cR, lr, hk, hf, hm, hz⟩ := cond
        obtain ⟨n, rfl, T⟩ := rdT_some ht
        obtain ⟨z, hz⟩ : ∃ z, thrP rs = some z := by cases h : thrP rs with
          | none => exact absurd h hz
          | some z => exact ⟨z, rfl⟩
        have q := c_beyond T lr hk hf hm hz
        obtain ⟨C, hC⟩ : ∃ C, byCrew (rowP rs z 0) (rowP rs z 2) k = C := ⟨_, rfl⟩
        obtain ⟨Q, hQ⟩ : ∃ Q, byCalls (rowP rs z 0) (rowP rs z 1) (f + l + 1) = Q := ⟨_, rfl⟩
        obtain ⟨J, hJ⟩ : ∃ J, byPlan (f + l + 1) = J := ⟨_, rfl⟩
        have lC : 0 < C.length := by rw [← hC]; simp [byCrew]
        have lQ : 0 < Q.length := by rw [← hQ]; unfold byCalls; rw [List.length_map, turns_len]; omega
        have lJ : 0 < J.length := by rw [← hJ]; unfold byPlan; rw [List.length_map, turns_len]; omega
        rw [hC, hQ, hJ] at q
        obtain ⟨s1, a1, e1, e1', H1⟩ := g_new (HS.nil st0) (.lst (C.map prD))
        obtain ⟨s2, a2, e2, e2', H2⟩ := g_new H1 (.lst (Q.map prD))
        obtain ⟨s3, a3, e3, e3', H3⟩ := g_new H2 (.lst (J.map .int))
        have q1 : F_beyond [.ref n, .int k, .int f, .int l] st0 = .ok (.tup [.ref a1, .ref a2, .ref a3]) s3 := by
          rw [q, ← e3, ← e2, ← e1, ← e3', ← e2', ← e1', ← e2, ← e1]
          simp
        have r1 := rdL_some (H3.rd 2 rfl)
        have r2 := rdL_some (H3.rd 1 rfl)
        have r3 := rdL_some (H3.rd 0 rfl)
        have b1 := H3.rd 2 rfl
        have b2 := H3.rd 1 rfl
        have b3 := H3.rd 0 rfl
        have nn : fNe (.int 3) (.int 3) s3 = some (.bl false, s3) := by rw [ne_ii]; rfl
        have z1 : fEq (.int (C.length : Int)) (.int 0) s3 = some (.bl false, s3) := by rw [eq_ii, decide_eq_false (by omega)]
        have z2 : fEq (.int (Q.length : Int)) (.int 0) s3 = some (.bl false, s3) := by rw [eq_ii, decide_eq_false (by omega)]
        have z3 : fEq (.int (J.length : Int)) (.int 0) s3 = some (.bl false, s3) := by rw [eq_ii, decide_eq_false (by omega)]
        have e : retR (m_law_let (startE 6 [.ref n, .int k, .int f, .int l]) st0) = .ok (.bl true) s3 := by
          simp -implicitDefEqProofs [m_law_let, b_law_let_1, startE, q1, isiA, tyD, nn, r1, r2, r3, b1, b2, b3, z1, z2, z3, for_cons0, for_nil0, stays_nil]
        rw [e]
        exact fin_ext hw H3.ext trivial
      · exact fin_bad
    · exact fin_bad
  · exact fin_bad
/-! the law -/
theorem sum_lens {rs : List (Int × Int)} (cR : okR rs) : (rs.length : Int) ≤ (rs.map (·.2)).sum := by
  have g : ∀ L : List (Int × Int), (∀ p ∈ L, 0 < p.2) → (L.length : Int) ≤ (L.map (·.2)).sum := by
    intro L
    induction L with
    | nil => intro _; exact Int.le_refl _
    | cons p L ih =>
      intro h
      have h1 := h p (by simp)
      have h2 := ih fun q hq => h q (by simp [hq])
      simp only [List.map_cons, List.sum_cons, List.length_cons]
      omega
  refine g rs fun p hp => ?_
  obtain ⟨i, hi⟩ := List.getElem?_of_mem hp
  exact (cR.2 i p hi).2.1
theorem thr_not {rs : List (Int × Int)} (cR : okR rs) (h : (rs.map (·.2)).sum < 2) : thrP rs = none := by
  have hl := sum_lens cR
  match rs, cR, h, hl with
  | [], _, _, _ => rfl
  | [p], cR, h, _ =>
    obtain ⟨⟨h1, h2⟩, h3, _⟩ := cR.2 0 p rfl
    have e2 : p.2 = 1 := by simp at h; omega
    have e1 : p.1 = 0 := by omega
    obtain ⟨a, b⟩ := p
    simp only at e1 e2
    subst e1 e2
    cases q : thrP [((0 : Int), (1 : Int))] with
    | none => rfl
    | some z =>
      exfalso
      obtain ⟨z1, z2, z3, z4⟩ := thrP_is q
      simp at z3
      have zz : z.2 = 0 ∧ z.1 = 1 := by omega
      rw [zz.1, zz.2] at z4
      revert z4
      decide
  | _ :: _ :: _, _, h, hl => simp at hl h; omega
theorem thr_yes {rs : List (Int × Int)} (cR : okR rs) (h : 2 ≤ (rs.map (·.2)).sum) : thrP rs ≠ none := by
  have : ∃ z, thrP rs = some z := by
    match rs, cR, h with
    | [], _, h => exact absurd h (by decide)
    | [p], cR, h => exact thrP_ex cR (.inr ⟨rfl, by simpa [lenAt] using h⟩)
    | _ :: _ :: r, cR, _ => exact thrP_ex cR (.inl (by simp))
  obtain ⟨z, e⟩ := this
  rw [e]
  simp
def RowG (s : Sto) (x : D) : Prop := ∃ (r : Nat) (rs : List (Int × Int)), x = .ref r ∧ rdL s r = some (rs.map prD) ∧ okR rs ∧ rs.length < 100
def PairG (s : Sto) (x y : D) : Prop := ∃ (r t : Nat) (rs : List (Int × Int)), x = .ref r ∧ y = .ref t ∧ rdL s r = some (rs.map prD) ∧ IsT s t rs ∧ okR rs ∧ rs.length < 100
theorem RowG.ext {s s1 : Sto} {x : D} (h : RowG s x) (e : Ext s s1) : RowG s1 x := let ⟨r, rs, h1, h2, h3⟩ := h; ⟨r, rs, h1, e.rd h2, h3⟩
theorem PairG.ext {s s1 : Sto} {x y : D} (h : PairG s x y) (e : Ext s s1) : PairG s1 x y := let ⟨r, t, rs, h1, h2, h3, h4, h5⟩ := h; ⟨r, t, rs, h1, h2, e.rd h3, IsT.ext h4 e, h5⟩
theorem trees_lc {ck : Chk} {x0 x1 x2 x3 x4 x5 x6 x7 x8 x9 x10 x11 : Option D} : ∀ (xs acc : List D) (s : Sto), (∀ s', Ext s s' → Stays ck s') → (∀ x ∈ xs, RowG s x) →
    ∃ ys s', lcS ck [10] (gN 10) mYes (mMake "Tree" F_Tree_init (mCons (mFn fList (mCons (mVar 10) mNil)) mNil)) [x0, x1, x2, x3, x4, x5, x6, x7, x8, x9, x10, x11] xs acc s = .ok (acc ++ ys) s' ∧ Ext s s' ∧ ys.length = xs.length ∧
      ∀ (k : Nat) (x y : D), xs[k]? = some x → ys[k]? = some y → PairG s' x y
  | [], acc, s, hs, _ => ⟨[], s, by rw [lc_nil (hs s (Ext.refl s))]; simp, Ext.refl s, rfl, fun k x y h => by simp at h⟩
  | x :: xs, acc, s, hs, hx => by
    obtain ⟨r, rs, rfl, hr, cR, lr⟩ := hx x (by simp)
    obtain ⟨s1, r2, e1, e1', H1⟩ := g_new (HS.nil s) (.lst (rs.map prD))
    obtain ⟨s2, t, m, e2, f2, H2⟩ := g_tree H1 cR (H1.rd 0 rfl)
    obtain ⟨ys, s', q, X, hl, hp⟩ := trees_lc (ck := ck) (x0 := x0) (x1 := x1) (x2 := x2) (x3 := x3) (x4 := x4) (x5 := x5) (x6 := x6) (x7 := x7) (x8 := x8) (x9 := x9) (x10 := x10) (x11 := x11) xs (acc ++ [.ref t]) s2 (fun s' e => hs s' (H2.ext.trans e)) (fun y hy => (hx y (by simp [hy])).ext H2.ext)
    have l1 : rs.length ≤ 100000 := by omega
    refine ⟨.ref t :: ys, s', ?_, H2.ext.trans X, by simp [hl], fun k x y h1 h2 => ?_⟩
    · rw [lc_cons (hs s (Ext.refl s))]
      simp -implicitDefEqProofs [wipeE, hr, l1, e1, e1', e2, f2]
      rw [q]
      simp
    · cases k with
      | zero =>
        simp at h1 h2
        subst h1 h2
        exact ⟨r, t, rs, rfl, rfl, X.rd (H2.old hr), IsT.ext (HS.isT H2 cR 0 rfl) X, cR, lr⟩
      | succ k => exact hp k x y (by simpa using h1) (by simpa using h2)
theorem body_step {x0 x1 x5 z8 z10 z11 : Option D} {R T : Nat} {n f l i : Int} {xs ys : List D} {s : Sto} (hn : 2 ≤ n ∧ n < 100) (hf : 0 ≤ f ∧ f < 1000) (hl : 0 ≤ l ∧ l < 1000) (hR : rdL s R = some xs) (hT : rdL s T = some ys) (hi : 0 ≤ i) (hx : i.toNat < xs.length) (hy : ys.length = xs.length)
    (hp : ∀ (k : Nat) (x y : D), xs[k]? = some x → ys[k]? = some y → PairG s x y) :
    ∃ s', b_law_1 [x0, x1, some (.int n), some (.int f), some (.int l), x5, some (.ref R), some (.ref T), z8, some (.int i), z10, z11] s = .nx [x0, x1, some (.int n), some (.int f), some (.int l), x5, some (.ref R), some (.ref T), z8, some (.int i), z10, z11] s' ∧ Ext s s' := by
  have gx : xs[i.toNat]? = some xs[i.toNat] := List.getElem?_eq_getElem hx
  have gy : ys[i.toNat]? = some (ys[i.toNat]'(by omega)) := List.getElem?_eq_getElem _
  obtain ⟨r, t, rs, er, et, hr, hIs, cR, lr⟩ := hp _ _ _ gx gy
  rw [er] at gx
  rw [et] at gy
  have ax : atI xs i = some (.ref r) := atI_nat' hi gx
  have ay : atI ys i = some (.ref t) := atI_nat' hi gy
  have lc : lcS [(r, rs.map prD)] [11] (gN 11) mYes (mOp fIdx (mVar 11) (mC (.int 1))) [x0, x1, some (.int n), some (.int f), some (.int l), x5, some (.ref R), some (.ref T), z8, some (.int i), z10, z11] (rs.map prD) [] s = .ok ((rs.map (·.2)).map .int) s := by
    rw [lc_map (fun d => match d with | .tup [_, y] => y | _ => .non) (stays_one hr)]
    · simp [prD]
    · intro x hx
      obtain ⟨p, _, rfl⟩ := List.mem_map.mp hx
      exact ⟨[x0, x1, some (.int n), some (.int f), some (.int l), x5, some (.ref R), some (.ref T), z8, some (.int i), z10, some (prD p)], rfl, by simp [prD]⟩
  obtain ⟨s1, g, e1, e1', H1⟩ := g_new (HS.nil s) (.lst ((rs.map (·.2)).map .int))
  have r1 := H1.rd 0 rfl
  have b1 : rs.length ≤ 100000 := by omega
  have hT1 := H1.old hT
  have T1 := IsT.ext hIs H1.ext
  by_cases c : (rs.map (·.2)).sum < 2
  · have q : F_law_refused [.ref t, .int n, .int f, .int l] s1 = .ok (.bl true) s1 := by
      simp only [F_law_refused, rdT_of T1]
      rw [if_pos ⟨cR, by omega, hn, hf, hl, thr_not cR c⟩]
    refine ⟨s1, ?_, H1.ext⟩
    simp -implicitDefEqProofs [b_law_1, hR, ax, hr, lc, b1, e1, e1', r1, intsD_ints, c, hT1, ay, q, -List.map_map]
  · have q : F_law_let [.ref t, .int n, .int f, .int l] s1 = .ok (.bl true) s1 := by
      simp only [F_law_let, rdT_of T1]
      rw [if_pos ⟨cR, by omega, hn, hf, hl, thr_yes cR (by omega)⟩]
    refine ⟨s1, ?_, H1.ext⟩
    simp -implicitDefEqProofs [b_law_1, hR, ax, hr, lc, b1, e1, e1', r1, intsD_ints, c, hT1, ay, q, -List.map_map]
theorem cut_ok {xs : List D} {f : Int} (hx : xs.length = 6) (hf : 0 ≤ f ∧ f < 6) : (Dn.cutD xs (some f) none ++ Dn.cutD xs none (some f)).length = 6 ∧ (∀ x ∈ Dn.cutD xs (some f) none ++ Dn.cutD xs none (some f), x ∈ xs) := by
  constructor
  · have : f = 0 ∨ f = 1 ∨ f = 2 ∨ f = 3 ∨ f = 4 ∨ f = 5 := by omega
    unfold Dn.cutD
    rw [hx]
    rcases this with h | h | h | h | h | h <;> subst h <;> simp [HT.sIx, hx]
  · intro x hx
    rcases List.mem_append.mp hx with h | h
    · exact List.mem_of_mem_drop (List.mem_of_mem_take h)
    · exact List.mem_of_mem_drop (List.mem_of_mem_take h)
theorem law_run {st0 : Sto} {ns : List Int} : ∃ s, retR (m_law (startE 12 [.fz (ns.map .int)]) st0) = .ok (.bl true) s ∧ Ext st0 s := by
  obtain ⟨s1, a, d1, f1, H1⟩ := g_source (b := st0) (ns := ns)
  obtain ⟨n2, d2, s2, f2, b2, H2⟩ := g_pick H1 0 rfl (m := 3) (by omega) (by omega)
  obtain ⟨n3, d3, s3, f3, b3, H3⟩ := g_pick H2 0 rfl (m := 21) (by omega) (by omega)
  obtain ⟨n4, d4, s4, f4, b4, H4⟩ := g_pick H3 0 rfl (m := 21) (by omega) (by omega)
  obtain ⟨n5, d5, s5, f5, b5, H5⟩ := g_pick H4 0 rfl (m := 6) (by omega) (by omega)
  obtain ⟨s6, r1, e6, e6', H6⟩ := g_new H5 (.lst (([] : List (Int × Int)).map prD))
  obtain ⟨s7, r2, e7, e7', H7⟩ := g_new H6 (.lst ([((0 : Int), (1 : Int))].map prD))
  obtain ⟨x, d8, s8, f8, b8, H8⟩ := g_pick H7 2 rfl (m := 39) (by omega) (by omega)
  obtain ⟨s9, r3, e9, e9', H9⟩ := g_new H8 (.lst ([((0 : Int), 2 + x)].map prD))
  obtain ⟨s10, r4, e10, e10', H10⟩ := g_new H9 (.lst ([((0 : Int), (1 : Int)), (0, 1)].map prD))
  obtain ⟨s11, r5, e11, e11', H11⟩ := g_new H10 (.lst ([((0 : Int), (1 : Int)), (1, 1)].map prD))
  obtain ⟨rs, d12, s12, r6, f12, cR, lr, H12⟩ := g_roads H11 5 rfl (least := 0) (by omega)
  obtain ⟨xs, hxs⟩ : ∃ xs : List D, [.ref r1, .ref r2, .ref r3, .ref r4, .ref r5, .ref r6] = xs := ⟨_, rfl⟩
  have lx : xs.length = 6 := by rw [← hxs]; rfl
  have k0 : ∀ (p q : Int × Int), p = (0, 1) → (q = (0, 1) ∨ q = (1, 1)) → okR [p, q] := fun p q hp hq => by
    subst hp
    refine ⟨by simp, fun j z hj => ?_⟩
    match j, hj with
    | 0, hj => cases hj; exact ⟨by simp, by simp, by simp⟩
    | 1, hj => cases hj; rcases hq with rfl | rfl <;> exact ⟨by simp, by simp, by simp⟩
  have k1 : ∀ y : Int, 0 < y → y < 1000 → okR [(0, y)] := fun y h1 h2 => by
    refine ⟨by simp, fun j z hj => ?_⟩
    match j, hj with
    | 0, hj => cases hj; exact ⟨by simp, h1, h2⟩
  have gx : ∀ y ∈ xs, RowG s12 y := by
    rw [← hxs]
    intro y hy
    simp only [List.mem_cons, List.not_mem_nil, or_false] at hy
    rcases hy with rfl | rfl | rfl | rfl | rfl | rfl
    · exact ⟨r1, [], rfl, H12.rd 5 rfl, ⟨by simp, fun j z hj => by simp at hj⟩, by simp⟩
    · exact ⟨r2, _, rfl, H12.rd 4 rfl, k1 1 (by omega) (by omega), by simp⟩
    · exact ⟨r3, _, rfl, H12.rd 3 rfl, k1 (2 + x) (by omega) (by omega), by simp⟩
    · exact ⟨r4, _, rfl, H12.rd 2 rfl, k0 _ _ rfl (.inl rfl), by simp⟩
    · exact ⟨r5, _, rfl, H12.rd 1 rfl, k0 _ _ rfl (.inr rfl), by simp⟩
    · exact ⟨r6, rs, rfl, H12.rd 0 rfl, cR, by omega⟩
  obtain ⟨s13, R0, e13, e13', H13⟩ := g_new H12 (.lst xs)
  have q13 := H13.rd 0 rfl
  obtain ⟨A, hA⟩ : ∃ A, Dn.cutD xs (some n5) none = A := ⟨_, rfl⟩
  obtain ⟨B, hB⟩ : ∃ B, Dn.cutD xs none (some n5) = B := ⟨_, rfl⟩
  obtain ⟨lw, mw⟩ := cut_ok lx b5
  rw [hA, hB] at lw mw
  obtain ⟨s14, RA, e14, e14', H14⟩ := g_new H13 (.lst A)
  have q14 := H14.rd 1 rfl
  obtain ⟨s15, RB, e15, e15', H15⟩ := g_new H14 (.lst B)
  have qA := H15.rd 1 rfl
  have qB := H15.rd 0 rfl
  obtain ⟨s16, R, e16, e16', H16⟩ := g_new H15 (.lst (A ++ B))
  have lAB : (A ++ B).length ≤ 100000 := by omega
  have lAB' : A.length + B.length ≤ 100000 := by rw [← List.length_append]; omega
  have X16 : Ext s12 s16 := by
    rw [← e16, ← e15, ← e14, ← e13]
    exact (((Ext.app).trans Ext.app).trans Ext.app).trans Ext.app
  have qR := H16.rd 0 rfl
  have gw : ∀ y ∈ A ++ B, RowG s16 y := fun y hy => (gx y (mw y hy)).ext X16
  obtain ⟨ys, s17, f17, X17, ly, hp⟩ := trees_lc (ck := [(R, A ++ B)]) (x0 := some (.fz (ns.map .int))) (x1 := some (.ref a)) (x2 := some (.int (2 + n2))) (x3 := some (.int n3)) (x4 := some (.int n4)) (x5 := some (.int n5)) (x6 := some (.ref R)) (x7 := none) (x8 := none) (x9 := none) (x10 := none) (x11 := none) (A ++ B) [] s16 (fun s' e => stays_one (e.rd qR)) gw
  obtain ⟨s18, T, e18, e18', H18⟩ := g_new ((H16.mono X17)) (.lst ys)
  have qT := H18.rd 0 rfl
  have qR18 := H18.rd 1 rfl
  have hp18 : ∀ (k : Nat) (x y : D), (A ++ B)[k]? = some x → ys[k]? = some y → PairG s18 x y := fun k x y h1 h2 => (hp k x y h1 h2).ext (by rw [← e18]; exact Ext.app)
  have loop := for_inv (ck := []) (g := gN 8) (b := b_law_2) (I := fun e s => (∃ z8 z9 z10 z11, e = [some (.fz (ns.map .int)), some (.ref a), some (.int (2 + n2)), some (.int n3), some (.int n4), some (.int n5), some (.ref R), some (.ref T), z8, z9, z10, z11]) ∧ Ext s18 s) (rng 0 2) (fun d hd e s hI => by
    obtain ⟨⟨z8, z9, z10, z11, rfl⟩, X⟩ := hI
    have inner := for_inv (ck := []) (g := gN 9) (b := b_law_1) (I := fun e s => (∃ z9, e = [some (.fz (ns.map .int)), some (.ref a), some (.int (2 + n2)), some (.int n3), some (.int n4), some (.int n5), some (.ref R), some (.ref T), some d, z9, z10, z11]) ∧ Ext s18 s) (rng 0 6) (fun d2 hd2 e2 s2 hI2 => by
      obtain ⟨⟨z9, rfl⟩, X2⟩ := hI2
      obtain ⟨i, rfl, hi0, hi6⟩ := mem_rng hd2
      obtain ⟨s', q, X3⟩ := body_step (x0 := some (.fz (ns.map .int))) (x1 := some (.ref a)) (x5 := some (.int n5)) (z8 := some d) (z10 := z10) (z11 := z11) (n := 2 + n2) (f := n3) (l := n4) (i := i) (by omega) (by omega) (by omega) (X2.rd qR18) (X2.rd qT) hi0 (by rw [lw]; omega) ly (fun k x y h1 h2 => (hp18 k x y h1 h2).ext X2)
      exact ⟨_, _, _, s', rfl, q, ⟨_, rfl⟩, X2.trans X3⟩) (fun _ _ _ => stays_nil) [some (.fz (ns.map .int)), some (.ref a), some (.int (2 + n2)), some (.int n3), some (.int n4), some (.int n5), some (.ref R), some (.ref T), some d, z9, z10, z11] s ⟨⟨_, rfl⟩, X⟩
    obtain ⟨e', s', q, ⟨z9', rfl⟩, X'⟩ := inner
    refine ⟨[some (.fz (ns.map .int)), some (.ref a), some (.int (2 + n2)), some (.int n3), some (.int n4), some (.int n5), some (.ref R), some (.ref T), some d, z9, z10, z11], s, _, s', rfl, ?_, ⟨some d, z9', z10, z11, rfl⟩, X'⟩
    have r6 : (6 : Int).toNat = 6 := rfl
    simp -implicitDefEqProofs [b_law_2, q]) (fun _ _ _ => stays_nil)
    [some (.fz (ns.map .int)), some (.ref a), some (.int (2 + n2)), some (.int n3), some (.int n4), some (.int n5), some (.ref R), some (.ref T), none, none, none, none] s18 ⟨⟨none, none, none, none, rfl⟩, Ext.refl s18⟩
  obtain ⟨e', s', q, _, X'⟩ := loop
  have e6 : s5 ++ [Ob.lst []] = s6 := e6
  have e7 : s6 ++ [Ob.lst [.tup [.int 0, .int 1]]] = s7 := e7
  have e9 : s8 ++ [Ob.lst [.tup [.int 0, .int (2 + x)]]] = s9 := e9
  have e10 : s9 ++ [Ob.lst [.tup [.int 0, .int 1], .tup [.int 0, .int 1]]] = s10 := e10
  have e11 : s10 ++ [Ob.lst [.tup [.int 0, .int 1], .tup [.int 1, .int 1]]] = s11 := e11
  have e11b : s9 ++ [Ob.lst [.tup [.int 0, .int 1], .tup [.int 0, .int 1]], Ob.lst [.tup [.int 0, .int 1], .tup [.int 1, .int 1]]] = s11 := by rw [← e11, ← e10]; simp
  have e11c : r4 + 1 = r5 := by rw [← e11', ← e10, ← e10']; simp
  refine ⟨s', ?_, H18.ext.trans X'⟩
  have ly' : ys.length ≤ 100000 := by omega
  have lx' : xs.length ≤ 100000 := by omega
  simp -implicitDefEqProofs [m_law, startE, f1, f2, f3, f4, f5, e6, e6', e7, e7', f8, e9, e9', e10, e10', e11, e11', e11b, e11c, f12, hxs, lx', e13, e13', q13, hA, e14, e14', q14, hB, e15, e15', qA, qB, lAB', e16, e16', qR, lAB, f17, ly', e18, e18', q]
theorem hm_law : ∀ ds st0, ds.length = 1 → wfS st0 → wfD.wfDs st0.length ds → Fin st0.length (retR (m_law (startE 12 ds) st0)) (F_law ds st0) := by
  intro ds st0 hl hw hd
  unfold F_law
  split
  · split
    · split
      · rename_i xs _ ns h c
        have hx := intsD_map h
        subst hx
        obtain ⟨s, e, x⟩ := law_run (st0 := st0) (ns := ns)
        rw [e]
        exact fin_ext hw x trivial
      · exact fin_bad
    · exact fin_bad
  · exact fin_bad
theorem law_true : ∀ ns : List Int, ns.length ≤ 63 → ∃ st, F_law [.fz (ns.map .int)] [] = .ok (.bl true) st := fun ns h => ⟨[], by
  have : ns.length < 1000 := by omega
  simp [F_law, this]⟩
end Lw
set_option maxRecDepth 100000
set_option maxHeartbeats 4000000
namespace Lw
open PySem PySem.Spec PyProof.Rows L2 Dn

def topS (i : Nat) : Stmt := PySem.Challenge.pw_bothcome_k45_too_small_trees.main.body.getD i (.Pass ⟨0, 0, 0, 0⟩)
abbrev s_law_mixed : Stmt := topS 21
theorem sc_law_mixed : FnScope ["cell", "number", "total", "k", "raised"] ["cell"] (defScope s_law_mixed) := ⟨rfl, rfl, rfl, by decide +kernel, rfl, by decide +kernel, by decide +kernel⟩
abbrev s_law_source : Stmt := topS 22
theorem sc_law_source : FnScope ["script", "total", "cell"] ["script"] (defScope s_law_source) := ⟨rfl, rfl, rfl, by decide +kernel, rfl, by decide +kernel, by decide +kernel⟩
abbrev s_law_pick : Stmt := topS 23
theorem sc_law_pick : FnScope ["source", "size", "drawn"] ["source", "size"] (defScope s_law_pick) := ⟨rfl, rfl, rfl, by decide +kernel, rfl, by decide +kernel, by decide +kernel⟩
abbrev s_law_roads : Stmt := topS 24
theorem sc_law_roads : FnScope ["source", "least", "longest", "shape", "even", "first", "roads", "v", "length", "parent"] ["source", "least"] (defScope s_law_roads) := ⟨rfl, rfl, rfl, by decide +kernel, rfl, by decide +kernel, by decide +kernel⟩
abbrev s_is_int : Stmt := topS 13
theorem sc_is_int : FnScope ["value"] ["value"] (defScope s_is_int) := ⟨rfl, rfl, rfl, by decide +kernel, rfl, by decide +kernel, by decide +kernel⟩
abbrev s_is_int_pair : Stmt := topS 14
theorem sc_is_int_pair : FnScope ["value"] ["value"] (defScope s_is_int_pair) := ⟨rfl, rfl, rfl, by decide +kernel, rfl, by decide +kernel, by decide +kernel⟩
abbrev s_is_road : Stmt := topS 16
theorem sc_is_road : FnScope ["value", "node", "parent", "length"] ["value", "node"] (defScope s_is_road) := ⟨rfl, rfl, rfl, by decide +kernel, rfl, by decide +kernel, by decide +kernel⟩
abbrev s_are_roads : Stmt := topS 17
theorem sc_are_roads : FnScope ["value", "node", "road"] ["value"] (defScope s_are_roads) := ⟨rfl, rfl, rfl, by decide +kernel, rfl, by decide +kernel, by decide +kernel⟩
abbrev s_node_depths : Stmt := topS 18
theorem sc_node_depths : FnScope ["roads", "depths", "parent", "length"] ["roads"] (defScope s_node_depths) := ⟨rfl, rfl, rfl, by decide +kernel, rfl, by decide +kernel, by decide +kernel⟩
abbrev s_Tree_init : Stmt := inClass (topS 19) 0
theorem sc_Tree_init : FnScope ["self", "roads", "parent", "length", "road"] ["self", "roads"] (defScope s_Tree_init) := ⟨rfl, rfl, rfl, by decide +kernel, rfl, by decide +kernel, by decide +kernel⟩
abbrev s_Tree_len : Stmt := inClass (topS 19) 2
theorem sc_Tree_len : FnScope ["self"] ["self"] (defScope s_Tree_len) := ⟨rfl, rfl, rfl, by decide +kernel, rfl, by decide +kernel, by decide +kernel⟩
abbrev s_Tree_contains : Stmt := inClass (topS 19) 4
theorem sc_Tree_contains : FnScope ["self", "x", "node", "up"] ["self", "x"] (defScope s_Tree_contains) := ⟨rfl, rfl, rfl, by decide +kernel, rfl, by decide +kernel, by decide +kernel⟩
abbrev s_Tree_check_points : Stmt := inClass (topS 19) 10
theorem sc_Tree_check_points : FnScope ["self", "values", "value"] ["self", "values"] (defScope s_Tree_check_points) := ⟨rfl, rfl, rfl, by decide +kernel, rfl, by decide +kernel, by decide +kernel⟩
abbrev s_Tree_depth : Stmt := inClass (topS 19) 11
theorem sc_Tree_depth : FnScope ["self", "point", "node", "up"] ["self", "point"] (defScope s_Tree_depth) := ⟨rfl, rfl, rfl, by decide +kernel, rfl, by decide +kernel, by decide +kernel⟩
abbrev s_Tree_top : Stmt := inClass (topS 19) 13
theorem sc_Tree_top : FnScope ["self", "one", "other", "node", "up", "other_node", "other_up"] ["self", "one", "other"] (defScope s_Tree_top) := ⟨rfl, rfl, rfl, by decide +kernel, rfl, by decide +kernel, by decide +kernel⟩
abbrev s_Tree_way_length : Stmt := inClass (topS 19) 14
theorem sc_Tree_way_length : FnScope ["self", "one", "other"] ["self", "one", "other"] (defScope s_Tree_way_length) := ⟨rfl, rfl, rfl, by decide +kernel, rfl, by decide +kernel, by decide +kernel⟩
abbrev s_Tree_distance : Stmt := inClass (topS 19) 5
theorem sc_Tree_distance : FnScope ["self", "one", "other"] ["self", "one", "other"] (defScope s_Tree_distance) := ⟨rfl, rfl, rfl, by decide +kernel, rfl, by decide +kernel, by decide +kernel⟩
abbrev s_Tree_climb : Stmt := inClass (topS 19) 15
theorem sc_Tree_climb : FnScope ["self", "point", "far", "node", "up"] ["self", "point", "far"] (defScope s_Tree_climb) := ⟨rfl, rfl, rfl, by decide +kernel, rfl, by decide +kernel, by decide +kernel⟩
abbrev s_Tree_towards : Stmt := inClass (topS 19) 7
theorem sc_Tree_towards : FnScope ["self", "one", "other", "far", "length"] ["self", "one", "other", "far"] (defScope s_Tree_towards) := ⟨rfl, rfl, rfl, by decide +kernel, rfl, by decide +kernel, by decide +kernel⟩
abbrev s_three_in_a_row : Stmt := topS 11
theorem sc_three_in_a_row : FnScope ["tree", "node", "other", "far"] ["tree"] (defScope s_three_in_a_row) := ⟨rfl, rfl, rfl, by decide +kernel, rfl, by decide +kernel, by decide +kernel⟩
abbrev s_beyond : Stmt := topS 10
theorem sc_beyond : FnScope ["tree", "k", "factor", "slack", "near", "middle", "far", "turns", "crew", "calls", "number", "turn"] ["tree", "k", "factor", "slack"] (defScope s_beyond) := ⟨rfl, rfl, rfl, by decide +kernel, rfl, by decide +kernel, by decide +kernel⟩
abbrev s_law_refused : Stmt := topS 25
theorem sc_law_refused : FnScope ["tree", "size", "factor", "slack", "caught", "error"] ["tree", "size", "factor", "slack"] (defScope s_law_refused) := ⟨rfl, rfl, rfl, by decide +kernel, rfl, by decide +kernel, by decide +kernel⟩
abbrev s_law_let : Stmt := topS 26
theorem sc_law_let : FnScope ["tree", "size", "factor", "slack", "given", "row"] ["tree", "size", "factor", "slack"] (defScope s_law_let) := ⟨rfl, rfl, rfl, by decide +kernel, rfl, by decide +kernel, by decide +kernel⟩
abbrev s_law : Stmt := topS 27
theorem sc_law : FnScope ["script", "source", "size", "factor", "slack", "first", "rows", "trees", "again", "k", "roads", "road"] ["script"] (defScope s_law) := ⟨rfl, rfl, rfl, by decide +kernel, rfl, by decide +kernel, by decide +kernel⟩
structure Tx (K : PySem.W.Frag) (mg : Str → Option Value) (cA : Str → Addr) : Prop where
  z_ValueError : mg "ValueError" = none
  z_all : mg "all" = none
  z_bool : mg "bool" = none
  z_enumerate : mg "enumerate" = none
  z_int : mg "int" = none
  z_isinstance : mg "isinstance" = none
  z_len : mg "len" = none
  z_list : mg "list" = none
  z_max : mg "max" = none
  z_range : mg "range" = none
  z_sum : mg "sum" = none
  z_tuple : mg "tuple" = none
  cls_Tree : Cls K (cA "Tree")
  na_Tree_depths : NoAttr K (cA "Tree") "_depths"
  na_Tree_lengths : NoAttr K (cA "Tree") "_lengths"
  na_Tree_parents : NoAttr K (cA "Tree") "_parents"
  na_Tree_roads : NoAttr K (cA "Tree") "_roads"
  isc_Tree : IsC K (cA "Tree")
  mt_Tree_bool : PySem.W.mroIn K (cA "Tree") (.type "bool") = some false
  mt_Tree_int : PySem.W.mroIn K (cA "Tree") (.type "int") = some false
  mt_Tree_list : PySem.W.mroIn K (cA "Tree") (.type "list") = some false
  mt_Tree_tuple : PySem.W.mroIn K (cA "Tree") (.type "tuple") = some false
  gc_Tree : mg "Tree" = some (.ref (cA "Tree"))
  ex_InvalidPoint : ExH K mg cA "InvalidPoint"
  ex_InvalidTree : ExH K mg cA "InvalidTree"
  ex_TooSmall : ExH K mg cA "TooSmall"
  gx_InvalidCrew : mg "InvalidCrew" = some (.ref (cA "InvalidCrew"))
  gx_InvalidPlaces : mg "InvalidPlaces" = some (.ref (cA "InvalidPlaces"))
  gx_InvalidTree : mg "InvalidTree" = some (.ref (cA "InvalidTree"))
  gx_TooMany : mg "TooMany" = some (.ref (cA "TooMany"))
  gx_TooSmall : mg "TooSmall" = some (.ref (cA "TooSmall"))
  gx_WatchError : mg "WatchError" = some (.ref (cA "WatchError"))
  xc_TooSmall : ExcC K (cA "TooSmall")
  kx_TooSmall_InvalidCrew : PySem.W.kitOne K (.ref (cA "TooSmall")) (.ref (cA "InvalidCrew")) = some false
  kx_TooSmall_InvalidPlaces : PySem.W.kitOne K (.ref (cA "TooSmall")) (.ref (cA "InvalidPlaces")) = some false
  kx_TooSmall_InvalidTree : PySem.W.kitOne K (.ref (cA "TooSmall")) (.ref (cA "InvalidTree")) = some false
  kx_TooSmall_TooMany : PySem.W.kitOne K (.ref (cA "TooSmall")) (.ref (cA "TooMany")) = some false
  kx_TooSmall_TooSmall : PySem.W.kitOne K (.ref (cA "TooSmall")) (.ref (cA "TooSmall")) = some true
  kx_TooSmall_ValueError : PySem.W.kitOne K (.ref (cA "TooSmall")) (.type "ValueError") = some true
  xs_InvalidPoint_WatchError : PySem.W.exmOne K (.ref (cA "InvalidPoint")) (.ref (cA "WatchError")) = some true
  xs_InvalidTree_WatchError : PySem.W.exmOne K (.ref (cA "InvalidTree")) (.ref (cA "WatchError")) = some true
  xs_TooSmall_WatchError : PySem.W.exmOne K (.ref (cA "TooSmall")) (.ref (cA "WatchError")) = some true
end Lw
set_option maxRecDepth 100000
set_option maxHeartbeats 4000000
namespace Lw
open PySem PySem.Spec PyProof.Rows L2 Dn

theorem mech_law_mixed {P : Program} {w : World} {K : PySem.W.Frag} {mg : Str → Option Value} {base : Heap} {cA : Str → Addr} {f : Addr} {fd : FuncData} (Fu : Fun K "_law_mixed" "_law_mixed" s_law_mixed f fd) (T : Tx K mg cA) 
    (hm : ∀ ds st0, ds.length = 1 → wfS st0 → wfD.wfDs st0.length ds → Fin st0.length (retR (m_law_mixed (startE 5 ds) st0)) (F_law_mixed ds st0)) :
    FnOk P w K mg base (L2.CX P w) 1 f fd ["cell"] (spM ⟨K, cA⟩ 1 F_law_mixed) :=
  def_ok Fu sc_law_mixed rfl (fun cdv A outer s H E hr tk hp =>
    (dss_cons
    (ds_set 1 sc_law_mixed.nd (de_op op_addA s2_add (de_op op_mod s2_mod (de_ty call_int1 sl_int T.z_int (da_cons (de_var 0) da_nil)) de_int) de_int))
    (dss_cons
    (ds_set 2 sc_law_mixed.nd de_int)
    (dss_cons
    (ds_for hp rfl (di_range1 T.z_range de_int) (dg_name 3 sc_law_mixed.nd) (dss_cons
    (ds_set 4 sc_law_mixed.nd (de_op op_addA s2_add (de_op op_mulA s2_mul (de_op op_mulA s2_mul (de_var 1) (de_var 1)) de_int) (de_op op_mulA s2_mul (de_var 1) de_int)))
    (dss_cons
    (ds_set 1 sc_law_mixed.nd (de_op op_mod s2_mod (de_ty call_int1 sl_int T.z_int (da_cons (de_op op_addA s2_add (de_op op_addA s2_add (de_var 4) (de_op op_mulA s2_mul (de_var 3) de_int)) de_int) da_nil)) de_int))
    (dss_one (ds_set 2 sc_law_mixed.nd (de_op op_addA s2_add (de_op op_mulA s2_mul (de_var 2) de_int) (de_var 1)))))))
    (dss_one (ds_ret (de_var 2))))))) hm
theorem mech_law_source {P : Program} {w : World} {K : PySem.W.Frag} {mg : Str → Option Value} {base : Heap} {cA : Str → Addr} {f : Addr} {fd : FuncData} (Fu : Fun K "_law_source" "_law_source" s_law_source f fd) (T : Tx K mg cA) (h_law_mixed : FnH P w K mg base cA "_law_mixed" 1 1 F_law_mixed)
    (hm : ∀ ds st0, ds.length = 1 → wfS st0 → wfD.wfDs st0.length ds → Fin st0.length (retR (m_law_source (startE 3 ds) st0)) (F_law_source ds st0)) :
    FnOk P w K mg base (L2.CX P w) 2 f fd ["script"] (spM ⟨K, cA⟩ 1 F_law_source) :=
  def_ok Fu sc_law_source rfl (fun cdv A outer s H E hr tk hp =>
    (dss_cons
    (ds_set 1 sc_law_source.nd de_int)
    (dss_cons
    (ds_for hp rfl (di_seq (de_var 0)) (dg_name 2 sc_law_source.nd) (dss_one (ds_if (dt_cmp op_ge s2_cmp (de_var 2) (de_op op_pow s2_pow de_int de_int) (nomark _)) (dss_one (ds_set 1 sc_law_source.nd (de_op op_addA s2_add (de_op op_mulA s2_mul (de_var 1) de_int) (de_op op_sub s2_sub (de_var 2) (de_op op_pow s2_pow de_int de_int))))) (dss_one (ds_set 1 sc_law_source.nd (de_op op_addA s2_add (de_op op_mulA s2_mul (de_var 1) de_int) (de_call h_law_mixed tk hr (by decide) (da_cons (de_var 2) da_nil) (len_cons (fun _ _ _ _ h => len_nil h)))))))))
    (dss_one (ds_ret (de_lst (da_cons (de_var 1) da_nil))))))) hm
theorem mech_law_pick {P : Program} {w : World} {K : PySem.W.Frag} {mg : Str → Option Value} {base : Heap} {cA : Str → Addr} {f : Addr} {fd : FuncData} (Fu : Fun K "_law_pick" "_law_pick" s_law_pick f fd) (T : Tx K mg cA) 
    (hm : ∀ ds st0, ds.length = 2 → wfS st0 → wfD.wfDs st0.length ds → Fin st0.length (retR (m_law_pick (startE 3 ds) st0)) (F_law_pick ds st0)) :
    FnOk P w K mg base (L2.CX P w) 1 f fd ["source", "size"] (spM ⟨K, cA⟩ 2 F_law_pick) :=
  def_ok Fu sc_law_pick rfl (fun cdv A outer s H E hr tk hp =>
    (dss_cons
    (ds_set 2 sc_law_pick.nd (de_op op_mod s2_mod (de_ty call_int1 sl_int T.z_int (da_cons (de_idx (de_var 0) de_int) da_nil)) (de_var 1)))
    (dss_cons
    (ds_asg (de_op op_fdiv s2_div (de_idx (de_var 0) de_int) (de_var 1)) (dg_sub set_list s3_setI (de_var 0) de_int))
    (dss_one (ds_ret (de_var 2)))))) hm
theorem mech_law_roads {P : Program} {w : World} {K : PySem.W.Frag} {mg : Str → Option Value} {base : Heap} {cA : Str → Addr} {f : Addr} {fd : FuncData} (Fu : Fun K "_law_roads" "_law_roads" s_law_roads f fd) (T : Tx K mg cA) (h_law_pick : FnH P w K mg base cA "_law_pick" 2 1 F_law_pick)
    (hm : ∀ ds st0, ds.length = 2 → wfS st0 → wfD.wfDs st0.length ds → Fin st0.length (retR (m_law_roads (startE 10 ds) st0)) (F_law_roads ds st0)) :
    FnOk P w K mg base (L2.CX P w) 2 f fd ["source", "least"] (spM ⟨K, cA⟩ 2 F_law_roads) :=
  def_ok Fu sc_law_roads rfl (fun cdv A outer s H E hr tk hp =>
    (dss_cons
    (ds_set 2 sc_law_roads.nd (de_idx (de_lst (da_cons de_int (da_cons de_int (da_cons de_int (da_cons de_int da_nil))))) (de_call h_law_pick tk hr (by decide) (da_cons (de_var 0) (da_cons de_int da_nil)) (len_cons (len_cons (fun _ _ _ _ h => len_nil h))))))
    (dss_cons
    (ds_set 3 sc_law_roads.nd (de_call h_law_pick tk hr (by decide) (da_cons (de_var 0) (da_cons de_int da_nil)) (len_cons (len_cons (fun _ _ _ _ h => len_nil h)))))
    (dss_cons
    (ds_set 4 sc_law_roads.nd (de_call h_law_pick tk hr (by decide) (da_cons (de_var 0) (da_cons de_int da_nil)) (len_cons (len_cons (fun _ _ _ _ h => len_nil h)))))
    (dss_cons
    (ds_set 5 sc_law_roads.nd (de_op op_addA s2_add de_int (de_call h_law_pick tk hr (by decide) (da_cons (de_var 0) (da_cons (de_var 2) da_nil)) (len_cons (len_cons (fun _ _ _ _ h => len_nil h))))))
    (dss_cons
    (ds_set 6 sc_law_roads.nd (de_lst da_nil))
    (dss_cons
    (ds_for hp rfl (di_range2 T.z_range de_int (de_op op_addA s2_add (de_op op_addA s2_add de_int (de_var 1)) (de_call h_law_pick tk hr (by decide) (da_cons (de_var 0) (da_cons (de_op op_sub s2_sub de_int (de_var 1)) da_nil)) (len_cons (len_cons (fun _ _ _ _ h => len_nil h)))))) (dg_name 7 sc_law_roads.nd) (dss_cons
    (ds_set 8 sc_law_roads.nd (de_op op_addA s2_add de_int (de_call h_law_pick tk hr (by decide) (da_cons (de_var 0) (da_cons (de_var 2) da_nil)) (len_cons (len_cons (fun _ _ _ _ h => len_nil h))))))
    (dss_cons
    (ds_if (dt_cmp (op_eqD hr.units) s2_eq (de_var 4) de_int (nomark _)) (dss_one (ds_set 8 sc_law_roads.nd (de_var 5))) dss_nil)
    (dss_cons
    (ds_set 9 sc_law_roads.nd (de_call h_law_pick tk hr (by decide) (da_cons (de_var 0) (da_cons (de_var 7) da_nil)) (len_cons (len_cons (fun _ _ _ _ h => len_nil h)))))
    (dss_cons
    (ds_if (dt_cmp (op_eqD hr.units) s2_eq (de_var 3) de_int (nomark _)) (dss_one (ds_set 9 sc_law_roads.nd de_int)) dss_nil)
    (dss_cons
    (ds_if (dt_cmp (op_eqD hr.units) s2_eq (de_var 3) de_int (nomark _)) (dss_one (ds_set 9 sc_law_roads.nd (de_op op_sub s2_sub (de_var 7) de_int))) dss_nil)
    (dss_one (ds_expr (de_meth mt_append sm_append PySem.F.slot_list_append PySem.F.type_list_append (de_var 6) (da_cons (de_tup (da_cons (de_var 9) (da_cons (de_var 8) da_nil))) da_nil))))))))))
    (dss_one (ds_ret (de_var 6)))))))))) hm
theorem mech_is_int {P : Program} {w : World} {K : PySem.W.Frag} {mg : Str → Option Value} {base : Heap} {cA : Str → Addr} {f : Addr} {fd : FuncData} (Fu : Fun K "is_int" "is_int" s_is_int f fd) (T : Tx K mg cA) 
    (hm : ∀ ds st0, ds.length = 1 → wfS st0 → wfD.wfDs st0.length ds → Fin st0.length (retR (m_is_int (startE 1 ds) st0)) (F_is_int ds st0)) :
    FnOk P w K mg base (L2.CX P w) 1 f fd ["value"] (spM ⟨K, cA⟩ 1 F_is_int) :=
  def_ok Fu sc_is_int rfl (fun cdv A outer s H E hr tk hp =>
    (dss_one (ds_ret (de_and (de_isiO (cs := ["Tree"]) T.z_isinstance T.z_int (isO_cons T.isc_Tree T.mt_Tree_int isO_nil) (de_var 0)) (de_one (de_not (de_isiO (cs := ["Tree"]) T.z_isinstance T.z_bool (isO_cons T.isc_Tree T.mt_Tree_bool isO_nil) (de_var 0)))))))) hm
theorem mech_is_int_pair {P : Program} {w : World} {K : PySem.W.Frag} {mg : Str → Option Value} {base : Heap} {cA : Str → Addr} {f : Addr} {fd : FuncData} (Fu : Fun K "is_int_pair" "is_int_pair" s_is_int_pair f fd) (T : Tx K mg cA) (h_is_int : FnH P w K mg base cA "is_int" 1 1 F_is_int)
    (hm : ∀ ds st0, ds.length = 1 → wfS st0 → wfD.wfDs st0.length ds → Fin st0.length (retR (m_is_int_pair (startE 1 ds) st0)) (F_is_int_pair ds st0)) :
    FnOk P w K mg base (L2.CX P w) 2 f fd ["value"] (spM ⟨K, cA⟩ 1 F_is_int_pair) :=
  def_ok Fu sc_is_int_pair rfl (fun cdv A outer s H E hr tk hp =>
    (dss_cons
    (ds_if (DW.dt (dw_or (dt_not (dt_val (de_isiO (cs := ["Tree"]) T.z_isinstance T.z_tuple (isO_cons T.isc_Tree T.mt_Tree_tuple isO_nil) (de_var 0)))) (dw_or1 (dt_cmp (op_neD hr.units) s2_ne (de_fn call_lenA sl_len T.z_len (da_cons (de_var 0) da_nil)) de_int (nomark _))))) (dss_one (ds_ret de_bl)) dss_nil)
    (dss_one (ds_ret (de_and (de_call h_is_int tk hr (by decide) (da_cons (de_idx (de_var 0) de_int) da_nil) (len_cons (fun _ _ _ _ h => len_nil h))) (de_one (de_call h_is_int tk hr (by decide) (da_cons (de_idx (de_var 0) de_int) da_nil) (len_cons (fun _ _ _ _ h => len_nil h))))))))) hm
theorem mech_is_road {P : Program} {w : World} {K : PySem.W.Frag} {mg : Str → Option Value} {base : Heap} {cA : Str → Addr} {f : Addr} {fd : FuncData} (Fu : Fun K "_is_road" "_is_road" s_is_road f fd) (T : Tx K mg cA) (h_is_int_pair : FnH P w K mg base cA "is_int_pair" 1 2 F_is_int_pair)
    (hm : ∀ ds st0, ds.length = 2 → wfS st0 → wfD.wfDs st0.length ds → Fin st0.length (retR (m_is_road (startE 4 ds) st0)) (F_is_road ds st0)) :
    FnOk P w K mg base (L2.CX P w) 3 f fd ["value", "node"] (spM ⟨K, cA⟩ 2 F_is_road) :=
  def_ok Fu sc_is_road rfl (fun cdv A outer s H E hr tk hp =>
    (dss_cons
    (ds_if (dt_not (dt_val (de_call h_is_int_pair tk hr (by decide) (da_cons (de_var 0) da_nil) (len_cons (fun _ _ _ _ h => len_nil h))))) (dss_one (ds_ret de_bl)) dss_nil)
    (dss_cons
    (ds_asg (de_var 0) (dg_tup rfl (dgs_cons (dg_name 2 sc_is_road.nd) (dgs_cons (dg_name 3 sc_is_road.nd) dgs_nil))))
    (dss_one (ds_ret (de_and (de_chain op_le op_lt s2_cmp s2_cmp de_int (de_var 2) (de_var 1)) (de_one (de_cmp op_ge s2_cmp (de_var 3) de_int (nomark _))))))))) hm
theorem mech_are_roads {P : Program} {w : World} {K : PySem.W.Frag} {mg : Str → Option Value} {base : Heap} {cA : Str → Addr} {f : Addr} {fd : FuncData} (Fu : Fun K "_are_roads" "_are_roads" s_are_roads f fd) (T : Tx K mg cA) (h_is_road : FnH P w K mg base cA "_is_road" 2 3 F_is_road)
    (hm : ∀ ds st0, ds.length = 1 → wfS st0 → wfD.wfDs st0.length ds → Fin st0.length (retR (m_are_roads (startE 3 ds) st0)) (F_are_roads ds st0)) :
    FnOk P w K mg base (L2.CX P w) 4 f fd ["value"] (spM ⟨K, cA⟩ 1 F_are_roads) :=
  def_ok Fu sc_are_roads rfl (fun cdv A outer s H E hr tk hp =>
    (dss_cons
    (ds_if (dt_not (dt_val (de_isiO (cs := ["Tree"]) T.z_isinstance T.z_list (isO_cons T.isc_Tree T.mt_Tree_list isO_nil) (de_var 0)))) (dss_one (ds_ret de_bl)) dss_nil)
    (dss_one (ds_ret (de_fn (cr_all rfl) sl_all T.z_all (da_cons (de_lc [("node", 1), ("road", 2)] rfl sc_are_roads.nd (di_enumS T.z_enumerate (de_var 0) de_int) (blkOk_by (N := ["value", "node", "road"]) (sc := defScope s_are_roads) (own := [("node", 1), ("road", 2)]) (by decide +kernel)) (fun _ _ _ _ _ => (dg_tup rfl (dgs_cons (dg_name 1 sc_are_roads.nd) (dgs_cons (dg_name 2 sc_are_roads.nd) dgs_nil)))) (fun _ _ _ _ _ => dts_nil) (fun _ _ _ _ _ => (de_call h_is_road takes0 hr (by decide) (da_cons (de_var 2) (da_cons (de_var 1) da_nil)) (len_cons (len_cons (fun _ _ _ _ h => len_nil h)))))) da_nil)))))) hm
theorem mech_node_depths {P : Program} {w : World} {K : PySem.W.Frag} {mg : Str → Option Value} {base : Heap} {cA : Str → Addr} {f : Addr} {fd : FuncData} (Fu : Fun K "_node_depths" "_node_depths" s_node_depths f fd) (T : Tx K mg cA) 
    (hm : ∀ ds st0, ds.length = 1 → wfS st0 → wfD.wfDs st0.length ds → Fin st0.length (retR (m_node_depths (startE 4 ds) st0)) (F_node_depths ds st0)) :
    FnOk P w K mg base (L2.CX P w) 1 f fd ["roads"] (spM ⟨K, cA⟩ 1 F_node_depths) :=
  def_ok Fu sc_node_depths rfl (fun cdv A outer s H E hr tk hp =>
    (dss_cons
    (ds_set 1 sc_node_depths.nd (de_lst (da_cons de_int da_nil)))
    (dss_cons
    (ds_for hp rfl (di_seq (de_var 0)) (dg_tup rfl (dgs_cons (dg_name 2 sc_node_depths.nd) (dgs_cons (dg_name 3 sc_node_depths.nd) dgs_nil))) (dss_one (ds_expr (de_meth mt_append sm_append PySem.F.slot_list_append PySem.F.type_list_append (de_var 1) (da_cons (de_op op_addA s2_add (de_idx (de_var 1) (de_var 2)) (de_var 3)) da_nil)))))
    (dss_one (ds_ret (de_var 1)))))) hm
theorem mech_Tree_init {P : Program} {w : World} {K : PySem.W.Frag} {mg : Str → Option Value} {base : Heap} {cA : Str → Addr} {f : Addr} {fd : FuncData} (Fu : Fun K "__init__" "Tree.__init__" s_Tree_init f fd) (T : Tx K mg cA) (h_are_roads : FnH P w K mg base cA "_are_roads" 1 4 F_are_roads) (h_node_depths : FnH P w K mg base cA "_node_depths" 1 1 F_node_depths)
    (hm : ∀ ds st0, ds.length = 2 → wfS st0 → wfD.wfDs st0.length ds → Fin st0.length (retR (m_Tree_init (startE 5 ds) st0)) (F_Tree_init ds st0)) :
    FnOk P w K mg base (L2.CX P w) 5 f fd ["self", "roads"] (spM ⟨K, cA⟩ 2 F_Tree_init) :=
  def_ok Fu sc_Tree_init rfl (fun cdv A outer s H E hr tk hp =>
    (dss_cons
    (ds_if (dt_not (dt_val (de_call h_are_roads tk hr (by decide) (da_cons (de_var 1) da_nil) (len_cons (fun _ _ _ _ h => len_nil h))))) (dss_one (ds_raise T.ex_InvalidTree tk rfl)) dss_nil)
    (dss_cons
    (ds_setF "Tree" T.cls_Tree T.na_Tree_roads (de_var 0) (de_lc [("parent", 2), ("length", 3)] rfl sc_Tree_init.nd (di_seq (de_var 1)) (blkOk_by (N := ["self", "roads", "parent", "length", "road"]) (sc := defScope s_Tree_init) (own := [("parent", 2), ("length", 3)]) (by decide +kernel)) (fun _ _ _ _ _ => (dg_tup rfl (dgs_cons (dg_name 2 sc_Tree_init.nd) (dgs_cons (dg_name 3 sc_Tree_init.nd) dgs_nil)))) (fun _ _ _ _ _ => dts_nil) (fun _ _ _ _ _ => (de_tup (da_cons (de_var 2) (da_cons (de_var 3) da_nil))))))
    (dss_cons
    (ds_setF "Tree" T.cls_Tree T.na_Tree_parents (de_var 0) (de_op op_addA s2_add (de_lst (da_cons de_int da_nil)) (de_lc [("road", 4)] rfl sc_Tree_init.nd (di_seq (de_fld "Tree" T.cls_Tree T.na_Tree_roads (de_var 0))) (blkOk_by (N := ["self", "roads", "parent", "length", "road"]) (sc := defScope s_Tree_init) (own := [("road", 4)]) (by decide +kernel)) (fun _ _ _ _ _ => (dg_name 4 sc_Tree_init.nd)) (fun _ _ _ _ _ => dts_nil) (fun _ _ _ _ _ => (de_idx (de_var 4) de_int)))))
    (dss_cons
    (ds_setF "Tree" T.cls_Tree T.na_Tree_lengths (de_var 0) (de_op op_addA s2_add (de_lst (da_cons de_int da_nil)) (de_lc [("road", 4)] rfl sc_Tree_init.nd (di_seq (de_fld "Tree" T.cls_Tree T.na_Tree_roads (de_var 0))) (blkOk_by (N := ["self", "roads", "parent", "length", "road"]) (sc := defScope s_Tree_init) (own := [("road", 4)]) (by decide +kernel)) (fun _ _ _ _ _ => (dg_name 4 sc_Tree_init.nd)) (fun _ _ _ _ _ => dts_nil) (fun _ _ _ _ _ => (de_idx (de_var 4) de_int)))))
    (dss_one (ds_setF "Tree" T.cls_Tree T.na_Tree_depths (de_var 0) (de_call h_node_depths tk hr (by decide) (da_cons (de_fld "Tree" T.cls_Tree T.na_Tree_roads (de_var 0)) da_nil) (len_cons (fun _ _ _ _ h => len_nil h)))))))))) hm
theorem mech_Tree_len {P : Program} {w : World} {K : PySem.W.Frag} {mg : Str → Option Value} {base : Heap} {cA : Str → Addr} {f : Addr} {fd : FuncData} (Fu : Fun K "__len__" "Tree.__len__" s_Tree_len f fd) (T : Tx K mg cA) 
    (hm : ∀ ds st0, ds.length = 1 → wfS st0 → wfD.wfDs st0.length ds → Fin st0.length (retR (m_Tree_len (startE 1 ds) st0)) (F_Tree_len ds st0)) :
    FnOk P w K mg base (L2.CX P w) 1 f fd ["self"] (spM ⟨K, cA⟩ 1 F_Tree_len) :=
  def_ok Fu sc_Tree_len rfl (fun cdv A outer s H E hr tk hp =>
    (dss_one (ds_ret (de_fn call_lenA sl_len T.z_len (da_cons (de_fld "Tree" T.cls_Tree T.na_Tree_parents (de_var 0)) da_nil))))) hm
theorem mech_Tree_contains {P : Program} {w : World} {K : PySem.W.Frag} {mg : Str → Option Value} {base : Heap} {cA : Str → Addr} {f : Addr} {fd : FuncData} (Fu : Fun K "__contains__" "Tree.__contains__" s_Tree_contains f fd) (T : Tx K mg cA) (h_is_int_pair : FnH P w K mg base cA "is_int_pair" 1 2 F_is_int_pair)
    (hm : ∀ ds st0, ds.length = 2 → wfS st0 → wfD.wfDs st0.length ds → Fin st0.length (retR (m_Tree_contains (startE 4 ds) st0)) (F_Tree_contains ds st0)) :
    FnOk P w K mg base (L2.CX P w) 3 f fd ["self", "x"] (spM ⟨K, cA⟩ 2 F_Tree_contains) :=
  def_ok Fu sc_Tree_contains rfl (fun cdv A outer s H E hr tk hp =>
    (dss_cons
    (ds_if (dt_not (dt_val (de_call h_is_int_pair tk hr (by decide) (da_cons (de_var 1) da_nil) (len_cons (fun _ _ _ _ h => len_nil h))))) (dss_one (ds_ret de_bl)) dss_nil)
    (dss_cons
    (ds_asg (de_var 1) (dg_tup rfl (dgs_cons (dg_name 2 sc_Tree_contains.nd) (dgs_cons (dg_name 3 sc_Tree_contains.nd) dgs_nil))))
    (dss_cons
    (ds_if (DW.dt (dw_or (dt_cmp op_lt s2_cmp (de_var 2) de_int (nomark _)) (dw_or1 (dt_cmp op_ge s2_cmp (de_var 2) (de_fn call_lenA sl_len T.z_len (da_cons (de_fld "Tree" T.cls_Tree T.na_Tree_lengths (de_var 0)) da_nil)) (nomark _))))) (dss_one (ds_ret de_bl)) dss_nil)
    (dss_one (ds_ret (de_chain op_le op_lt s2_cmp s2_cmp de_int (de_var 3) (de_idx (de_fld "Tree" T.cls_Tree T.na_Tree_lengths (de_var 0)) (de_var 2))))))))) hm
theorem mech_Tree_check_points {P : Program} {w : World} {K : PySem.W.Frag} {mg : Str → Option Value} {base : Heap} {cA : Str → Addr} {f : Addr} {fd : FuncData} (Fu : Fun K "_check_points" "Tree._check_points" s_Tree_check_points f fd) (T : Tx K mg cA) (s_Tree_contains : SpH P w K mg base cA "Tree" "__contains__" 2 3 F_Tree_contains)
    (hm : ∀ ds st0, ds.length = 2 → wfS st0 → wfD.wfDs st0.length ds → Fin st0.length (retR (m_Tree_check_points (startE 3 ds) st0)) (F_Tree_check_points ds st0)) :
    FnOk P w K mg base (L2.CX P w) 4 f fd ["self", "values"] (spM ⟨K, cA⟩ 2 F_Tree_check_points) :=
  def_ok Fu sc_Tree_check_points rfl (fun cdv A outer s H E hr tk hp =>
    (dss_one (ds_for hp rfl (di_seq (de_var 1)) (dg_name 2 sc_Tree_check_points.nd) (dss_one (ds_if (dt_notInO s_Tree_contains hr (by decide) (de_var 2) (de_var 0)) (dss_one (ds_raise T.ex_InvalidPoint tk rfl)) dss_nil))))) hm
theorem mech_Tree_depth {P : Program} {w : World} {K : PySem.W.Frag} {mg : Str → Option Value} {base : Heap} {cA : Str → Addr} {f : Addr} {fd : FuncData} (Fu : Fun K "_depth" "Tree._depth" s_Tree_depth f fd) (T : Tx K mg cA) 
    (hm : ∀ ds st0, ds.length = 2 → wfS st0 → wfD.wfDs st0.length ds → Fin st0.length (retR (m_Tree_depth (startE 4 ds) st0)) (F_Tree_depth ds st0)) :
    FnOk P w K mg base (L2.CX P w) 1 f fd ["self", "point"] (spM ⟨K, cA⟩ 2 F_Tree_depth) :=
  def_ok Fu sc_Tree_depth rfl (fun cdv A outer s H E hr tk hp =>
    (dss_cons
    (ds_asg (de_var 1) (dg_tup rfl (dgs_cons (dg_name 2 sc_Tree_depth.nd) (dgs_cons (dg_name 3 sc_Tree_depth.nd) dgs_nil))))
    (dss_one (ds_ret (de_op op_sub s2_sub (de_idx (de_fld "Tree" T.cls_Tree T.na_Tree_depths (de_var 0)) (de_var 2)) (de_var 3)))))) hm
theorem mech_Tree_top {P : Program} {w : World} {K : PySem.W.Frag} {mg : Str → Option Value} {base : Heap} {cA : Str → Addr} {f : Addr} {fd : FuncData} (Fu : Fun K "_top" "Tree._top" s_Tree_top f fd) (T : Tx K mg cA) 
    (hm : ∀ ds st0, ds.length = 3 → wfS st0 → wfD.wfDs st0.length ds → Fin st0.length (retR (m_Tree_top (startE 7 ds) st0)) (F_Tree_top ds st0)) :
    FnOk P w K mg base (L2.CX P w) 1 f fd ["self", "one", "other"] (spM ⟨K, cA⟩ 3 F_Tree_top) :=
  def_ok Fu sc_Tree_top rfl (fun cdv A outer s H E hr tk hp =>
    (dss_cons
    (ds_asg (de_var 1) (dg_tup rfl (dgs_cons (dg_name 3 sc_Tree_top.nd) (dgs_cons (dg_name 4 sc_Tree_top.nd) dgs_nil))))
    (dss_cons
    (ds_asg (de_var 2) (dg_tup rfl (dgs_cons (dg_name 5 sc_Tree_top.nd) (dgs_cons (dg_name 6 sc_Tree_top.nd) dgs_nil))))
    (dss_cons
    (ds_while kw hp (dt_cmp (op_neD hr.units) s2_ne (de_var 3) (de_var 5) (nomark _)) (dss_one (ds_if (dt_cmp op_gt s2_cmp (de_var 3) (de_var 5) (nomark _)) (dss_one (ds_par 3 4 rfl sc_Tree_top.nd (de_idx (de_fld "Tree" T.cls_Tree T.na_Tree_parents (de_var 0)) (de_var 3)) de_int)) (dss_one (ds_par 5 6 rfl sc_Tree_top.nd (de_idx (de_fld "Tree" T.cls_Tree T.na_Tree_parents (de_var 0)) (de_var 5)) de_int)))))
    (dss_one (ds_ret (de_tup (da_cons (de_var 3) (da_cons (de_fn (call_maxA rfl) sl_max T.z_max (da_cons (de_var 4) (da_cons (de_var 6) da_nil))) da_nil))))))))) hm
theorem mech_Tree_way_length {P : Program} {w : World} {K : PySem.W.Frag} {mg : Str → Option Value} {base : Heap} {cA : Str → Addr} {f : Addr} {fd : FuncData} (Fu : Fun K "_way_length" "Tree._way_length" s_Tree_way_length f fd) (T : Tx K mg cA) (h_Tree_depth : MtH P w K mg base cA "Tree" "_depth" 2 1 F_Tree_depth) (h_Tree_top : MtH P w K mg base cA "Tree" "_top" 3 1 F_Tree_top)
    (hm : ∀ ds st0, ds.length = 3 → wfS st0 → wfD.wfDs st0.length ds → Fin st0.length (retR (m_Tree_way_length (startE 3 ds) st0)) (F_Tree_way_length ds st0)) :
    FnOk P w K mg base (L2.CX P w) 2 f fd ["self", "one", "other"] (spM ⟨K, cA⟩ 3 F_Tree_way_length) :=
  def_ok Fu sc_Tree_way_length rfl (fun cdv A outer s H E hr tk hp =>
    (dss_one (ds_ret (de_op op_sub s2_sub (de_op op_addA s2_add (de_methO _ T.cls_Tree h_Tree_depth tk hr (by decide) (de_var 0) (da_cons (de_var 1) da_nil) (fun e s ds s1 h => congrArg Nat.succ ((len_cons (fun _ _ _ _ h => len_nil h)) e s ds s1 h))) (de_methO _ T.cls_Tree h_Tree_depth tk hr (by decide) (de_var 0) (da_cons (de_var 2) da_nil) (fun e s ds s1 h => congrArg Nat.succ ((len_cons (fun _ _ _ _ h => len_nil h)) e s ds s1 h)))) (de_op op_mulA s2_mul de_int (de_methO _ T.cls_Tree h_Tree_depth tk hr (by decide) (de_var 0) (da_cons (de_methO _ T.cls_Tree h_Tree_top tk hr (by decide) (de_var 0) (da_cons (de_var 1) (da_cons (de_var 2) da_nil)) (fun e s ds s1 h => congrArg Nat.succ ((len_cons (len_cons (fun _ _ _ _ h => len_nil h))) e s ds s1 h))) da_nil) (fun e s ds s1 h => congrArg Nat.succ ((len_cons (fun _ _ _ _ h => len_nil h)) e s ds s1 h)))))))) hm
theorem mech_Tree_distance {P : Program} {w : World} {K : PySem.W.Frag} {mg : Str → Option Value} {base : Heap} {cA : Str → Addr} {f : Addr} {fd : FuncData} (Fu : Fun K "distance" "Tree.distance" s_Tree_distance f fd) (T : Tx K mg cA) (h_Tree_check_points : MtH P w K mg base cA "Tree" "_check_points" 2 4 F_Tree_check_points) (h_Tree_way_length : MtH P w K mg base cA "Tree" "_way_length" 3 2 F_Tree_way_length)
    (hm : ∀ ds st0, ds.length = 3 → wfS st0 → wfD.wfDs st0.length ds → Fin st0.length (retR (m_Tree_distance (startE 3 ds) st0)) (F_Tree_distance ds st0)) :
    FnOk P w K mg base (L2.CX P w) 5 f fd ["self", "one", "other"] (spM ⟨K, cA⟩ 3 F_Tree_distance) :=
  def_ok Fu sc_Tree_distance rfl (fun cdv A outer s H E hr tk hp =>
    (dss_cons
    (ds_expr (de_methO _ T.cls_Tree h_Tree_check_points tk hr (by decide) (de_var 0) (da_cons (de_lst (da_cons (de_var 1) (da_cons (de_var 2) da_nil))) da_nil) (fun e s ds s1 h => congrArg Nat.succ ((len_cons (fun _ _ _ _ h => len_nil h)) e s ds s1 h))))
    (dss_one (ds_ret (de_methO _ T.cls_Tree h_Tree_way_length tk hr (by decide) (de_var 0) (da_cons (de_var 1) (da_cons (de_var 2) da_nil)) (fun e s ds s1 h => congrArg Nat.succ ((len_cons (len_cons (fun _ _ _ _ h => len_nil h))) e s ds s1 h))))))) hm
theorem mech_Tree_climb {P : Program} {w : World} {K : PySem.W.Frag} {mg : Str → Option Value} {base : Heap} {cA : Str → Addr} {f : Addr} {fd : FuncData} (Fu : Fun K "_climb" "Tree._climb" s_Tree_climb f fd) (T : Tx K mg cA) 
    (hm : ∀ ds st0, ds.length = 3 → wfS st0 → wfD.wfDs st0.length ds → Fin st0.length (retR (m_Tree_climb (startE 5 ds) st0)) (F_Tree_climb ds st0)) :
    FnOk P w K mg base (L2.CX P w) 1 f fd ["self", "point", "far"] (spM ⟨K, cA⟩ 3 F_Tree_climb) :=
  def_ok Fu sc_Tree_climb rfl (fun cdv A outer s H E hr tk hp =>
    (dss_cons
    (ds_asg (de_var 1) (dg_tup rfl (dgs_cons (dg_name 3 sc_Tree_climb.nd) (dgs_cons (dg_name 4 sc_Tree_climb.nd) dgs_nil))))
    (dss_cons
    (ds_set 4 sc_Tree_climb.nd (de_op op_addA s2_add (de_var 4) (de_var 2)))
    (dss_cons
    (ds_while kw hp (dt_cmp op_ge s2_cmp (de_var 4) (de_idx (de_fld "Tree" T.cls_Tree T.na_Tree_lengths (de_var 0)) (de_var 3)) (nomark _)) (dss_cons
    (ds_set 4 sc_Tree_climb.nd (de_op op_sub s2_sub (de_var 4) (de_idx (de_fld "Tree" T.cls_Tree T.na_Tree_lengths (de_var 0)) (de_var 3))))
    (dss_one (ds_set 3 sc_Tree_climb.nd (de_idx (de_fld "Tree" T.cls_Tree T.na_Tree_parents (de_var 0)) (de_var 3))))))
    (dss_one (ds_ret (de_tup (da_cons (de_var 3) (da_cons (de_var 4) da_nil))))))))) hm
theorem mech_Tree_towards {P : Program} {w : World} {K : PySem.W.Frag} {mg : Str → Option Value} {base : Heap} {cA : Str → Addr} {f : Addr} {fd : FuncData} (Fu : Fun K "towards" "Tree.towards" s_Tree_towards f fd) (T : Tx K mg cA) (h_Tree_check_points : MtH P w K mg base cA "Tree" "_check_points" 2 4 F_Tree_check_points) (h_Tree_climb : MtH P w K mg base cA "Tree" "_climb" 3 1 F_Tree_climb) (h_Tree_depth : MtH P w K mg base cA "Tree" "_depth" 2 1 F_Tree_depth) (h_Tree_top : MtH P w K mg base cA "Tree" "_top" 3 1 F_Tree_top) (h_Tree_way_length : MtH P w K mg base cA "Tree" "_way_length" 3 2 F_Tree_way_length) (h_is_int : FnH P w K mg base cA "is_int" 1 1 F_is_int)
    (hm : ∀ ds st0, ds.length = 4 → wfS st0 → wfD.wfDs st0.length ds → Fin st0.length (retR (m_Tree_towards (startE 5 ds) st0)) (F_Tree_towards ds st0)) :
    FnOk P w K mg base (L2.CX P w) 5 f fd ["self", "one", "other", "far"] (spM ⟨K, cA⟩ 4 F_Tree_towards) :=
  def_ok Fu sc_Tree_towards rfl (fun cdv A outer s H E hr tk hp =>
    (dss_cons
    (ds_expr (de_methO _ T.cls_Tree h_Tree_check_points tk hr (by decide) (de_var 0) (da_cons (de_lst (da_cons (de_var 1) (da_cons (de_var 2) da_nil))) da_nil) (fun e s ds s1 h => congrArg Nat.succ ((len_cons (fun _ _ _ _ h => len_nil h)) e s ds s1 h))))
    (dss_cons
    (ds_set 4 sc_Tree_towards.nd (de_methO _ T.cls_Tree h_Tree_way_length tk hr (by decide) (de_var 0) (da_cons (de_var 1) (da_cons (de_var 2) da_nil)) (fun e s ds s1 h => congrArg Nat.succ ((len_cons (len_cons (fun _ _ _ _ h => len_nil h))) e s ds s1 h))))
    (dss_cons
    (ds_if (DW.dt (dw_or (dt_not (dt_val (de_call h_is_int tk hr (by decide) (da_cons (de_var 3) da_nil) (len_cons (fun _ _ _ _ h => len_nil h))))) (dw_or (dt_cmp op_lt s2_cmp (de_var 3) de_int (nomark _)) (dw_or1 (dt_cmp op_gt s2_cmp (de_var 3) (de_var 4) (nomark _)))))) (dss_one (ds_raise T.ex_InvalidPoint tk rfl)) dss_nil)
    (dss_cons
    (ds_if (dt_cmp op_le s2_cmp (de_var 3) (de_op op_sub s2_sub (de_methO _ T.cls_Tree h_Tree_depth tk hr (by decide) (de_var 0) (da_cons (de_var 1) da_nil) (fun e s ds s1 h => congrArg Nat.succ ((len_cons (fun _ _ _ _ h => len_nil h)) e s ds s1 h))) (de_methO _ T.cls_Tree h_Tree_depth tk hr (by decide) (de_var 0) (da_cons (de_methO _ T.cls_Tree h_Tree_top tk hr (by decide) (de_var 0) (da_cons (de_var 1) (da_cons (de_var 2) da_nil)) (fun e s ds s1 h => congrArg Nat.succ ((len_cons (len_cons (fun _ _ _ _ h => len_nil h))) e s ds s1 h))) da_nil) (fun e s ds s1 h => congrArg Nat.succ ((len_cons (fun _ _ _ _ h => len_nil h)) e s ds s1 h)))) (nomark _)) (dss_one (ds_ret (de_methO _ T.cls_Tree h_Tree_climb tk hr (by decide) (de_var 0) (da_cons (de_var 1) (da_cons (de_var 3) da_nil)) (fun e s ds s1 h => congrArg Nat.succ ((len_cons (len_cons (fun _ _ _ _ h => len_nil h))) e s ds s1 h))))) dss_nil)
    (dss_one (ds_ret (de_methO _ T.cls_Tree h_Tree_climb tk hr (by decide) (de_var 0) (da_cons (de_var 2) (da_cons (de_op op_sub s2_sub (de_var 4) (de_var 3)) da_nil)) (fun e s ds s1 h => congrArg Nat.succ ((len_cons (len_cons (fun _ _ _ _ h => len_nil h))) e s ds s1 h)))))))))) hm
theorem mech_three_in_a_row {P : Program} {w : World} {K : PySem.W.Frag} {mg : Str → Option Value} {base : Heap} {cA : Str → Addr} {f : Addr} {fd : FuncData} (Fu : Fun K "_three_in_a_row" "_three_in_a_row" s_three_in_a_row f fd) (T : Tx K mg cA) (h_Tree_distance : MtH P w K mg base cA "Tree" "distance" 3 5 F_Tree_distance) (h_Tree_towards : MtH P w K mg base cA "Tree" "towards" 4 5 F_Tree_towards) (s_Tree_len : SpH P w K mg base cA "Tree" "__len__" 1 1 F_Tree_len)
    (hm : ∀ ds st0, ds.length = 1 → wfS st0 → wfD.wfDs st0.length ds → Fin st0.length (retR (m_three_in_a_row (startE 4 ds) st0)) (F_three_in_a_row ds st0)) :
    FnOk P w K mg base (L2.CX P w) 6 f fd ["tree"] (spM ⟨K, cA⟩ 1 F_three_in_a_row) :=
  def_ok Fu sc_three_in_a_row rfl (fun cdv A outer s H E hr tk hp =>
    (dss_cons
    (ds_for hp rfl (di_range1 T.z_range (de_lenO s_Tree_len hr (by decide) T.z_len (da_cons (de_var 0) da_nil))) (dg_name 1 sc_three_in_a_row.nd) (dss_one (ds_for hp rfl (di_range1 T.z_range (de_var 1)) (dg_name 2 sc_three_in_a_row.nd) (dss_one (ds_if (dt_cmp op_ge s2_cmp (de_methO _ T.cls_Tree h_Tree_distance tk hr (by decide) (de_var 0) (da_cons (de_tup (da_cons (de_var 1) (da_cons de_int da_nil))) (da_cons (de_tup (da_cons (de_var 2) (da_cons de_int da_nil))) da_nil)) (fun e s ds s1 h => congrArg Nat.succ ((len_cons (len_cons (fun _ _ _ _ h => len_nil h))) e s ds s1 h))) de_int (nomark _)) (dss_one (ds_ret (de_lc [("far", 3)] rfl sc_three_in_a_row.nd (di_seq (de_tup (da_cons de_int (da_cons de_int (da_cons de_int da_nil))))) (blkOk_by (N := ["tree", "node", "other", "far"]) (sc := defScope s_three_in_a_row) (own := [("far", 3)]) (by decide +kernel)) (fun _ _ _ _ _ => (dg_name 3 sc_three_in_a_row.nd)) (fun _ _ _ _ _ => dts_nil) (fun _ _ _ _ _ => (de_methO _ T.cls_Tree h_Tree_towards takes0 hr (by decide) (de_var 0) (da_cons (de_tup (da_cons (de_var 1) (da_cons de_int da_nil))) (da_cons (de_tup (da_cons (de_var 2) (da_cons de_int da_nil))) (da_cons (de_var 3) da_nil))) (fun e s ds s1 h => congrArg Nat.succ ((len_cons (len_cons (len_cons (fun _ _ _ _ h => len_nil h)))) e s ds s1 h))))))) dss_nil)))))
    (dss_one (ds_raise T.ex_TooSmall tk rfl)))) hm
theorem mech_beyond {P : Program} {w : World} {K : PySem.W.Frag} {mg : Str → Option Value} {base : Heap} {cA : Str → Addr} {f : Addr} {fd : FuncData} (Fu : Fun K "beyond" "beyond" s_beyond f fd) (T : Tx K mg cA) (h_three_in_a_row : FnH P w K mg base cA "_three_in_a_row" 1 6 F_three_in_a_row)
    (hm : ∀ ds st0, ds.length = 4 → wfS st0 → wfD.wfDs st0.length ds → Fin st0.length (retR (m_beyond (startE 12 ds) st0)) (F_beyond ds st0)) :
    FnOk P w K mg base (L2.CX P w) 7 f fd ["tree", "k", "factor", "slack"] (spM ⟨K, cA⟩ 4 F_beyond) :=
  def_ok Fu sc_beyond rfl (fun cdv A outer s H E hr tk hp =>
    (dss_cons
    (ds_asg (de_call h_three_in_a_row tk hr (by decide) (da_cons (de_var 0) da_nil) (len_cons (fun _ _ _ _ h => len_nil h))) (dg_lst rfl (dgs_cons (dg_name 4 sc_beyond.nd) (dgs_cons (dg_name 5 sc_beyond.nd) (dgs_cons (dg_name 6 sc_beyond.nd) dgs_nil)))))
    (dss_cons
    (ds_setLc 7 [("number", 10)] rfl sc_beyond.nd (di_range1 T.z_range (de_op op_addA s2_add (de_op op_addA s2_add (de_var 2) (de_var 3)) de_int)) (blkOk_by (N := ["tree", "k", "factor", "slack", "near", "middle", "far", "turns", "crew", "calls", "number", "turn"]) (sc := defScope s_beyond) (own := [("number", 10)]) (by decide +kernel)) (fun _ _ _ _ _ => (dg_name 10 sc_beyond.nd)) (fun _ _ _ _ _ => dts_nil) (fun _ _ _ _ _ => (de_op op_mod s2_mod (de_var 10) de_int)))
    (dss_cons
    (ds_set 8 sc_beyond.nd (de_op op_addA s2_add (de_lst (da_cons (de_var 4) da_nil)) (de_op op_mulA s2_mul (de_lst (da_cons (de_var 6) da_nil)) (de_op op_sub s2_sub (de_var 1) de_int))))
    (dss_cons
    (ds_setLc 9 [("turn", 11)] rfl sc_beyond.nd (di_seq (de_var 7)) (blkOk_by (N := ["tree", "k", "factor", "slack", "near", "middle", "far", "turns", "crew", "calls", "number", "turn"]) (sc := defScope s_beyond) (own := [("turn", 11)]) (by decide +kernel)) (fun _ _ _ _ _ => (dg_name 11 sc_beyond.nd)) (fun _ _ _ _ _ => dts_nil) (fun _ _ _ _ _ => (de_if (dt_cmp (op_eqD hr.units) s2_eq (de_var 11) de_int (nomark _)) (de_var 4) (de_var 5))))
    (dss_one (ds_ret (de_tup (da_cons (de_var 8) (da_cons (de_var 9) (da_cons (de_lc [("turn", 11)] rfl sc_beyond.nd (di_seq (de_var 7)) (blkOk_by (N := ["tree", "k", "factor", "slack", "near", "middle", "far", "turns", "crew", "calls", "number", "turn"]) (sc := defScope s_beyond) (own := [("turn", 11)]) (by decide +kernel)) (fun _ _ _ _ _ => (dg_name 11 sc_beyond.nd)) (fun _ _ _ _ _ => dts_nil) (fun _ _ _ _ _ => (de_op op_sub s2_sub de_int (de_var 11)))) da_nil))))))))))) hm
theorem mech_law_refused {P : Program} {w : World} {K : PySem.W.Frag} {mg : Str → Option Value} {base : Heap} {cA : Str → Addr} {f : Addr} {fd : FuncData} (Fu : Fun K "_law_refused" "_law_refused" s_law_refused f fd) (T : Tx K mg cA) (h_beyond : FnH P w K mg base cA "beyond" 4 7 F_beyond)
    (hm : ∀ ds st0, ds.length = 4 → wfS st0 → wfD.wfDs st0.length ds → Fin st0.length (retR (m_law_refused (startE 6 ds) st0)) (F_law_refused ds st0)) :
    FnOk P w K mg base (L2.CX P w) 8 f fd ["tree", "size", "factor", "slack"] (spM ⟨K, cA⟩ 4 F_law_refused) :=
  def_ok Fu sc_law_refused rfl (fun cdv A outer s H E hr tk hp =>
    (dss_cons
    (ds_set 4 sc_law_refused.nd de_non)
    (dss_cons
    (ds_tryN (i := 5) rfl rfl rfl sc_law_refused.nd rfl rfl ⟨rfl, by decide, .inl T.gx_WatchError⟩ tk (mtL_ok (mtL_cons T.xs_TooSmall_WatchError (mtL_cons T.xs_InvalidTree_WatchError (mtL_cons T.xs_InvalidPoint_WatchError mtL_nil)))) (fun _ _ _ tk => (dss_one (ds_expr (de_call h_beyond tk hr (by decide) (da_cons (de_var 0) (da_cons (de_var 1) (da_cons (de_var 2) (da_cons (de_var 3) da_nil)))) (len_cons (len_cons (len_cons (len_cons (fun _ _ _ _ h => len_nil h))))))))) (fun _ _ => (dss_one (ds_set 4 sc_law_refused.nd (de_var 5)))))
    (dss_cons
    (ds_if (DW.dt (dw_or (dt_not (dt_val (de_isX T.z_isinstance T.gx_TooSmall (isx_y T.xc_TooSmall T.kx_TooSmall_TooSmall isx_nil) (de_var 4)))) (dw_or1 (dt_not (dt_val (de_isXB (T := "ValueError") T.z_isinstance T.z_ValueError (isx_y T.xc_TooSmall T.kx_TooSmall_ValueError isx_nil) (de_var 4))))))) (dss_one (ds_ret de_bl)) dss_nil)
    (dss_cons
    (ds_if (DW.dt (dw_or (dt_val (de_isX T.z_isinstance T.gx_InvalidCrew (isx_n T.xc_TooSmall T.kx_TooSmall_InvalidCrew isx_nil) (de_var 4))) (dw_or1 (dt_val (de_isX T.z_isinstance T.gx_InvalidPlaces (isx_n T.xc_TooSmall T.kx_TooSmall_InvalidPlaces isx_nil) (de_var 4)))))) (dss_one (ds_ret de_bl)) dss_nil)
    (dss_one (ds_ret (de_and (de_not (de_isX T.z_isinstance T.gx_InvalidTree (isx_n T.xc_TooSmall T.kx_TooSmall_InvalidTree isx_nil) (de_var 4))) (de_one (de_not (de_isX T.z_isinstance T.gx_TooMany (isx_n T.xc_TooSmall T.kx_TooSmall_TooMany isx_nil) (de_var 4)))))))))))) hm
theorem mech_law_let {P : Program} {w : World} {K : PySem.W.Frag} {mg : Str → Option Value} {base : Heap} {cA : Str → Addr} {f : Addr} {fd : FuncData} (Fu : Fun K "_law_let" "_law_let" s_law_let f fd) (T : Tx K mg cA) (h_beyond : FnH P w K mg base cA "beyond" 4 7 F_beyond)
    (hm : ∀ ds st0, ds.length = 4 → wfS st0 → wfD.wfDs st0.length ds → Fin st0.length (retR (m_law_let (startE 6 ds) st0)) (F_law_let ds st0)) :
    FnOk P w K mg base (L2.CX P w) 8 f fd ["tree", "size", "factor", "slack"] (spM ⟨K, cA⟩ 4 F_law_let) :=
  def_ok Fu sc_law_let rfl (fun cdv A outer s H E hr tk hp =>
    (dss_cons
    (ds_set 4 sc_law_let.nd (de_call h_beyond tk hr (by decide) (da_cons (de_var 0) (da_cons (de_var 1) (da_cons (de_var 2) (da_cons (de_var 3) da_nil)))) (len_cons (len_cons (len_cons (len_cons (fun _ _ _ _ h => len_nil h)))))))
    (dss_cons
    (ds_if (DW.dt (dw_or (dt_not (dt_val (de_isiO (cs := ["Tree"]) T.z_isinstance T.z_tuple (isO_cons T.isc_Tree T.mt_Tree_tuple isO_nil) (de_var 4)))) (dw_or1 (dt_cmp (op_neD hr.units) s2_ne (de_fn call_lenA sl_len T.z_len (da_cons (de_var 4) da_nil)) de_int (nomark _))))) (dss_one (ds_ret de_bl)) dss_nil)
    (dss_cons
    (ds_for hp rfl (di_seq (de_var 4)) (dg_name 5 sc_law_let.nd) (dss_one (ds_if (DW.dt (dw_or (dt_not (dt_val (de_isiO (cs := ["Tree"]) T.z_isinstance T.z_list (isO_cons T.isc_Tree T.mt_Tree_list isO_nil) (de_var 5)))) (dw_or1 (dt_cmp (op_eqD hr.units) s2_eq (de_fn call_lenA sl_len T.z_len (da_cons (de_var 5) da_nil)) de_int (nomark _))))) (dss_one (ds_ret de_bl)) dss_nil)))
    (dss_one (ds_ret de_bl)))))) hm
theorem mech_law {P : Program} {w : World} {K : PySem.W.Frag} {mg : Str → Option Value} {base : Heap} {cA : Str → Addr} {f : Addr} {fd : FuncData} (Fu : Fun K "law" "law" s_law f fd) (T : Tx K mg cA) (h_law_let : FnH P w K mg base cA "_law_let" 4 8 F_law_let) (h_law_pick : FnH P w K mg base cA "_law_pick" 2 1 F_law_pick) (h_law_refused : FnH P w K mg base cA "_law_refused" 4 8 F_law_refused) (h_law_roads : FnH P w K mg base cA "_law_roads" 2 2 F_law_roads) (h_law_source : FnH P w K mg base cA "_law_source" 1 2 F_law_source) (k_Tree_init : MkH P w K mg base cA "Tree" 2 5 F_Tree_init)
    (hm : ∀ ds st0, ds.length = 1 → wfS st0 → wfD.wfDs st0.length ds → Fin st0.length (retR (m_law (startE 12 ds) st0)) (F_law ds st0)) :
    FnOk P w K mg base (L2.CX P w) 9 f fd ["script"] (spM ⟨K, cA⟩ 1 F_law) :=
  def_ok Fu sc_law rfl (fun cdv A outer s H E hr tk hp =>
    (dss_cons
    (ds_set 1 sc_law.nd (de_call h_law_source tk hr (by decide) (da_cons (de_var 0) da_nil) (len_cons (fun _ _ _ _ h => len_nil h))))
    (dss_cons
    (ds_set 2 sc_law.nd (de_op op_addA s2_add de_int (de_call h_law_pick tk hr (by decide) (da_cons (de_var 1) (da_cons de_int da_nil)) (len_cons (len_cons (fun _ _ _ _ h => len_nil h))))))
    (dss_cons
    (ds_set 3 sc_law.nd (de_call h_law_pick tk hr (by decide) (da_cons (de_var 1) (da_cons de_int da_nil)) (len_cons (len_cons (fun _ _ _ _ h => len_nil h)))))
    (dss_cons
    (ds_set 4 sc_law.nd (de_call h_law_pick tk hr (by decide) (da_cons (de_var 1) (da_cons de_int da_nil)) (len_cons (len_cons (fun _ _ _ _ h => len_nil h)))))
    (dss_cons
    (ds_set 5 sc_law.nd (de_call h_law_pick tk hr (by decide) (da_cons (de_var 1) (da_cons de_int da_nil)) (len_cons (len_cons (fun _ _ _ _ h => len_nil h)))))
    (dss_cons
    (ds_set 6 sc_law.nd (de_lst (da_cons (de_lst da_nil) (da_cons (de_lst (da_cons (de_tup (da_cons de_int (da_cons de_int da_nil))) da_nil)) (da_cons (de_lst (da_cons (de_tup (da_cons de_int (da_cons (de_op op_addA s2_add de_int (de_call h_law_pick tk hr (by decide) (da_cons (de_var 1) (da_cons de_int da_nil)) (len_cons (len_cons (fun _ _ _ _ h => len_nil h))))) da_nil))) da_nil)) (da_cons (de_lst (da_cons (de_tup (da_cons de_int (da_cons de_int da_nil))) (da_cons (de_tup (da_cons de_int (da_cons de_int da_nil))) da_nil))) (da_cons (de_lst (da_cons (de_tup (da_cons de_int (da_cons de_int da_nil))) (da_cons (de_tup (da_cons de_int (da_cons de_int da_nil))) da_nil))) (da_cons (de_call h_law_roads tk hr (by decide) (da_cons (de_var 1) (da_cons de_int da_nil)) (len_cons (len_cons (fun _ _ _ _ h => len_nil h)))) da_nil))))))))
    (dss_cons
    (ds_set 6 sc_law.nd (de_op op_addA s2_add (de_slice (de_var 6) (do_some (de_var 5)) do_none) (de_slice (de_var 6) do_none (do_some (de_var 5)))))
    (dss_cons
    (ds_setLc 7 [("roads", 10)] rfl sc_law.nd (di_seq (de_var 6)) (blkOk_by (N := ["script", "source", "size", "factor", "slack", "first", "rows", "trees", "again", "k", "roads", "road"]) (sc := defScope s_law) (own := [("roads", 10)]) (by decide +kernel)) (fun _ _ _ _ _ => (dg_name 10 sc_law.nd)) (fun _ _ _ _ _ => dts_nil) (fun _ _ _ _ _ => (de_make k_Tree_init takes0 hr (by decide) (da_cons (de_ty call_list_of sl_list T.z_list (da_cons (de_var 10) da_nil)) da_nil) (fun e s ds s1 h => congrArg Nat.succ ((len_cons (fun _ _ _ _ h => len_nil h)) e s ds s1 h)))))
    (dss_cons
    (ds_for hp rfl (di_range1 T.z_range de_int) (dg_name 8 sc_law.nd) (dss_one (ds_for hp rfl (di_range1 T.z_range de_int) (dg_name 9 sc_law.nd) (dss_one (ds_if (dt_cmp op_lt s2_cmp (de_fn (cr_sum rfl) sl_sum T.z_sum (da_cons (de_lc [("road", 11)] rfl sc_law.nd (di_seq (de_idx (de_var 6) (de_var 9))) (blkOk_by (N := ["script", "source", "size", "factor", "slack", "first", "rows", "trees", "again", "k", "roads", "road"]) (sc := defScope s_law) (own := [("road", 11)]) (by decide +kernel)) (fun _ _ _ _ _ => (dg_name 11 sc_law.nd)) (fun _ _ _ _ _ => dts_nil) (fun _ _ _ _ _ => (de_idx (de_var 11) de_int))) da_nil)) de_int (nomark _)) (dss_one (ds_if (dt_not (dt_val (de_call h_law_refused tk hr (by decide) (da_cons (de_idx (de_var 7) (de_var 9)) (da_cons (de_var 2) (da_cons (de_var 3) (da_cons (de_var 4) da_nil)))) (len_cons (len_cons (len_cons (len_cons (fun _ _ _ _ h => len_nil h)))))))) (dss_one (ds_ret de_bl)) dss_nil)) (dss_one (ds_if (dt_not (dt_val (de_call h_law_let tk hr (by decide) (da_cons (de_idx (de_var 7) (de_var 9)) (da_cons (de_var 2) (da_cons (de_var 3) (da_cons (de_var 4) da_nil)))) (len_cons (len_cons (len_cons (len_cons (fun _ _ _ _ h => len_nil h)))))))) (dss_one (ds_ret de_bl)) dss_nil)))))))
    (dss_one (ds_ret de_bl)))))))))))) hm
end Lw
set_option maxRecDepth 100000
set_option maxHeartbeats 4000000
namespace Lw
open PySem PySem.Spec PyProof.Rows L2 Dn

def cAof (l : List (Str × Addr)) (x : Str) : Addr := (l.lookup x).getD 0
set_option maxHeartbeats 4000000 in
theorem all_mk {l : PySem.W.OpenLaw} {w : World} {K : PySem.W.Frag} {h : Heap} {mg : Str → Option Value} {fa : Addr} (X : K.In h) (G : h.Ns mainGlobals mg) (hfa : mg "law" = some (.ref fa))
    {C0 : Addr}
    {C1 : Addr}
    {C2 : Addr}
    {C3 : Addr}
    {C4 : Addr}
    {C5 : Addr}
    {C6 : Addr}
    {C7 : Addr}
    {f0 : Addr} {od0 an0 : Option Addr} {sl0 : Array (Option Value)} {oc0 kV0 dc0 pm0 cd0 ct0 : Value}
    {f1 : Addr} {od1 an1 : Option Addr} {sl1 : Array (Option Value)} {oc1 kV1 dc1 pm1 cd1 ct1 : Value}
    {f2 : Addr} {od2 an2 : Option Addr} {sl2 : Array (Option Value)} {oc2 kV2 dc2 pm2 cd2 ct2 : Value}
    {f3 : Addr} {od3 an3 : Option Addr} {sl3 : Array (Option Value)} {oc3 kV3 dc3 pm3 cd3 ct3 : Value}
    {f4 : Addr} {od4 an4 : Option Addr} {sl4 : Array (Option Value)} {oc4 kV4 dc4 pm4 cd4 ct4 : Value}
    {f5 : Addr} {od5 an5 : Option Addr} {sl5 : Array (Option Value)} {oc5 kV5 dc5 pm5 cd5 ct5 : Value}
    {f6 : Addr} {od6 an6 : Option Addr} {sl6 : Array (Option Value)} {oc6 kV6 dc6 pm6 cd6 ct6 : Value}
    {f7 : Addr} {od7 an7 : Option Addr} {sl7 : Array (Option Value)} {oc7 kV7 dc7 pm7 cd7 ct7 : Value}
    {f8 : Addr} {od8 an8 : Option Addr} {sl8 : Array (Option Value)} {oc8 kV8 dc8 pm8 cd8 ct8 : Value}
    {f9 : Addr} {od9 an9 : Option Addr} {sl9 : Array (Option Value)} {oc9 kV9 dc9 pm9 cd9 ct9 : Value}
    {f10 : Addr} {od10 an10 : Option Addr} {sl10 : Array (Option Value)} {oc10 kV10 dc10 pm10 cd10 ct10 : Value}
    {f11 : Addr} {od11 an11 : Option Addr} {sl11 : Array (Option Value)} {oc11 kV11 dc11 pm11 cd11 ct11 : Value}
    {f12 : Addr} {od12 an12 : Option Addr} {sl12 : Array (Option Value)} {oc12 kV12 dc12 pm12 cd12 ct12 : Value}
    {f13 : Addr} {od13 an13 : Option Addr} {sl13 : Array (Option Value)} {oc13 kV13 dc13 pm13 cd13 ct13 : Value}
    {f14 : Addr} {od14 an14 : Option Addr} {sl14 : Array (Option Value)} {oc14 kV14 dc14 pm14 cd14 ct14 : Value}
    {f15 : Addr} {od15 an15 : Option Addr} {sl15 : Array (Option Value)} {oc15 kV15 dc15 pm15 cd15 ct15 : Value}
    {f16 : Addr} {od16 an16 : Option Addr} {sl16 : Array (Option Value)} {oc16 kV16 dc16 pm16 cd16 ct16 : Value}
    {f17 : Addr} {od17 an17 : Option Addr} {sl17 : Array (Option Value)} {oc17 kV17 dc17 pm17 cd17 ct17 : Value}
    {f18 : Addr} {od18 an18 : Option Addr} {sl18 : Array (Option Value)} {oc18 kV18 dc18 pm18 cd18 ct18 : Value}
    {f19 : Addr} {od19 an19 : Option Addr} {sl19 : Array (Option Value)} {oc19 kV19 dc19 pm19 cd19 ct19 : Value}
    {f20 : Addr} {od20 an20 : Option Addr} {sl20 : Array (Option Value)} {oc20 kV20 dc20 pm20 cd20 ct20 : Value}
    {f21 : Addr} {od21 an21 : Option Addr} {sl21 : Array (Option Value)} {oc21 kV21 dc21 pm21 cd21 ct21 : Value}
    {f22 : Addr} {od22 an22 : Option Addr} {sl22 : Array (Option Value)} {oc22 kV22 dc22 pm22 cd22 ct22 : Value}
    {f23 : Addr} {od23 an23 : Option Addr} {sl23 : Array (Option Value)} {oc23 kV23 dc23 pm23 cd23 ct23 : Value}
    (aC0 : PySem.W.nsIn K mainGlobals "Tree" = some (some (.ref C0)))
    (aC1 : PySem.W.nsIn K mainGlobals "InvalidPoint" = some (some (.ref C1)))
    (aC2 : PySem.W.nsIn K mainGlobals "InvalidTree" = some (some (.ref C2)))
    (aC3 : PySem.W.nsIn K mainGlobals "TooSmall" = some (some (.ref C3)))
    (aC4 : PySem.W.nsIn K mainGlobals "InvalidCrew" = some (some (.ref C4)))
    (aC5 : PySem.W.nsIn K mainGlobals "InvalidPlaces" = some (some (.ref C5)))
    (aC6 : PySem.W.nsIn K mainGlobals "TooMany" = some (some (.ref C6)))
    (aC7 : PySem.W.nsIn K mainGlobals "WatchError" = some (some (.ref C7)))
    (kC0 : PySem.W.keepIn K (.ref C0) = true)
    (pg0 : PySem.W.plainGet K C0 Str.empty = true)
    (hd0 : PySem.W.hasDictIn K C0 = true)
    (po0 : PySem.W.plainOver K C0 = true)
    (sa0 : PySem.W.findIn K (.ref C0) "__setattr__" = some (some (.builtin "object.__setattr__")))
    (ih0 : PySem.W.findIn K (.ref C0) "__class__" = some (some (.builtin "object.__class__")))
    (im0 : PySem.W.mroIn K C0 (.type "object") = some true)
    (ic0 : PySem.W.isClsIn K C0 = true)
    (it0 : PySem.W.typeIn K (.ref C0) = some (.type "type"))
    (is0 : PySem.W.mroIn K C0 (.ref C0) = some true)
    (mk0 : PySem.W.makesIn K C0 = true)
    (kC1 : PySem.W.keepIn K (.ref C1) = true)
    (xC1 : PySem.W.excIn K C1 [.type "ValueError", .type "Exception", .type "BaseException", .type "object"] "ValueError.__new__" = true)
    (sC1 : PySem.W.subIn K (.ref C1) (.type "BaseException") = some true)
    (tC1 : PySem.W.typeIn K (.ref C1) = some (.type "type"))
    (kC2 : PySem.W.keepIn K (.ref C2) = true)
    (xC2 : PySem.W.excIn K C2 [.type "ValueError", .type "Exception", .type "BaseException", .type "object"] "ValueError.__new__" = true)
    (sC2 : PySem.W.subIn K (.ref C2) (.type "BaseException") = some true)
    (tC2 : PySem.W.typeIn K (.ref C2) = some (.type "type"))
    (ic2 : PySem.W.isClsIn K C2 = true)
    (kC3 : PySem.W.keepIn K (.ref C3) = true)
    (xC3 : PySem.W.excIn K C3 [.type "ValueError", .type "Exception", .type "BaseException", .type "object"] "ValueError.__new__" = true)
    (sC3 : PySem.W.subIn K (.ref C3) (.type "BaseException") = some true)
    (tC3 : PySem.W.typeIn K (.ref C3) = some (.type "type"))
    (ic3 : PySem.W.isClsIn K C3 = true)
    (xg3 : PySem.W.findIn K (.ref C3) "__getattribute__" = some (some (.builtin "BaseException.__getattribute__")))
    (xk3 : PySem.W.findIn K (.ref C3) "__getattr__" = some none)
    (xd3 : PySem.W.hasDictIn K C3 = true)
    (xa3 : PySem.W.findIn K (.ref C3) "__class__" = some (some (.builtin "object.__class__")))
    (xo3 : PySem.W.mroIn K C3 (.type "object") = some true)
    (kC4 : PySem.W.keepIn K (.ref C4) = true)
    (tC4 : PySem.W.typeIn K (.ref C4) = some (.type "type"))
    (ic4 : PySem.W.isClsIn K C4 = true)
    (kC5 : PySem.W.keepIn K (.ref C5) = true)
    (tC5 : PySem.W.typeIn K (.ref C5) = some (.type "type"))
    (ic5 : PySem.W.isClsIn K C5 = true)
    (kC6 : PySem.W.keepIn K (.ref C6) = true)
    (tC6 : PySem.W.typeIn K (.ref C6) = some (.type "type"))
    (ic6 : PySem.W.isClsIn K C6 = true)
    (kC7 : PySem.W.keepIn K (.ref C7) = true)
    (sC7 : PySem.W.subIn K (.ref C7) (.type "BaseException") = some true)
    (tC7 : PySem.W.typeIn K (.ref C7) = some (.type "type"))
    (ic7 : PySem.W.isClsIn K C7 = true)
    (sb_InvalidCrew_InvalidCrew : PySem.W.subIn K (.ref C4) (.ref C4) = some true)
    (sb_InvalidPlaces_InvalidPlaces : PySem.W.subIn K (.ref C5) (.ref C5) = some true)
    (sb_InvalidPoint_WatchError : PySem.W.subIn K (.ref C1) (.ref C7) = some true)
    (sb_InvalidTree_InvalidTree : PySem.W.subIn K (.ref C2) (.ref C2) = some true)
    (sb_InvalidTree_WatchError : PySem.W.subIn K (.ref C2) (.ref C7) = some true)
    (sb_TooMany_TooMany : PySem.W.subIn K (.ref C6) (.ref C6) = some true)
    (sb_TooSmall_InvalidCrew : PySem.W.subIn K (.ref C3) (.ref C4) = some false)
    (sb_TooSmall_InvalidPlaces : PySem.W.subIn K (.ref C3) (.ref C5) = some false)
    (sb_TooSmall_InvalidTree : PySem.W.subIn K (.ref C3) (.ref C2) = some false)
    (sb_TooSmall_TooMany : PySem.W.subIn K (.ref C3) (.ref C6) = some false)
    (sb_TooSmall_TooSmall : PySem.W.subIn K (.ref C3) (.ref C3) = some true)
    (sb_TooSmall_WatchError : PySem.W.subIn K (.ref C3) (.ref C7) = some true)
    (sb_TooSmall_ValueError : PySem.W.subIn K (.ref C3) (.type "ValueError") = some true)
    (ign : PySem.W.specialIn K (.builtin "object.__class__") "__get__" = some (some (.builtin "getset_descriptor.__get__")))
    (igt : PySem.W.takesIn K (.builtin "object.__class__") = some true)
    (mt_Tree_bool : PySem.W.mroIn K C0 (.type "bool") = some false)
    (mt_Tree_int : PySem.W.mroIn K C0 (.type "int") = some false)
    (mt_Tree_list : PySem.W.mroIn K C0 (.type "list") = some false)
    (mt_Tree_tuple : PySem.W.mroIn K C0 (.type "tuple") = some false)
    (na_Tree_depths : PySem.W.findIn K (.ref C0) "_depths" = some none)
    (na_Tree_lengths : PySem.W.findIn K (.ref C0) "_lengths" = some none)
    (na_Tree_parents : PySem.W.findIn K (.ref C0) "_parents" = some none)
    (na_Tree_roads : PySem.W.findIn K (.ref C0) "_roads" = some none)
    (z_ValueError : PySem.W.nsIn K mainGlobals "ValueError" = some none)
    (z_all : PySem.W.nsIn K mainGlobals "all" = some none)
    (z_bool : PySem.W.nsIn K mainGlobals "bool" = some none)
    (z_enumerate : PySem.W.nsIn K mainGlobals "enumerate" = some none)
    (z_int : PySem.W.nsIn K mainGlobals "int" = some none)
    (z_isinstance : PySem.W.nsIn K mainGlobals "isinstance" = some none)
    (z_len : PySem.W.nsIn K mainGlobals "len" = some none)
    (z_list : PySem.W.nsIn K mainGlobals "list" = some none)
    (z_max : PySem.W.nsIn K mainGlobals "max" = some none)
    (z_range : PySem.W.nsIn K mainGlobals "range" = some none)
    (z_sum : PySem.W.nsIn K mainGlobals "sum" = some none)
    (z_tuple : PySem.W.nsIn K mainGlobals "tuple" = some none)
    (a0 : PySem.W.nsIn K mainGlobals "_law_mixed" = some (some (.ref f0)))
    (l0 : K.lookup f0 = some ⟨oc0, od0, .func (PySem.W.fnOf "_law_mixed" "_law_mixed" (defArgs s_law_mixed) (defBody s_law_mixed) (defScope s_law_mixed) .none kV0 dc0 pm0 an0 cd0 ct0), sl0⟩)
    (c0 : PySem.W.codeIn K cd0 "_law_mixed" = true)
    (k0 : PySem.W.keepIn K (.ref f0) = true)
    (a1 : PySem.W.nsIn K mainGlobals "_law_source" = some (some (.ref f1)))
    (l1 : K.lookup f1 = some ⟨oc1, od1, .func (PySem.W.fnOf "_law_source" "_law_source" (defArgs s_law_source) (defBody s_law_source) (defScope s_law_source) .none kV1 dc1 pm1 an1 cd1 ct1), sl1⟩)
    (c1 : PySem.W.codeIn K cd1 "_law_source" = true)
    (k1 : PySem.W.keepIn K (.ref f1) = true)
    (a2 : PySem.W.nsIn K mainGlobals "_law_pick" = some (some (.ref f2)))
    (l2 : K.lookup f2 = some ⟨oc2, od2, .func (PySem.W.fnOf "_law_pick" "_law_pick" (defArgs s_law_pick) (defBody s_law_pick) (defScope s_law_pick) .none kV2 dc2 pm2 an2 cd2 ct2), sl2⟩)
    (c2 : PySem.W.codeIn K cd2 "_law_pick" = true)
    (k2 : PySem.W.keepIn K (.ref f2) = true)
    (a3 : PySem.W.nsIn K mainGlobals "_law_roads" = some (some (.ref f3)))
    (l3 : K.lookup f3 = some ⟨oc3, od3, .func (PySem.W.fnOf "_law_roads" "_law_roads" (defArgs s_law_roads) (defBody s_law_roads) (defScope s_law_roads) .none kV3 dc3 pm3 an3 cd3 ct3), sl3⟩)
    (c3 : PySem.W.codeIn K cd3 "_law_roads" = true)
    (k3 : PySem.W.keepIn K (.ref f3) = true)
    (a4 : PySem.W.nsIn K mainGlobals "is_int" = some (some (.ref f4)))
    (l4 : K.lookup f4 = some ⟨oc4, od4, .func (PySem.W.fnOf "is_int" "is_int" (defArgs s_is_int) (defBody s_is_int) (defScope s_is_int) .none kV4 dc4 pm4 an4 cd4 ct4), sl4⟩)
    (c4 : PySem.W.codeIn K cd4 "is_int" = true)
    (k4 : PySem.W.keepIn K (.ref f4) = true)
    (a5 : PySem.W.nsIn K mainGlobals "is_int_pair" = some (some (.ref f5)))
    (l5 : K.lookup f5 = some ⟨oc5, od5, .func (PySem.W.fnOf "is_int_pair" "is_int_pair" (defArgs s_is_int_pair) (defBody s_is_int_pair) (defScope s_is_int_pair) .none kV5 dc5 pm5 an5 cd5 ct5), sl5⟩)
    (c5 : PySem.W.codeIn K cd5 "is_int_pair" = true)
    (k5 : PySem.W.keepIn K (.ref f5) = true)
    (a6 : PySem.W.nsIn K mainGlobals "_is_road" = some (some (.ref f6)))
    (l6 : K.lookup f6 = some ⟨oc6, od6, .func (PySem.W.fnOf "_is_road" "_is_road" (defArgs s_is_road) (defBody s_is_road) (defScope s_is_road) .none kV6 dc6 pm6 an6 cd6 ct6), sl6⟩)
    (c6 : PySem.W.codeIn K cd6 "_is_road" = true)
    (k6 : PySem.W.keepIn K (.ref f6) = true)
    (a7 : PySem.W.nsIn K mainGlobals "_are_roads" = some (some (.ref f7)))
    (l7 : K.lookup f7 = some ⟨oc7, od7, .func (PySem.W.fnOf "_are_roads" "_are_roads" (defArgs s_are_roads) (defBody s_are_roads) (defScope s_are_roads) .none kV7 dc7 pm7 an7 cd7 ct7), sl7⟩)
    (c7 : PySem.W.codeIn K cd7 "_are_roads" = true)
    (k7 : PySem.W.keepIn K (.ref f7) = true)
    (a8 : PySem.W.nsIn K mainGlobals "_node_depths" = some (some (.ref f8)))
    (l8 : K.lookup f8 = some ⟨oc8, od8, .func (PySem.W.fnOf "_node_depths" "_node_depths" (defArgs s_node_depths) (defBody s_node_depths) (defScope s_node_depths) .none kV8 dc8 pm8 an8 cd8 ct8), sl8⟩)
    (c8 : PySem.W.codeIn K cd8 "_node_depths" = true)
    (k8 : PySem.W.keepIn K (.ref f8) = true)
    (a9 : PySem.W.findIn K (.ref C0) "__init__" = some (some (.ref f9)))
    (i9 : PySem.W.isFn K (.ref f9) = true)
    (l9 : K.lookup f9 = some ⟨oc9, od9, .func (PySem.W.fnOf "__init__" "Tree.__init__" (defArgs s_Tree_init) (defBody s_Tree_init) (defScope s_Tree_init) .none kV9 dc9 pm9 an9 cd9 ct9), sl9⟩)
    (c9 : PySem.W.codeIn K cd9 "Tree.__init__" = true)
    (k9 : PySem.W.keepIn K (.ref f9) = true)
    (a10 : PySem.W.findIn K (.ref C0) "__len__" = some (some (.ref f10)))
    (i10 : PySem.W.isFn K (.ref f10) = true)
    (l10 : K.lookup f10 = some ⟨oc10, od10, .func (PySem.W.fnOf "__len__" "Tree.__len__" (defArgs s_Tree_len) (defBody s_Tree_len) (defScope s_Tree_len) .none kV10 dc10 pm10 an10 cd10 ct10), sl10⟩)
    (c10 : PySem.W.codeIn K cd10 "Tree.__len__" = true)
    (k10 : PySem.W.keepIn K (.ref f10) = true)
    (a11 : PySem.W.findIn K (.ref C0) "__contains__" = some (some (.ref f11)))
    (i11 : PySem.W.isFn K (.ref f11) = true)
    (l11 : K.lookup f11 = some ⟨oc11, od11, .func (PySem.W.fnOf "__contains__" "Tree.__contains__" (defArgs s_Tree_contains) (defBody s_Tree_contains) (defScope s_Tree_contains) .none kV11 dc11 pm11 an11 cd11 ct11), sl11⟩)
    (c11 : PySem.W.codeIn K cd11 "Tree.__contains__" = true)
    (k11 : PySem.W.keepIn K (.ref f11) = true)
    (a12 : PySem.W.findIn K (.ref C0) "_check_points" = some (some (.ref f12)))
    (i12 : PySem.W.isFn K (.ref f12) = true)
    (l12 : K.lookup f12 = some ⟨oc12, od12, .func (PySem.W.fnOf "_check_points" "Tree._check_points" (defArgs s_Tree_check_points) (defBody s_Tree_check_points) (defScope s_Tree_check_points) .none kV12 dc12 pm12 an12 cd12 ct12), sl12⟩)
    (c12 : PySem.W.codeIn K cd12 "Tree._check_points" = true)
    (k12 : PySem.W.keepIn K (.ref f12) = true)
    (a13 : PySem.W.findIn K (.ref C0) "_depth" = some (some (.ref f13)))
    (i13 : PySem.W.isFn K (.ref f13) = true)
    (l13 : K.lookup f13 = some ⟨oc13, od13, .func (PySem.W.fnOf "_depth" "Tree._depth" (defArgs s_Tree_depth) (defBody s_Tree_depth) (defScope s_Tree_depth) .none kV13 dc13 pm13 an13 cd13 ct13), sl13⟩)
    (c13 : PySem.W.codeIn K cd13 "Tree._depth" = true)
    (k13 : PySem.W.keepIn K (.ref f13) = true)
    (a14 : PySem.W.findIn K (.ref C0) "_top" = some (some (.ref f14)))
    (i14 : PySem.W.isFn K (.ref f14) = true)
    (l14 : K.lookup f14 = some ⟨oc14, od14, .func (PySem.W.fnOf "_top" "Tree._top" (defArgs s_Tree_top) (defBody s_Tree_top) (defScope s_Tree_top) .none kV14 dc14 pm14 an14 cd14 ct14), sl14⟩)
    (c14 : PySem.W.codeIn K cd14 "Tree._top" = true)
    (k14 : PySem.W.keepIn K (.ref f14) = true)
    (a15 : PySem.W.findIn K (.ref C0) "_way_length" = some (some (.ref f15)))
    (i15 : PySem.W.isFn K (.ref f15) = true)
    (l15 : K.lookup f15 = some ⟨oc15, od15, .func (PySem.W.fnOf "_way_length" "Tree._way_length" (defArgs s_Tree_way_length) (defBody s_Tree_way_length) (defScope s_Tree_way_length) .none kV15 dc15 pm15 an15 cd15 ct15), sl15⟩)
    (c15 : PySem.W.codeIn K cd15 "Tree._way_length" = true)
    (k15 : PySem.W.keepIn K (.ref f15) = true)
    (a16 : PySem.W.findIn K (.ref C0) "distance" = some (some (.ref f16)))
    (i16 : PySem.W.isFn K (.ref f16) = true)
    (l16 : K.lookup f16 = some ⟨oc16, od16, .func (PySem.W.fnOf "distance" "Tree.distance" (defArgs s_Tree_distance) (defBody s_Tree_distance) (defScope s_Tree_distance) .none kV16 dc16 pm16 an16 cd16 ct16), sl16⟩)
    (c16 : PySem.W.codeIn K cd16 "Tree.distance" = true)
    (k16 : PySem.W.keepIn K (.ref f16) = true)
    (a17 : PySem.W.findIn K (.ref C0) "_climb" = some (some (.ref f17)))
    (i17 : PySem.W.isFn K (.ref f17) = true)
    (l17 : K.lookup f17 = some ⟨oc17, od17, .func (PySem.W.fnOf "_climb" "Tree._climb" (defArgs s_Tree_climb) (defBody s_Tree_climb) (defScope s_Tree_climb) .none kV17 dc17 pm17 an17 cd17 ct17), sl17⟩)
    (c17 : PySem.W.codeIn K cd17 "Tree._climb" = true)
    (k17 : PySem.W.keepIn K (.ref f17) = true)
    (a18 : PySem.W.findIn K (.ref C0) "towards" = some (some (.ref f18)))
    (i18 : PySem.W.isFn K (.ref f18) = true)
    (l18 : K.lookup f18 = some ⟨oc18, od18, .func (PySem.W.fnOf "towards" "Tree.towards" (defArgs s_Tree_towards) (defBody s_Tree_towards) (defScope s_Tree_towards) .none kV18 dc18 pm18 an18 cd18 ct18), sl18⟩)
    (c18 : PySem.W.codeIn K cd18 "Tree.towards" = true)
    (k18 : PySem.W.keepIn K (.ref f18) = true)
    (a19 : PySem.W.nsIn K mainGlobals "_three_in_a_row" = some (some (.ref f19)))
    (l19 : K.lookup f19 = some ⟨oc19, od19, .func (PySem.W.fnOf "_three_in_a_row" "_three_in_a_row" (defArgs s_three_in_a_row) (defBody s_three_in_a_row) (defScope s_three_in_a_row) .none kV19 dc19 pm19 an19 cd19 ct19), sl19⟩)
    (c19 : PySem.W.codeIn K cd19 "_three_in_a_row" = true)
    (k19 : PySem.W.keepIn K (.ref f19) = true)
    (a20 : PySem.W.nsIn K mainGlobals "beyond" = some (some (.ref f20)))
    (l20 : K.lookup f20 = some ⟨oc20, od20, .func (PySem.W.fnOf "beyond" "beyond" (defArgs s_beyond) (defBody s_beyond) (defScope s_beyond) .none kV20 dc20 pm20 an20 cd20 ct20), sl20⟩)
    (c20 : PySem.W.codeIn K cd20 "beyond" = true)
    (k20 : PySem.W.keepIn K (.ref f20) = true)
    (a21 : PySem.W.nsIn K mainGlobals "_law_refused" = some (some (.ref f21)))
    (l21 : K.lookup f21 = some ⟨oc21, od21, .func (PySem.W.fnOf "_law_refused" "_law_refused" (defArgs s_law_refused) (defBody s_law_refused) (defScope s_law_refused) .none kV21 dc21 pm21 an21 cd21 ct21), sl21⟩)
    (c21 : PySem.W.codeIn K cd21 "_law_refused" = true)
    (k21 : PySem.W.keepIn K (.ref f21) = true)
    (a22 : PySem.W.nsIn K mainGlobals "_law_let" = some (some (.ref f22)))
    (l22 : K.lookup f22 = some ⟨oc22, od22, .func (PySem.W.fnOf "_law_let" "_law_let" (defArgs s_law_let) (defBody s_law_let) (defScope s_law_let) .none kV22 dc22 pm22 an22 cd22 ct22), sl22⟩)
    (c22 : PySem.W.codeIn K cd22 "_law_let" = true)
    (k22 : PySem.W.keepIn K (.ref f22) = true)
    (a23 : PySem.W.nsIn K mainGlobals "law" = some (some (.ref f23)))
    (l23 : K.lookup f23 = some ⟨oc23, od23, .func (PySem.W.fnOf "law" "law" (defArgs s_law) (defBody s_law) (defScope s_law) .none kV23 dc23 pm23 an23 cd23 ct23), sl23⟩)
    (c23 : PySem.W.codeIn K cd23 "law" = true)
    (k23 : PySem.W.keepIn K (.ref f23) = true) :
    ∃ fd : FuncData, (∀ (s : Shared) (v : Value), BindsTo s fd ⟨[v], []⟩ [("script", v)]) ∧ ∀ base : Heap, K.In base → base.Ns mainGlobals mg → FnOk l.prog w K mg base (L2.CX l.prog w) 9 fa fd ["script"] (spL 63 K) := by
  have e := hfa.symm.trans (PySem.W.mg_of X G a23)
  cases e
  have ec0 : cAof [("Tree", C0), ("InvalidPoint", C1), ("InvalidTree", C2), ("TooSmall", C3), ("InvalidCrew", C4), ("InvalidPlaces", C5), ("TooMany", C6), ("WatchError", C7)] "Tree" = C0 := by rfl
  have ec1 : cAof [("Tree", C0), ("InvalidPoint", C1), ("InvalidTree", C2), ("TooSmall", C3), ("InvalidCrew", C4), ("InvalidPlaces", C5), ("TooMany", C6), ("WatchError", C7)] "InvalidPoint" = C1 := by rfl
  have ec2 : cAof [("Tree", C0), ("InvalidPoint", C1), ("InvalidTree", C2), ("TooSmall", C3), ("InvalidCrew", C4), ("InvalidPlaces", C5), ("TooMany", C6), ("WatchError", C7)] "InvalidTree" = C2 := by rfl
  have ec3 : cAof [("Tree", C0), ("InvalidPoint", C1), ("InvalidTree", C2), ("TooSmall", C3), ("InvalidCrew", C4), ("InvalidPlaces", C5), ("TooMany", C6), ("WatchError", C7)] "TooSmall" = C3 := by rfl
  have ec4 : cAof [("Tree", C0), ("InvalidPoint", C1), ("InvalidTree", C2), ("TooSmall", C3), ("InvalidCrew", C4), ("InvalidPlaces", C5), ("TooMany", C6), ("WatchError", C7)] "InvalidCrew" = C4 := by rfl
  have ec5 : cAof [("Tree", C0), ("InvalidPoint", C1), ("InvalidTree", C2), ("TooSmall", C3), ("InvalidCrew", C4), ("InvalidPlaces", C5), ("TooMany", C6), ("WatchError", C7)] "InvalidPlaces" = C5 := by rfl
  have ec6 : cAof [("Tree", C0), ("InvalidPoint", C1), ("InvalidTree", C2), ("TooSmall", C3), ("InvalidCrew", C4), ("InvalidPlaces", C5), ("TooMany", C6), ("WatchError", C7)] "TooMany" = C6 := by rfl
  have ec7 : cAof [("Tree", C0), ("InvalidPoint", C1), ("InvalidTree", C2), ("TooSmall", C3), ("InvalidCrew", C4), ("InvalidPlaces", C5), ("TooMany", C6), ("WatchError", C7)] "WatchError" = C7 := by rfl
  revert ec0 ec1 ec2 ec3 ec4 ec5 ec6 ec7
  generalize cAof [("Tree", C0), ("InvalidPoint", C1), ("InvalidTree", C2), ("TooSmall", C3), ("InvalidCrew", C4), ("InvalidPlaces", C5), ("TooMany", C6), ("WatchError", C7)] = cA
  intro ec0 ec1 ec2 ec3 ec4 ec5 ec6 ec7
  have T : Tx K mg cA := {
    z_ValueError := PySem.W.mg_none_of X G z_ValueError
    z_all := PySem.W.mg_none_of X G z_all
    z_bool := PySem.W.mg_none_of X G z_bool
    z_enumerate := PySem.W.mg_none_of X G z_enumerate
    z_int := PySem.W.mg_none_of X G z_int
    z_isinstance := PySem.W.mg_none_of X G z_isinstance
    z_len := PySem.W.mg_none_of X G z_len
    z_list := PySem.W.mg_none_of X G z_list
    z_max := PySem.W.mg_none_of X G z_max
    z_range := PySem.W.mg_none_of X G z_range
    z_sum := PySem.W.mg_none_of X G z_sum
    z_tuple := PySem.W.mg_none_of X G z_tuple
    cls_Tree := by rw [ec0]; exact ⟨pg0, hd0, po0, sa0⟩
    na_Tree_depths := by rw [ec0]; exact na_Tree_depths
    na_Tree_lengths := by rw [ec0]; exact na_Tree_lengths
    na_Tree_parents := by rw [ec0]; exact na_Tree_parents
    na_Tree_roads := by rw [ec0]; exact na_Tree_roads
    ex_InvalidPoint := ⟨by rw [ec1]; exact PySem.W.mg_of X G aC1, by rw [ec1]; exact kC1, by rw [ec1]; exact xC1, by rw [ec1]; exact sC1, by rw [ec1]; exact tC1⟩
    ex_InvalidTree := ⟨by rw [ec2]; exact PySem.W.mg_of X G aC2, by rw [ec2]; exact kC2, by rw [ec2]; exact xC2, by rw [ec2]; exact sC2, by rw [ec2]; exact tC2⟩
    ex_TooSmall := ⟨by rw [ec3]; exact PySem.W.mg_of X G aC3, by rw [ec3]; exact kC3, by rw [ec3]; exact xC3, by rw [ec3]; exact sC3, by rw [ec3]; exact tC3⟩
    isc_Tree := by rw [ec0]; exact ⟨⟨pg0, hd0, po0, sa0⟩, ih0, ign, igt, im0, ic0, it0, is0⟩
    gc_Tree := by rw [ec0]; exact PySem.W.mg_of X G aC0
    mt_Tree_bool := by rw [ec0]; exact mt_Tree_bool
    mt_Tree_int := by rw [ec0]; exact mt_Tree_int
    mt_Tree_list := by rw [ec0]; exact mt_Tree_list
    mt_Tree_tuple := by rw [ec0]; exact mt_Tree_tuple
    gx_InvalidCrew := by rw [ec4]; exact PySem.W.mg_of X G aC4
    gx_InvalidPlaces := by rw [ec5]; exact PySem.W.mg_of X G aC5
    gx_InvalidTree := by rw [ec2]; exact PySem.W.mg_of X G aC2
    gx_TooMany := by rw [ec6]; exact PySem.W.mg_of X G aC6
    gx_TooSmall := by rw [ec3]; exact PySem.W.mg_of X G aC3
    gx_WatchError := by rw [ec7]; exact PySem.W.mg_of X G aC7
    xc_TooSmall := by rw [ec3]; exact ⟨xg3, xk3, sC3, xd3, xa3, ign, igt, xo3⟩
    kx_TooSmall_InvalidCrew := by rw [ec3, ec4]; exact kit_not ic4 tC4 sb_InvalidCrew_InvalidCrew sb_TooSmall_InvalidCrew
    kx_TooSmall_InvalidPlaces := by rw [ec3, ec5]; exact kit_not ic5 tC5 sb_InvalidPlaces_InvalidPlaces sb_TooSmall_InvalidPlaces
    kx_TooSmall_InvalidTree := by rw [ec3, ec2]; exact kit_not ic2 tC2 sb_InvalidTree_InvalidTree sb_TooSmall_InvalidTree
    kx_TooSmall_TooMany := by rw [ec3, ec6]; exact kit_not ic6 tC6 sb_TooMany_TooMany sb_TooSmall_TooMany
    kx_TooSmall_TooSmall := by rw [ec3]; exact kit_yes ic3 tC3 sb_TooSmall_TooSmall
    kx_TooSmall_ValueError := by rw [ec3]; exact kit_bv (by decide +kernel) sb_TooSmall_ValueError
    xs_InvalidPoint_WatchError := by rw [ec1, ec7]; exact xs_of sC7 tC7 ic7 sb_InvalidPoint_WatchError
    xs_InvalidTree_WatchError := by rw [ec2, ec7]; exact xs_of sC7 tC7 ic7 sb_InvalidTree_WatchError
    xs_TooSmall_WatchError := by rw [ec3, ec7]; exact xs_of sC7 tC7 ic7 sb_TooSmall_WatchError
  }
  have Fu0 := fun_mk (st := s_law_mixed) l0 c0 k0
  have b0 := Fu0.binds (ps := ["cell"]) fun _ _ _ _ _ _ us hl => match us, hl with | [_], _ => rfl
  have Fu1 := fun_mk (st := s_law_source) l1 c1 k1
  have b1 := Fu1.binds (ps := ["script"]) fun _ _ _ _ _ _ us hl => match us, hl with | [_], _ => rfl
  have Fu2 := fun_mk (st := s_law_pick) l2 c2 k2
  have b2 := Fu2.binds (ps := ["source", "size"]) fun _ _ _ _ _ _ us hl => match us, hl with | [_, _], _ => rfl
  have Fu3 := fun_mk (st := s_law_roads) l3 c3 k3
  have b3 := Fu3.binds (ps := ["source", "least"]) fun _ _ _ _ _ _ us hl => match us, hl with | [_, _], _ => rfl
  have Fu4 := fun_mk (st := s_is_int) l4 c4 k4
  have b4 := Fu4.binds (ps := ["value"]) fun _ _ _ _ _ _ us hl => match us, hl with | [_], _ => rfl
  have Fu5 := fun_mk (st := s_is_int_pair) l5 c5 k5
  have b5 := Fu5.binds (ps := ["value"]) fun _ _ _ _ _ _ us hl => match us, hl with | [_], _ => rfl
  have Fu6 := fun_mk (st := s_is_road) l6 c6 k6
  have b6 := Fu6.binds (ps := ["value", "node"]) fun _ _ _ _ _ _ us hl => match us, hl with | [_, _], _ => rfl
  have Fu7 := fun_mk (st := s_are_roads) l7 c7 k7
  have b7 := Fu7.binds (ps := ["value"]) fun _ _ _ _ _ _ us hl => match us, hl with | [_], _ => rfl
  have Fu8 := fun_mk (st := s_node_depths) l8 c8 k8
  have b8 := Fu8.binds (ps := ["roads"]) fun _ _ _ _ _ _ us hl => match us, hl with | [_], _ => rfl
  have Fu9 := fun_mk (st := s_Tree_init) l9 c9 k9
  have b9 := Fu9.binds (ps := ["self", "roads"]) fun _ _ _ _ _ _ us hl => match us, hl with | [_, _], _ => rfl
  have Fu10 := fun_mk (st := s_Tree_len) l10 c10 k10
  have b10 := Fu10.binds (ps := ["self"]) fun _ _ _ _ _ _ us hl => match us, hl with | [_], _ => rfl
  have Fu11 := fun_mk (st := s_Tree_contains) l11 c11 k11
  have b11 := Fu11.binds (ps := ["self", "x"]) fun _ _ _ _ _ _ us hl => match us, hl with | [_, _], _ => rfl
  have Fu12 := fun_mk (st := s_Tree_check_points) l12 c12 k12
  have b12 := Fu12.binds (ps := ["self", "values"]) fun _ _ _ _ _ _ us hl => match us, hl with | [_, _], _ => rfl
  have Fu13 := fun_mk (st := s_Tree_depth) l13 c13 k13
  have b13 := Fu13.binds (ps := ["self", "point"]) fun _ _ _ _ _ _ us hl => match us, hl with | [_, _], _ => rfl
  have Fu14 := fun_mk (st := s_Tree_top) l14 c14 k14
  have b14 := Fu14.binds (ps := ["self", "one", "other"]) fun _ _ _ _ _ _ us hl => match us, hl with | [_, _, _], _ => rfl
  have Fu15 := fun_mk (st := s_Tree_way_length) l15 c15 k15
  have b15 := Fu15.binds (ps := ["self", "one", "other"]) fun _ _ _ _ _ _ us hl => match us, hl with | [_, _, _], _ => rfl
  have Fu16 := fun_mk (st := s_Tree_distance) l16 c16 k16
  have b16 := Fu16.binds (ps := ["self", "one", "other"]) fun _ _ _ _ _ _ us hl => match us, hl with | [_, _, _], _ => rfl
  have Fu17 := fun_mk (st := s_Tree_climb) l17 c17 k17
  have b17 := Fu17.binds (ps := ["self", "point", "far"]) fun _ _ _ _ _ _ us hl => match us, hl with | [_, _, _], _ => rfl
  have Fu18 := fun_mk (st := s_Tree_towards) l18 c18 k18
  have b18 := Fu18.binds (ps := ["self", "one", "other", "far"]) fun _ _ _ _ _ _ us hl => match us, hl with | [_, _, _, _], _ => rfl
  have Fu19 := fun_mk (st := s_three_in_a_row) l19 c19 k19
  have b19 := Fu19.binds (ps := ["tree"]) fun _ _ _ _ _ _ us hl => match us, hl with | [_], _ => rfl
  have Fu20 := fun_mk (st := s_beyond) l20 c20 k20
  have b20 := Fu20.binds (ps := ["tree", "k", "factor", "slack"]) fun _ _ _ _ _ _ us hl => match us, hl with | [_, _, _, _], _ => rfl
  have Fu21 := fun_mk (st := s_law_refused) l21 c21 k21
  have b21 := Fu21.binds (ps := ["tree", "size", "factor", "slack"]) fun _ _ _ _ _ _ us hl => match us, hl with | [_, _, _, _], _ => rfl
  have Fu22 := fun_mk (st := s_law_let) l22 c22 k22
  have b22 := Fu22.binds (ps := ["tree", "size", "factor", "slack"]) fun _ _ _ _ _ _ us hl => match us, hl with | [_, _, _, _], _ => rfl
  have Fu23 := fun_mk (st := s_law) l23 c23 k23
  refine ⟨PySem.W.fnOf "law" "law" (defArgs s_law) (defBody s_law) (defScope s_law) .none kV23 dc23 pm23 an23 cd23 ct23, fun s v => .of_eq rfl, fun base _ _ => ?_⟩
  have ok0 := mech_law_mixed (P := l.prog) (w := w) (base := base) Fu0 T  hm_law_mixed
  have h_law_mixed : FnH l.prog w K mg base cA "_law_mixed" 1 1 F_law_mixed := ⟨f0, _, _, PySem.W.mg_of X G a0, k0, b0, ok0⟩
  have ok1 := mech_law_source (P := l.prog) (w := w) (base := base) Fu1 T h_law_mixed hm_law_source
  have h_law_source : FnH l.prog w K mg base cA "_law_source" 1 2 F_law_source := ⟨f1, _, _, PySem.W.mg_of X G a1, k1, b1, ok1⟩
  have ok2 := mech_law_pick (P := l.prog) (w := w) (base := base) Fu2 T  hm_law_pick
  have h_law_pick : FnH l.prog w K mg base cA "_law_pick" 2 1 F_law_pick := ⟨f2, _, _, PySem.W.mg_of X G a2, k2, b2, ok2⟩
  have ok3 := mech_law_roads (P := l.prog) (w := w) (base := base) Fu3 T h_law_pick hm_law_roads
  have h_law_roads : FnH l.prog w K mg base cA "_law_roads" 2 2 F_law_roads := ⟨f3, _, _, PySem.W.mg_of X G a3, k3, b3, ok3⟩
  have ok4 := mech_is_int (P := l.prog) (w := w) (base := base) Fu4 T  hm_is_int
  have h_is_int : FnH l.prog w K mg base cA "is_int" 1 1 F_is_int := ⟨f4, _, _, PySem.W.mg_of X G a4, k4, b4, ok4⟩
  have ok5 := mech_is_int_pair (P := l.prog) (w := w) (base := base) Fu5 T h_is_int hm_is_int_pair
  have h_is_int_pair : FnH l.prog w K mg base cA "is_int_pair" 1 2 F_is_int_pair := ⟨f5, _, _, PySem.W.mg_of X G a5, k5, b5, ok5⟩
  have ok6 := mech_is_road (P := l.prog) (w := w) (base := base) Fu6 T h_is_int_pair hm_is_road
  have h_is_road : FnH l.prog w K mg base cA "_is_road" 2 3 F_is_road := ⟨f6, _, _, PySem.W.mg_of X G a6, k6, b6, ok6⟩
  have ok7 := mech_are_roads (P := l.prog) (w := w) (base := base) Fu7 T h_is_road hm_are_roads
  have h_are_roads : FnH l.prog w K mg base cA "_are_roads" 1 4 F_are_roads := ⟨f7, _, _, PySem.W.mg_of X G a7, k7, b7, ok7⟩
  have ok8 := mech_node_depths (P := l.prog) (w := w) (base := base) Fu8 T  hm_node_depths
  have h_node_depths : FnH l.prog w K mg base cA "_node_depths" 1 1 F_node_depths := ⟨f8, _, _, PySem.W.mg_of X G a8, k8, b8, ok8⟩
  have ok9 := mech_Tree_init (P := l.prog) (w := w) (base := base) Fu9 T h_are_roads h_node_depths hm_Tree_init
  have k_Tree_init : MkH l.prog w K mg base cA "Tree" 2 5 F_Tree_init := ⟨f9, _, _, by rw [ec0]; exact PySem.W.mg_of X G aC0, by rw [ec0]; exact ⟨mk0, a9, i9, kC0⟩, b9, ok9⟩
  have ok10 := mech_Tree_len (P := l.prog) (w := w) (base := base) Fu10 T  hm_Tree_len
  have s_Tree_len : SpH l.prog w K mg base cA "Tree" "__len__" 1 1 F_Tree_len := ⟨f10, _, _, by rw [ec0]; exact a10, i10, b10, ok10⟩
  have ok11 := mech_Tree_contains (P := l.prog) (w := w) (base := base) Fu11 T h_is_int_pair hm_Tree_contains
  have s_Tree_contains : SpH l.prog w K mg base cA "Tree" "__contains__" 2 3 F_Tree_contains := ⟨f11, _, _, by rw [ec0]; exact a11, i11, b11, ok11⟩
  have ok12 := mech_Tree_check_points (P := l.prog) (w := w) (base := base) Fu12 T s_Tree_contains hm_Tree_check_points
  have h_Tree_check_points : MtH l.prog w K mg base cA "Tree" "_check_points" 2 4 F_Tree_check_points := ⟨f12, _, _, by rw [ec0]; exact ⟨a12, i12, k12⟩, b12, ok12⟩
  have ok13 := mech_Tree_depth (P := l.prog) (w := w) (base := base) Fu13 T  hm_Tree_depth
  have h_Tree_depth : MtH l.prog w K mg base cA "Tree" "_depth" 2 1 F_Tree_depth := ⟨f13, _, _, by rw [ec0]; exact ⟨a13, i13, k13⟩, b13, ok13⟩
  have ok14 := mech_Tree_top (P := l.prog) (w := w) (base := base) Fu14 T  hm_Tree_top
  have h_Tree_top : MtH l.prog w K mg base cA "Tree" "_top" 3 1 F_Tree_top := ⟨f14, _, _, by rw [ec0]; exact ⟨a14, i14, k14⟩, b14, ok14⟩
  have ok15 := mech_Tree_way_length (P := l.prog) (w := w) (base := base) Fu15 T h_Tree_depth h_Tree_top hm_Tree_way_length
  have h_Tree_way_length : MtH l.prog w K mg base cA "Tree" "_way_length" 3 2 F_Tree_way_length := ⟨f15, _, _, by rw [ec0]; exact ⟨a15, i15, k15⟩, b15, ok15⟩
  have ok16 := mech_Tree_distance (P := l.prog) (w := w) (base := base) Fu16 T h_Tree_check_points h_Tree_way_length hm_Tree_distance
  have h_Tree_distance : MtH l.prog w K mg base cA "Tree" "distance" 3 5 F_Tree_distance := ⟨f16, _, _, by rw [ec0]; exact ⟨a16, i16, k16⟩, b16, ok16⟩
  have ok17 := mech_Tree_climb (P := l.prog) (w := w) (base := base) Fu17 T  hm_Tree_climb
  have h_Tree_climb : MtH l.prog w K mg base cA "Tree" "_climb" 3 1 F_Tree_climb := ⟨f17, _, _, by rw [ec0]; exact ⟨a17, i17, k17⟩, b17, ok17⟩
  have ok18 := mech_Tree_towards (P := l.prog) (w := w) (base := base) Fu18 T h_Tree_check_points h_Tree_climb h_Tree_depth h_Tree_top h_Tree_way_length h_is_int hm_Tree_towards
  have h_Tree_towards : MtH l.prog w K mg base cA "Tree" "towards" 4 5 F_Tree_towards := ⟨f18, _, _, by rw [ec0]; exact ⟨a18, i18, k18⟩, b18, ok18⟩
  have ok19 := mech_three_in_a_row (P := l.prog) (w := w) (base := base) Fu19 T h_Tree_distance h_Tree_towards s_Tree_len hm_three_in_a_row
  have h_three_in_a_row : FnH l.prog w K mg base cA "_three_in_a_row" 1 6 F_three_in_a_row := ⟨f19, _, _, PySem.W.mg_of X G a19, k19, b19, ok19⟩
  have ok20 := mech_beyond (P := l.prog) (w := w) (base := base) Fu20 T h_three_in_a_row hm_beyond
  have h_beyond : FnH l.prog w K mg base cA "beyond" 4 7 F_beyond := ⟨f20, _, _, PySem.W.mg_of X G a20, k20, b20, ok20⟩
  have ok21 := mech_law_refused (P := l.prog) (w := w) (base := base) Fu21 T h_beyond hm_law_refused
  have h_law_refused : FnH l.prog w K mg base cA "_law_refused" 4 8 F_law_refused := ⟨f21, _, _, PySem.W.mg_of X G a21, k21, b21, ok21⟩
  have ok22 := mech_law_let (P := l.prog) (w := w) (base := base) Fu22 T h_beyond hm_law_let
  have h_law_let : FnH l.prog w K mg base cA "_law_let" 4 8 F_law_let := ⟨f22, _, _, PySem.W.mg_of X G a22, k22, b22, ok22⟩
  have ok23 := mech_law (P := l.prog) (w := w) (base := base) Fu23 T h_law_let h_law_pick h_law_refused h_law_roads h_law_source k_Tree_init hm_law
  exact law_imp ok23 law_true
end Lw
open PySem PySem.W PyProof.Rows
set_option maxRecDepth 100000 in
set_option maxHeartbeats 0 in
theorem PySem.Challenge.cw_bothcome_k45_too_small_trees_holds : PySem.Challenge.rw_bothcome_k45_too_small_trees.Holds := by
  w_on; o_law; k_head; (case hw => w_witness2)
  k_fill
  refine L2.walk_of (l := PySem.Challenge.rw_bothcome_k45_too_small_trees) (n := 63) (k := 9) (x := "script") (CX := fun w => L2.CX (PySem.Challenge.rw_bothcome_k45_too_small_trees).prog w) (sp := fun w => Dn.spL 63 _) rfl (by decide) rfl ⟨rfl, by decide, by decide⟩ (fun w h Y => PySem.W.kIn_of Y) ?F (fun w H a ns hl hO hS => ⟨a, ns, rfl, hl, hO, hS, fun _ => rfl⟩) (fun w H s e s' h => Dn.cx_false h)
  case F =>
    intro w mg fa h KX G hmg
    refine' Lw.all_mk KX G hmg ?aC0 ?aC1 ?aC2 ?aC3 ?aC4 ?aC5 ?aC6 ?aC7 ?kC0 ?pg0 ?hd0 ?po0 ?sa0 ?ih0 ?im0 ?ic0 ?it0 ?is0 ?mk0 ?kC1 ?xC1 ?sC1 ?tC1 ?kC2 ?xC2 ?sC2 ?tC2 ?ic2 ?kC3 ?xC3 ?sC3 ?tC3 ?ic3 ?xg3 ?xk3 ?xd3 ?xa3 ?xo3 ?kC4 ?tC4 ?ic4 ?kC5 ?tC5 ?ic5 ?kC6 ?tC6 ?ic6 ?kC7 ?sC7 ?tC7 ?ic7 ?sb_InvalidCrew_InvalidCrew ?sb_InvalidPlaces_InvalidPlaces ?sb_InvalidPoint_WatchError ?sb_InvalidTree_InvalidTree ?sb_InvalidTree_WatchError ?sb_TooMany_TooMany ?sb_TooSmall_InvalidCrew ?sb_TooSmall_InvalidPlaces ?sb_TooSmall_InvalidTree ?sb_TooSmall_TooMany ?sb_TooSmall_TooSmall ?sb_TooSmall_WatchError ?sb_TooSmall_ValueError ?ign ?igt ?mt_Tree_bool ?mt_Tree_int ?mt_Tree_list ?mt_Tree_tuple ?na_Tree_depths ?na_Tree_lengths ?na_Tree_parents ?na_Tree_roads ?z_ValueError ?z_all ?z_bool ?z_enumerate ?z_int ?z_isinstance ?z_len ?z_list ?z_max ?z_range ?z_sum ?z_tuple ?a0 ?l0 ?c0 ?k0 ?a1 ?l1 ?c1 ?k1 ?a2 ?l2 ?c2 ?k2 ?a3 ?l3 ?c3 ?k3 ?a4 ?l4 ?c4 ?k4 ?a5 ?l5 ?c5 ?k5 ?a6 ?l6 ?c6 ?k6 ?a7 ?l7 ?c7 ?k7 ?a8 ?l8 ?c8 ?k8 ?a9 ?i9 ?l9 ?c9 ?k9 ?a10 ?i10 ?l10 ?c10 ?k10 ?a11 ?i11 ?l11 ?c11 ?k11 ?a12 ?i12 ?l12 ?c12 ?k12 ?a13 ?i13 ?l13 ?c13 ?k13 ?a14 ?i14 ?l14 ?c14 ?k14 ?a15 ?i15 ?l15 ?c15 ?k15 ?a16 ?i16 ?l16 ?c16 ?k16 ?a17 ?i17 ?l17 ?c17 ?k17 ?a18 ?i18 ?l18 ?c18 ?k18 ?a19 ?l19 ?c19 ?k19 ?a20 ?l20 ?c20 ?k20 ?a21 ?l21 ?c21 ?k21 ?a22 ?l22 ?c22 ?k22 ?a23 ?l23 ?c23 ?k23
    (case aC0 => k_is)
    (case aC1 => k_is)
    (case aC2 => k_is)
    (case aC3 => k_is)
    (case aC4 => k_is)
    (case aC5 => k_is)
    (case aC6 => k_is)
    (case aC7 => k_is)
    (case kC0 => k_is)
    (case pg0 => k_is)
    (case hd0 => k_is)
    (case po0 => k_is)
    (case sa0 => k_is)
    (case ih0 => k_is)
    (case im0 => k_is)
    (case ic0 => k_is)
    (case it0 => k_is)
    (case is0 => k_is)
    (case mk0 => k_is)
    (case kC1 => k_is)
    (case xC1 => k_exc)
    (case sC1 => k_is)
    (case tC1 => k_is)
    (case kC2 => k_is)
    (case xC2 => k_exc)
    (case sC2 => k_is)
    (case tC2 => k_is)
    (case ic2 => k_is)
    (case kC3 => k_is)
    (case xC3 => k_exc)
    (case sC3 => k_is)
    (case tC3 => k_is)
    (case ic3 => k_is)
    (case xg3 => k_is)
    (case xk3 => k_is)
    (case xd3 => k_is)
    (case xa3 => k_is)
    (case xo3 => k_is)
    (case kC4 => k_is)
    (case tC4 => k_is)
    (case ic4 => k_is)
    (case kC5 => k_is)
    (case tC5 => k_is)
    (case ic5 => k_is)
    (case kC6 => k_is)
    (case tC6 => k_is)
    (case ic6 => k_is)
    (case kC7 => k_is)
    (case sC7 => k_is)
    (case tC7 => k_is)
    (case ic7 => k_is)
    (case sb_InvalidCrew_InvalidCrew => k_is)
    (case sb_InvalidPlaces_InvalidPlaces => k_is)
    (case sb_InvalidPoint_WatchError => k_is)
    (case sb_InvalidTree_InvalidTree => k_is)
    (case sb_InvalidTree_WatchError => k_is)
    (case sb_TooMany_TooMany => k_is)
    (case sb_TooSmall_InvalidCrew => k_is)
    (case sb_TooSmall_InvalidPlaces => k_is)
    (case sb_TooSmall_InvalidTree => k_is)
    (case sb_TooSmall_TooMany => k_is)
    (case sb_TooSmall_TooSmall => k_is)
    (case sb_TooSmall_WatchError => k_is)
    (case sb_TooSmall_ValueError => k_is)
    (case ign => k_is)
    (case igt => k_is)
    (case mt_Tree_bool => k_is)
    (case mt_Tree_int => k_is)
    (case mt_Tree_list => k_is)
    (case mt_Tree_tuple => k_is)
    (case na_Tree_depths => k_is)
    (case na_Tree_lengths => k_is)
    (case na_Tree_parents => k_is)
    (case na_Tree_roads => k_is)
    (case z_ValueError => k_is)
    (case z_all => k_is)
    (case z_bool => k_is)
    (case z_enumerate => k_is)
    (case z_int => k_is)
    (case z_isinstance => k_is)
    (case z_len => k_is)
    (case z_list => k_is)
    (case z_max => k_is)
    (case z_range => k_is)
    (case z_sum => k_is)
    (case z_tuple => k_is)
    (case a0 => k_is)
    (case l0 => k_is)
    (case c0 => k_is)
    (case k0 => k_is)
    (case a1 => k_is)
    (case l1 => k_is)
    (case c1 => k_is)
    (case k1 => k_is)
    (case a2 => k_is)
    (case l2 => k_is)
    (case c2 => k_is)
    (case k2 => k_is)
    (case a3 => k_is)
    (case l3 => k_is)
    (case c3 => k_is)
    (case k3 => k_is)
    (case a4 => k_is)
    (case l4 => k_is)
    (case c4 => k_is)
    (case k4 => k_is)
    (case a5 => k_is)
    (case l5 => k_is)
    (case c5 => k_is)
    (case k5 => k_is)
    (case a6 => k_is)
    (case l6 => k_is)
    (case c6 => k_is)
    (case k6 => k_is)
    (case a7 => k_is)
    (case l7 => k_is)
    (case c7 => k_is)
    (case k7 => k_is)
    (case a8 => k_is)
    (case l8 => k_is)
    (case c8 => k_is)
    (case k8 => k_is)
    (case a9 => k_is)
    (case i9 => k_is)
    (case l9 => k_is)
    (case c9 => k_is)
    (case k9 => k_is)
    (case a10 => k_is)
    (case i10 => k_is)
    (case l10 => k_is)
    (case c10 => k_is)
    (case k10 => k_is)
    (case a11 => k_is)
    (case i11 => k_is)
    (case l11 => k_is)
    (case c11 => k_is)
    (case k11 => k_is)
    (case a12 => k_is)
    (case i12 => k_is)
    (case l12 => k_is)
    (case c12 => k_is)
    (case k12 => k_is)
    (case a13 => k_is)
    (case i13 => k_is)
    (case l13 => k_is)
    (case c13 => k_is)
    (case k13 => k_is)
    (case a14 => k_is)
    (case i14 => k_is)
    (case l14 => k_is)
    (case c14 => k_is)
    (case k14 => k_is)
    (case a15 => k_is)
    (case i15 => k_is)
    (case l15 => k_is)
    (case c15 => k_is)
    (case k15 => k_is)
    (case a16 => k_is)
    (case i16 => k_is)
    (case l16 => k_is)
    (case c16 => k_is)
    (case k16 => k_is)
    (case a17 => k_is)
    (case i17 => k_is)
    (case l17 => k_is)
    (case c17 => k_is)
    (case k17 => k_is)
    (case a18 => k_is)
    (case i18 => k_is)
    (case l18 => k_is)
    (case c18 => k_is)
    (case k18 => k_is)
    (case a19 => k_is)
    (case l19 => k_is)
    (case c19 => k_is)
    (case k19 => k_is)
    (case a20 => k_is)
    (case l20 => k_is)
    (case c20 => k_is)
    (case k20 => k_is)
    (case a21 => k_is)
    (case l21 => k_is)
    (case c21 => k_is)
    (case k21 => k_is)
    (case a22 => k_is)
    (case l22 => k_is)
    (case c22 => k_is)
    (case k22 => k_is)
    (case a23 => k_is)
    (case l23 => k_is)
    (case c23 => k_is)
    (case k23 => k_is)
