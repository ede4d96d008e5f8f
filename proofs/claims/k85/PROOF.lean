import PyProof.Rows.All
import Wide.All
import OpenK.AllK
import Wide.FinOn
import HandS.ForMost
import HandS.ForExc
import HandS.Walk
import HandS.TryMany
import HandS.ExcInit
import HandS.CallSlots
import HandS.Zip
import HandS.Wide
import HandS.Style
import HandS.Lambda
import HandS.TupAny
import HandS.TupMul
import HandS.ExcField
import OpenK.KMore
import HandS.ExcIs
import PyProof.Rows.SeqMore
import HandS.Deep
import HandS.IsInst
import PyProof.ReprRoads
import KE.DataMinMax
import HandS.TupLen
import PyProof.EnumMake
import KE.GoesMore
import HandS.Ends
import HandS.EndTab
import KE.KNest
import HandS.Star
import HandS.Rev
import HandS.RevRange
import KE.SortData
import HandS.Flt
import HandS.Conv
import HandS.IterVal
import KE.DataCmp
import PyProof.TupleOfSeq
import HandS.More
import PyProof.ReprLen
import PySem.Challenge.RW_stairyard_k85_whole_why_not_paid
set_option Elab.async false
set_option linter.all false
set_option maxRecDepth 100000
set_option maxHeartbeats 4000000
/-! # Sound expressions and statements: a reading of the hand layer beside a plain function over plain data -/
namespace Yx
open PySem L2

/-- the heap grows -/
def Ex (H H' : Hp) : Prop := ∀ a o, H a = some o → H' a = some o
theorem Ex.refl (H : Hp) : Ex H H := fun _ _ h => h
theorem Ex.trans {H H1 H2 : Hp} (a : Ex H H1) (b : Ex H1 H2) : Ex H H2 := fun x o h => b x o (a x o h)
theorem Ex.back {H H' : Hp} {p : Addr} (e : Ex H H') (h : H' p = none) : H p = none := by
  cases q : H p with
  | none => rfl
  | some o => rw [e p o q] at h; cases h
theorem Ex.new {H : Hp} {p : Addr} {o : HO} (h : H p = none) : Ex H (upd H p o) := fun a u e => by
  rw [upd_ne (ne_of_none e h)]; exact e
theorem Ex.both {H H' : Hp} {p : Addr} {o : HO} (e : Ex H H') : Ex (upd H p o) (upd H' p o) := fun a u h => by
  by_cases c : a = p
  · subst c; rw [upd_same] at h ⊢; exact h
  · rw [upd_ne c] at h ⊢; exact e a u h
theorem Ex.mut {H H' : Hp} {p : Addr} {o : HO} (e : Ex H H') (h : H p = none) : Ex H (upd H' p o) := fun a u ha => by
  rw [upd_ne (ne_of_none ha h)]; exact e a u ha
theorem Ex.into {H H' : Hp} {p : Addr} {o : HO} (e : Ex H H') (h : H' p = some o) : Ex (upd H p o) H' := fun a u ha => by
  by_cases c : a = p
  · subst c; rw [upd_same] at ha; rw [h]; exact ha
  · rw [upd_ne c] at ha; exact e a u ha
theorem ex_rd {H H' : Hp} {a : Addr} {u : HO} (e : Ex H H') (h : Rd H a u) : Rd H' a u := by
  rcases h with h | ⟨o, h⟩
  · exact Or.inl (e a _ h)
  · exact Or.inr ⟨o, e a _ h⟩
theorem ex_l {K : PySem.W.Frag} {H H' : Hp} {a : Addr} {xs : List V} (e : Ex H H') (h : SqL K H a xs) : SqL K H' a xs := by
  rcases h with h | h
  · exact Or.inl (ex_rd e h)
  · exact Or.inr h
theorem ex_t {K : PySem.W.Frag} {H H' : Hp} {a : Addr} {xs : List V} (e : Ex H H') (h : SqT K H a xs) : SqT K H' a xs := by
  rcases h with h | h
  · exact Or.inl (ex_rd e h)
  · exact Or.inr h

/-- no tuple -/
def nTup (o : HO) : Prop := ∀ vs, o ≠ .tup vs
/-- plain data -/
inductive D where
  | non | bl (b : Bool) | int (i : Int) | str (x : Str) | st | ref (a : Addr) | tup (l : List D) | lst (l : List D) | dcK (l : List (Int × D)) | dcT (l : List (List Int × D))
instance : Inhabited D := ⟨.non⟩

def kI (k : List Int) : List L2.Key := k.map Sum.inl
mutual
inductive Rep (K : PySem.W.Frag) (sa : Addr) (F : Hp) : V → D → Prop
  | non : Rep K sa F .non .non
  | bl {b : Bool} : Rep K sa F (.bl b) (.bl b)
  | int {i : Int} : Rep K sa F (.int i) (.int i)
  | str {x : Str} : Rep K sa F (.str x) (.str x)
  | st : Rep K sa F (.ref sa) .st
  | ref {a : Addr} : Rep K sa F (.ref a) (.ref a)
  | tup {a : Addr} {vs : List V} {ds : List D} : F a = some (.tup vs) → Reps K sa F vs ds → Rep K sa F (.ref a) (.tup ds)
  | lst {a : Addr} {vs : List V} {ds : List D} : SqL K F a vs → Reps K sa F vs ds → Rep K sa F (.ref a) (.lst ds)
  | dcK {a : Addr} {o : Obj} {kv : List (L2.Key × V)} {l : List (Int × D)} : F a = some (.frz o (.dK kv)) → KIs K sa F kv l → Rep K sa F (.ref a) (.dcK l)
  | dcT {a : Addr} {o : Obj} {kv : List (List L2.Key × V)} {l : List (List Int × D)} : F a = some (.frz o (.dT kv)) → KRep K sa F kv l → Rep K sa F (.ref a) (.dcT l)
inductive Reps (K : PySem.W.Frag) (sa : Addr) (F : Hp) : List V → List D → Prop
  | nil : Reps K sa F [] []
  | cons {v : V} {vs : List V} {d : D} {ds : List D} : Rep K sa F v d → Reps K sa F vs ds → Reps K sa F (v :: vs) (d :: ds)
inductive KRep (K : PySem.W.Frag) (sa : Addr) (F : Hp) : List (List L2.Key × V) → List (List Int × D) → Prop
  | nil : KRep K sa F [] []
  | cons {k : List Int} {v : V} {d : D} {a : List (List L2.Key × V)} {b : List (List Int × D)} : Rep K sa F v d → KRep K sa F a b → KRep K sa F ((kI k, v) :: a) ((k, d) :: b)
inductive KIs (K : PySem.W.Frag) (sa : Addr) (F : Hp) : List (L2.Key × V) → List (Int × D) → Prop
  | nil : KIs K sa F [] []
  | cons {k : Int} {v : V} {d : D} {a : List (L2.Key × V)} {b : List (Int × D)} : Rep K sa F v d → KIs K sa F a b → KIs K sa F ((.inl k, v) :: a) ((k, d) :: b)
end

section
variable {K : PySem.W.Frag} {sa : Addr} {F F' : Hp}
mutual
theorem Rep.mono (e : Ex F F') {v : V} {d : D} (h : Rep K sa F v d) : Rep K sa F' v d :=
  match h with
  | .non => .non
  | .bl => .bl
  | .int => .int
  | .str => .str
  | .st => .st
  | .ref => .ref
  | .tup a b => .tup (e _ _ a) (Reps.mono e b)
  | .lst a b => .lst (ex_l e a) (Reps.mono e b)
  | .dcK a b => .dcK (e _ _ a) (KIs.mono e b)
  | .dcT a b => .dcT (e _ _ a) (KRep.mono e b)
theorem Reps.mono (e : Ex F F') {vs : List V} {ds : List D} (h : Reps K sa F vs ds) : Reps K sa F' vs ds :=
  match h with
  | .nil => .nil
  | .cons a b => .cons (Rep.mono e a) (Reps.mono e b)
theorem KRep.mono (e : Ex F F') {a : List (List L2.Key × V)} {b : List (List Int × D)} (h : KRep K sa F a b) : KRep K sa F' a b :=
  match h with
  | .nil => .nil
  | .cons r t => .cons (Rep.mono e r) (KRep.mono e t)
theorem KIs.mono (e : Ex F F') {a : List (L2.Key × V)} {b : List (Int × D)} (h : KIs K sa F a b) : KIs K sa F' a b :=
  match h with
  | .nil => .nil
  | .cons r t => .cons (Rep.mono e r) (KIs.mono e t)
end
theorem KRep.ind {motive : ∀ (a : List (List L2.Key × V)) (b : List (List Int × D)), KRep K sa F a b → Prop} (nil : motive [] [] .nil) (cons : ∀ {k : List Int} {v : V} {d : D} {a : List (List L2.Key × V)} {b : List (List Int × D)} (r : Rep K sa F v d) (t : KRep K sa F a b), motive a b t → motive ((kI k, v) :: a) ((k, d) :: b) (.cons r t)) {a : List (List L2.Key × V)} {b : List (List Int × D)} (h : KRep K sa F a b) : motive a b h := by
  induction b generalizing a with
  | nil => cases h; exact nil
  | cons p b ih => cases h with | cons r t => exact cons r t (ih t)
theorem KIs.ind {motive : ∀ (a : List (L2.Key × V)) (b : List (Int × D)), KIs K sa F a b → Prop} (nil : motive [] [] .nil) (cons : ∀ {k : Int} {v : V} {d : D} {a : List (L2.Key × V)} {b : List (Int × D)} (r : Rep K sa F v d) (t : KIs K sa F a b), motive a b t → motive ((.inl k, v) :: a) ((k, d) :: b) (.cons r t)) {a : List (L2.Key × V)} {b : List (Int × D)} (h : KIs K sa F a b) : motive a b h := by
  induction b generalizing a with
  | nil => cases h; exact nil
  | cons p b ih => cases h with | cons r t => exact cons r t (ih t)
theorem Reps.length {vs : List V} {ds : List D} (h : Reps K sa F vs ds) : vs.length = ds.length := by
  induction ds generalizing vs with
  | nil => cases h; rfl
  | cons d ds ih => cases h with | cons a b => simp [ih b]
theorem Reps.get {vs : List V} {ds : List D} (h : Reps K sa F vs ds) {i : Nat} {d : D} (e : ds[i]? = some d) : ∃ v, vs[i]? = some v ∧ Rep K sa F v d := by
  induction ds generalizing vs i with
  | nil => simp at e
  | cons d' ds ih =>
    cases h with
    | cons a b =>
      cases i with
      | zero => simp at e; subst e; exact ⟨_, by simp, a⟩
      | succ i => simp at e; obtain ⟨v, h1, h2⟩ := ih b e; exact ⟨v, by simpa using h1, h2⟩
theorem Reps.getV {vs : List V} {ds : List D} (h : Reps K sa F vs ds) {i : Nat} {v : V} (e : vs[i]? = some v) : ∃ d, ds[i]? = some d ∧ Rep K sa F v d := by
  induction ds generalizing vs i with
  | nil => cases h; simp at e
  | cons d' ds ih =>
    cases h with
    | cons a b =>
      cases i with
      | zero => simp at e; subst e; exact ⟨_, by simp, a⟩
      | succ i => simp at e; obtain ⟨v, h1, h2⟩ := ih b e; exact ⟨v, by simpa using h1, h2⟩
theorem Reps.append {vs ws : List V} {ds es : List D} (h : Reps K sa F vs ds) (h2 : Reps K sa F ws es) : Reps K sa F (vs ++ ws) (ds ++ es) := by
  induction ds generalizing vs with
  | nil => cases h; exact h2
  | cons d ds ih => cases h with | cons a b => exact .cons a (ih b)
theorem Reps.take {vs : List V} {ds : List D} (h : Reps K sa F vs ds) (n : Nat) : Reps K sa F (vs.take n) (ds.take n) := by
  induction ds generalizing vs n with
  | nil => cases h; simp; exact .nil
  | cons d ds ih =>
    cases h with
    | cons a b =>
      cases n with
      | zero => exact .nil
      | succ n => exact .cons a (ih b n)
theorem Reps.drop {vs : List V} {ds : List D} (h : Reps K sa F vs ds) (n : Nat) : Reps K sa F (vs.drop n) (ds.drop n) := by
  induction ds generalizing vs n with
  | nil => cases h; simp; exact .nil
  | cons d ds ih =>
    cases h with
    | cons a b =>
      cases n with
      | zero => exact .cons a b
      | succ n => exact ih b n
theorem Reps.reverse {vs : List V} {ds : List D} (h : Reps K sa F vs ds) : Reps K sa F vs.reverse ds.reverse := by
  induction ds generalizing vs with
  | nil => cases h; exact .nil
  | cons d ds ih => cases h with | cons a b => rw [List.reverse_cons, List.reverse_cons]; exact (ih b).append (.cons a .nil)
theorem Reps.set {vs : List V} {ds : List D} (h : Reps K sa F vs ds) (n : Nat) {v : V} {d : D} (r : Rep K sa F v d) : Reps K sa F (vs.set n v) (ds.set n d) := by
  induction ds generalizing vs n with
  | nil => cases h; simp; exact .nil
  | cons d' ds ih =>
    cases h with
    | cons a b =>
      cases n with
      | zero => exact .cons r b
      | succ n => exact .cons a (ih b n)
/-- a list of ints -/
theorem Reps.ints {vs : List V} {ns : List Int} (h : Reps K sa F vs (ns.map D.int)) : vs = ns.map V.int := by
  induction ns generalizing vs with
  | nil => cases h; rfl
  | cons n ns ih => cases h with | cons a b => cases a; rw [ih b]; rfl
theorem Reps.ofInts (ns : List Int) : Reps K sa F (ns.map V.int) (ns.map D.int) := by
  induction ns with
  | nil => exact .nil
  | cons n ns ih => exact .cons .int ih
theorem Reps.bools {vs : List V} {ns : List Bool} (h : Reps K sa F vs (ns.map D.bl)) : vs = ns.map V.bl := by
  induction ns generalizing vs with
  | nil => cases h; rfl
  | cons n ns ih => cases h with | cons a b => cases a; rw [ih b]; rfl
end

/-- the tables of code objects that lambdas are kept in -/
class Tb where
  tb : List (Addr × Str)
  one : ∀ p ∈ tb, ∀ q ∈ tb, p.1 = q.1 → p = q
def tba [Tb] : List Addr := Tb.tb.map (·.1)
/-- no table among it -/
def NoT (F : Hp) : Prop := ∀ b ps, F b ≠ some (.tbl ps)
theorem NoT.upd {F : Hp} {p : Addr} {o : HO} (h : NoT F) (n : ∀ ps, o ≠ .tbl ps) : NoT (upd F p o) := fun b ps e => by
  by_cases z : b = p
  · rw [z, upd_same] at e; exact n ps (Option.some.inj e)
  · rw [upd_ne z] at e; exact h b ps e
theorem NoT.back {F F' : Hp} (h : NoT F') (e : Ex F F') : NoT F := fun b ps z => h b ps (e _ _ z)
/-- they stand, and nobody tells of them -/
structure TbOk [Tb] (F H : Hp) : Prop where
  tabs : LamX.Tabs Tb.tb H
  out : ∀ a ∈ tba, F a = none
  nf : NoT F
section
variable [Tb] {F H F' H' : Hp}
theorem TbOk.at (t : TbOk F H) : ∀ a ∈ tba, ∃ ps, H a = some (.tbl ps) := fun a ha => by
  obtain ⟨p, hp, e⟩ := List.mem_map.mp ha
  obtain ⟨ps, h, _⟩ := t.tabs p hp
  exact ⟨ps, by rw [← e]; exact h⟩
theorem TbOk.step (t : TbOk F H) (hF : ∀ a ∈ tba, F' a = none) (hH : ∀ a ∈ tba, H' a = H a) (hc : ∀ c q, H c = some (LamX.CodeO c q) → H' c = some (LamX.CodeO c q)) (hn : NoT F') : TbOk F' H' where
  tabs := fun p hp => by
    obtain ⟨ps, h1, h2, h3⟩ := t.tabs p hp
    refine ⟨ps, by rw [hH p.1 (List.mem_map.mpr ⟨p, hp, rfl⟩)]; exact h1, h2, fun pos cv hcv => ?_⟩
    obtain ⟨c, e1, e2⟩ := h3 pos cv hcv
    exact ⟨c, e1, hc _ _ e2⟩
  out := hF
  nf := hn
/-- a thing that is no table and no code object changes -/
theorem TbOk.upd {a : Addr} {u o : HO} (t : TbOk F H) (h : H a = some u) (h1 : ∀ ps, u ≠ .tbl ps) (h2 : ∀ c q, u ≠ LamX.CodeO c q) : TbOk F (upd H a o) := by
  have na : a ∉ tba := fun m => by
    obtain ⟨ps, e⟩ := t.at a m
    rw [h] at e; exact h1 ps (Option.some.inj e)
  refine t.step t.out (fun b hb => upd_ne (fun z => na (by rw [← z]; exact hb))) (fun c q e => ?_) t.nf
  by_cases z : c = a
  · rw [z, h] at e; exact absurd (Option.some.inj e) (by intro y; exact h2 _ _ y)
  · rw [upd_ne z]; exact e
end
variable [Tb]
/-- the drawing state -/
structure Gst where
  cells : List Int
  lefts : List Int
  at_ : Int
/-- where it stands: the dict (its address is what a name of it holds), then, where it is known, its lefts and cells -/
abbrev GA := Addr × Option (Addr × Addr)
def gsa (g : GA) : Addr := g.1
def gfp0 (g : GA) : List Addr := match g.2 with
  | none => []
  | some (l, _) => [g.1, l]
def gfp (g : GA) : List Addr := gfp0 g ++ tba
def kCells : Str := "cells"
def kLefts : Str := "lefts"
def kAt : Str := "at"
def GRep0 (K : PySem.W.Frag) (g : GA) (F H : Hp) (x : Option Gst) : Prop :=
  match g.2, x with
  | none, none => True
  | some (l, c), some s => H g.1 = some (.dK [(.inr kCells, .ref c), (.inr kLefts, .ref l), (.inr kAt, .int s.at_)]) ∧ SqL K F c (s.cells.map V.int) ∧ H l = some (.lst (s.lefts.map V.int)) ∧ F g.1 = none ∧ F l = none
  | _, _ => False
structure GRep (K : PySem.W.Frag) (g : GA) (F H : Hp) (x : Option Gst) : Prop where
  g0 : GRep0 K g F H x
  tb : TbOk F H
theorem GRep0.on {K : PySem.W.Frag} {g : GA} {F H : Hp} {x : Option Gst} (h : GRep0 K g F H x) : ∀ a ∈ gfp0 g, ∃ o, H a = some o ∧ F a = none ∧ (∀ ps, o ≠ .tbl ps) ∧ ∀ c q, o ≠ LamX.CodeO c q := by
  intro p hp
  obtain ⟨a, g2⟩ := g
  match g2, x, h with
  | none, _, _ => cases hp
  | some (l, c), some s, h =>
    obtain ⟨h1, h2, h3, h4, h5⟩ := h
    simp [gfp0] at hp
    rcases hp with rfl | rfl
    · exact ⟨_, h1, h4, (fun _ z => by cases z), fun _ _ z => by unfold LamX.CodeO at z; cases z⟩
    · exact ⟨_, h3, h5, (fun _ z => by cases z), fun _ _ z => by unfold LamX.CodeO at z; cases z⟩
theorem GRep.on {K : PySem.W.Frag} {g : GA} {F H : Hp} {x : Option Gst} (h : GRep K g F H x) : ∀ a ∈ gfp g, (∃ o, H a = some o) ∧ F a = none := by
  intro p hp
  rcases List.mem_append.mp hp with hp | hp
  · obtain ⟨o, h1, h2, _⟩ := h.g0.on p hp
    exact ⟨⟨o, h1⟩, h2⟩
  · obtain ⟨ps, e⟩ := h.tb.at p hp
    exact ⟨⟨_, e⟩, h.tb.out p hp⟩
theorem GRep.onT {K : PySem.W.Frag} {g : GA} {F H : Hp} {x : Option Gst} (h : GRep K g F H x) : ∀ a ∈ gfp g, ∃ o, nTup o ∧ H a = some o ∧ F a = none := by
  intro p hp
  rcases List.mem_append.mp hp with hp | hp
  · obtain ⟨a, g2⟩ := g
    obtain ⟨h0, _⟩ := h
    match g2, x, h0 with
    | none, _, _ => cases hp
    | some (l, c), some s, h =>
      obtain ⟨h1, h2, h3, h4, h5⟩ := h
      simp [gfp0] at hp
      rcases hp with rfl | rfl
      · exact ⟨_, (fun _ z => by cases z), h1, h4⟩
      · exact ⟨_, (fun _ z => by cases z), h3, h5⟩
  · obtain ⟨ps, e⟩ := h.tb.at p hp
    exact ⟨_, (fun _ z => by cases z), e, h.tb.out p hp⟩
theorem GRep.code {K : PySem.W.Frag} {g : GA} {F H : Hp} {x : Option Gst} (h : GRep K g F H x) {c : Addr} {q : Str} (hc : H c = some (LamX.CodeO c q)) : c ∉ gfp g := by
  intro hp
  rcases List.mem_append.mp hp with hp | hp
  · obtain ⟨o, h1, _, _, h2⟩ := h.g0.on c hp
    rw [hc] at h1
    exact h2 _ _ (Option.some.inj h1).symm
  · obtain ⟨ps, e⟩ := h.tb.at c hp
    rw [hc] at e
    exact LamX.codeO_ne ps (Option.some.inj e)
theorem GRep0.mono {K : PySem.W.Frag} {g : GA} {F F' H H' : Hp} {x : Option Gst} (h : GRep0 K g F H x) (e : Ex F F') (h1 : ∀ a ∈ gfp0 g, F' a = none) (h2 : ∀ a ∈ gfp0 g, H' a = H a) : GRep0 K g F' H' x := by
  obtain ⟨a, g2⟩ := g
  match g2, x, h with
  | none, none, _ => trivial
  | some (l, c), some s, h =>
    obtain ⟨g1, g2, g3, g4, g5⟩ := h
    have ma : a ∈ gfp0 (a, some (l, c)) := by simp [gfp0]
    have ml : l ∈ gfp0 (a, some (l, c)) := by simp [gfp0]
    exact ⟨(h2 a ma).trans g1, ex_l e g2, (h2 l ml).trans g3, h1 a ma, h1 l ml⟩
theorem gfp_l {g : GA} {a : Addr} (h : a ∈ gfp0 g) : a ∈ gfp g := List.mem_append_left _ h
theorem gfp_r {g : GA} {a : Addr} (h : a ∈ tba) : a ∈ gfp g := List.mem_append_right _ h
theorem GRep.mono {K : PySem.W.Frag} {g : GA} {F F' H H' : Hp} {x : Option Gst} (h : GRep K g F H x) (e : Ex F F') (h1 : ∀ a ∈ gfp g, F' a = none) (h2 : ∀ a ∈ gfp g, H' a = H a)
    (hc : ∀ c q, H c = some (LamX.CodeO c q) → H' c = some (LamX.CodeO c q)) (hn : NoT F') : GRep K g F' H' x :=
  ⟨h.g0.mono e (fun a m => h1 a (gfp_l m)) (fun a m => h2 a (gfp_l m)), h.tb.step (fun a m => h1 a (gfp_r m)) (fun a m => h2 a (gfp_r m)) hc hn⟩
theorem code_upd {H : Hp} {p : Addr} {u o : HO} (h : H p = some u) (h2 : ∀ c q, u ≠ LamX.CodeO c q) : ∀ c q, H c = some (LamX.CodeO c q) → upd H p o c = some (LamX.CodeO c q) := fun c q e => by
  by_cases z : c = p
  · rw [z, h] at e; exact absurd (Option.some.inj e) (by intro y; exact h2 _ _ y)
  · rw [upd_ne z]; exact e
/-- slots: data | a list of one's own that may change | a dict of one's own with tuple keys -/
inductive Sl where
  | dat (d : D) | own (l : List D) | dic (l : List (List Int × D)) | dik (l : List (Int × D)) | clo
abbrev Sg := List (Option Sl)
def Sl.mut : Sl → Bool
  | .dat _ => false
  | .clo => false
  | _ => true
/-- the function object that a def was handed: its address, its code's, the code's name, and what was known when it was made -/
class Cb where
  ca : Addr
  cc : Addr
  cq : Str
  cF : Hp
  cs : Addr
variable [Cb]
def SlRep (K : PySem.W.Frag) (sa : Addr) (F H : Hp) (v : V) : Sl → Prop
  | .dat d => Rep K sa F v d
  | .own ds => ∃ p vs, v = .ref p ∧ H p = some (.lst vs) ∧ Reps K sa F vs ds ∧ F p = none
  | .dic kvs => ∃ p kv, v = .ref p ∧ H p = some (.dT kv) ∧ KRep K sa F kv kvs ∧ F p = none
  | .dik kvs => ∃ p kv, v = .ref p ∧ H p = some (.dK kv) ∧ KIs K sa F kv kvs ∧ F p = none
  | .clo => v = .ref Cb.ca ∧ sa = Cb.cs ∧ H Cb.cc = some (LamX.CodeO Cb.cc Cb.cq) ∧ Ex Cb.cF F

/-- a step that makes new things alone -/
structure Al (F H F' H' : Hp) : Prop where
  f : Ex F F'
  h : Ex H H'
  fh : Ex F' H'
  nw : ∀ a o, nTup o → H a = some o → F a = none → F' a = none
  nt : NoT F → NoT F'
theorem Al.refl {F H : Hp} (e : Ex F H) : Al F H F H := ⟨Ex.refl F, Ex.refl H, e, fun _ _ _ _ h => h, id⟩
theorem Al.trans {F H F1 H1 F2 H2 : Hp} (a : Al F H F1 H1) (b : Al F1 H1 F2 H2) : Al F H F2 H2 :=
  ⟨a.f.trans b.f, a.h.trans b.h, b.fh, fun p o t h n => b.nw p o t (a.h p o h) (a.nw p o t h n), fun h => b.nt (a.nt h)⟩
/-- a new object, known to all -/
theorem Al.new {F H : Hp} {p : Addr} {o : HO} (e : Ex F H) (h : H p = none) (nt : ∀ ps, o ≠ .tbl ps := by intro _ z; cases z) : Al F H (upd F p o) (upd H p o) :=
  ⟨Ex.new (e.back h), Ex.new h, e.both, fun a u _ ha n => by rw [upd_ne (ne_of_none ha h)]; exact n, fun h => h.upd nt⟩
/-- a new object, one's own -/
theorem Al.newO {F H : Hp} {p : Addr} {o : HO} (e : Ex F H) (h : H p = none) : Al F H F (upd H p o) :=
  ⟨Ex.refl F, Ex.new h, e.trans (Ex.new h), fun _ _ _ _ n => n, id⟩

structure Env (K : PySem.W.Frag) (g : GA) (Φ F0 F H : Hp) (τ : St) (σ : Sg) (x : Option Gst) : Prop where
  ex : Ex F H
  f0 : Ex F0 F
  fr : Ex Φ H
  dj : ∀ a o, nTup o → Φ a = some o → F0 a = none → F a = none
  len : τ.length = σ.length
  get : ∀ (i : Nat) s, σ[i]? = some (some s) → ∃ v, τ[i]? = some (some v) ∧ SlRep K (gsa g) F H v s
  own : ∀ (i : Nat) s p, σ[i]? = some (some s) → s.mut = true → τ[i]? = some (some (.ref p)) → Φ p = none ∧ p ∉ gfp g
  dis : ∀ (i j : Nat) s t v, σ[i]? = some (some s) → s.mut = true → σ[j]? = some (some t) → t.mut = true → τ[i]? = some (some v) → τ[j]? = some (some v) → i = j
  gr : GRep K g F H x
  gf : ∀ a ∈ gfp g, Φ a = none
  np : NoT Φ

/-- an address that nobody has -/
structure Fresh (g : GA) (Φ F : Hp) (τ : St) (σ : Sg) (p : Addr) : Prop where
  f : F p = none
  ph : Φ p = none
  g : p ∉ gfp g
  o : ∀ (i : Nat) s, σ[i]? = some (some s) → s.mut = true → τ[i]? ≠ some (some (.ref p))

section
variable {K : PySem.W.Frag} {g : GA} {Φ F0 F H F' H' : Hp} {τ : St} {σ : Sg} {x : Option Gst}
theorem SlRep.at {sa : Addr} {v : V} {s : Sl} (h : SlRep K sa F H v s) (m : s.mut = true) : ∃ p o, v = .ref p ∧ H p = some o ∧ F p = none := by
  cases s with
  | dat d => cases m
  | own ds => obtain ⟨p, vs, h1, h2, h3, h4⟩ := h; exact ⟨p, _, h1, h2, h4⟩
  | dic ds => obtain ⟨p, vs, h1, h2, h3, h4⟩ := h; exact ⟨p, _, h1, h2, h4⟩
  | dik ds => obtain ⟨p, vs, h1, h2, h3, h4⟩ := h; exact ⟨p, _, h1, h2, h4⟩
  | clo => cases m
theorem SlRep.kind {sa : Addr} {v : V} {s : Sl} (h : SlRep K sa F H v s) (m : s.mut = true) : ∃ p u, v = .ref p ∧ H p = some u ∧ (∀ ps, u ≠ .tbl ps) ∧ ∀ c q, u ≠ LamX.CodeO c q := by
  cases s with
  | dat d => cases m
  | own ds => obtain ⟨p, vs, h1, h2, h3, h4⟩ := h; exact ⟨p, _, h1, h2, (fun _ z => by cases z), fun _ _ z => by unfold LamX.CodeO at z; cases z⟩
  | dic ds => obtain ⟨p, vs, h1, h2, h3, h4⟩ := h; exact ⟨p, _, h1, h2, (fun _ z => by cases z), fun _ _ z => by unfold LamX.CodeO at z; cases z⟩
  | dik ds => obtain ⟨p, vs, h1, h2, h3, h4⟩ := h; exact ⟨p, _, h1, h2, (fun _ z => by cases z), fun _ _ z => by unfold LamX.CodeO at z; cases z⟩
  | clo => cases m
theorem SlRep.al {sa : Addr} {v : V} {s : Sl} (h : SlRep K sa F H v s) (a : Al F H F' H') : SlRep K sa F' H' v s := by
  cases s with
  | dat d => exact Rep.mono a.f h
  | own ds => obtain ⟨p, vs, h1, h2, h3, h4⟩ := h; exact ⟨p, vs, h1, a.h _ _ h2, h3.mono a.f, a.nw _ _ (fun _ z => by cases z) h2 h4⟩
  | dic ds => obtain ⟨p, vs, h1, h2, h3, h4⟩ := h; exact ⟨p, vs, h1, a.h _ _ h2, h3.mono a.f, a.nw _ _ (fun _ z => by cases z) h2 h4⟩
  | dik ds => obtain ⟨p, vs, h1, h2, h3, h4⟩ := h; exact ⟨p, vs, h1, a.h _ _ h2, h3.mono a.f, a.nw _ _ (fun _ z => by cases z) h2 h4⟩
  | clo => exact ⟨h.1, h.2.1, a.h _ _ h.2.2.1, h.2.2.2.trans a.f⟩
theorem Env.al (E : Env K g Φ F0 F H τ σ x) (a : Al F H F' H') : Env K g Φ F0 F' H' τ σ x where
  ex := a.fh
  f0 := E.f0.trans a.f
  fr := E.fr.trans a.h
  dj := fun p o t h1 h2 => a.nw p o t (E.fr p o h1) (E.dj p o t h1 h2)
  len := E.len
  get := fun i s h => by obtain ⟨v, h1, h2⟩ := E.get i s h; exact ⟨v, h1, h2.al a⟩
  own := E.own
  dis := E.dis
  gr := E.gr.mono a.f (fun p hp => by obtain ⟨o, t, h1, h2⟩ := E.gr.onT p hp; exact a.nw p o t h1 h2) (fun p hp => by obtain ⟨⟨o, h1⟩, h2⟩ := E.gr.on p hp; rw [h1]; exact a.h p o h1) (fun c q h => a.h c _ h) (a.nt E.gr.tb.nf)
  gf := E.gf
  np := E.np
theorem Env.fresh (E : Env K g Φ F0 F H τ σ x) {p : Addr} (h : H p = none) : Fresh g Φ F τ σ p where
  f := E.ex.back h
  ph := E.fr.back h
  g := fun hp => by obtain ⟨⟨o, h1⟩, _⟩ := E.gr.on p hp; rw [h] at h1; cases h1
  o := fun i s h1 h2 h3 => by
    obtain ⟨v, h4, h5⟩ := E.get i s h1
    obtain ⟨q, o, rfl, h6, _⟩ := h5.at h2
    rw [h3] at h4; cases h4; rw [h] at h6; cases h6
/-- what is one's own is told to all -/
theorem Env.tell (E : Env K g Φ F0 F H τ σ x) {p : Addr} {o : HO} (h : H p = some o) (fr : Fresh g Φ F τ σ p) (nt : ∀ ps, o ≠ .tbl ps := by intro _ z; cases z) : Env K g Φ F0 (upd F p o) H τ σ x where
  ex := E.ex.into h
  f0 := E.f0.trans (Ex.new fr.f)
  fr := E.fr
  dj := fun a u t h1 h2 => by rw [upd_ne (ne_of_none h1 fr.ph)]; exact E.dj a u t h1 h2
  len := E.len
  get := fun i s h1 => by
    obtain ⟨v, h2, h3⟩ := E.get i s h1
    refine ⟨v, h2, ?_⟩
    have e := Ex.new (o := o) fr.f
    cases s with
    | dat d => exact Rep.mono e h3
    | own ds =>
      obtain ⟨q, vs, rfl, b2, b3, b4⟩ := h3
      have hne : q ≠ p := fun z => fr.o i _ h1 rfl (by rw [h2, z])
      exact ⟨q, vs, rfl, b2, b3.mono e, by rw [upd_ne hne]; exact b4⟩
    | dic ds =>
      obtain ⟨q, vs, rfl, b2, b3, b4⟩ := h3
      have hne : q ≠ p := fun z => fr.o i _ h1 rfl (by rw [h2, z])
      exact ⟨q, vs, rfl, b2, b3.mono e, by rw [upd_ne hne]; exact b4⟩
    | dik ds =>
      obtain ⟨q, vs, rfl, b2, b3, b4⟩ := h3
      have hne : q ≠ p := fun z => fr.o i _ h1 rfl (by rw [h2, z])
      exact ⟨q, vs, rfl, b2, b3.mono e, by rw [upd_ne hne]; exact b4⟩
    | clo => exact ⟨h3.1, h3.2.1, h3.2.2.1, h3.2.2.2.trans e⟩
  own := E.own
  dis := E.dis
  gr := E.gr.mono (Ex.new fr.f) (fun a ha => by rw [upd_ne (fun z => fr.g (by rw [← z]; exact ha))]; exact (E.gr.on a ha).2) (fun _ _ => rfl) (fun _ _ h => h) (E.gr.tb.nf.upd nt)
  gf := E.gf
  np := E.np
theorem get_set {α : Type} {l : List α} {i j : Nat} {a b : α} (h : (l.set i a)[j]? = some b) : (i = j ∧ b = a ∧ i < l.length) ∨ (i ≠ j ∧ l[j]? = some b) := by
  rw [List.getElem?_set] at h
  by_cases c : i = j
  · subst c
    rw [if_pos rfl] at h
    by_cases d : i < l.length
    · rw [if_pos d] at h; cases h; exact .inl ⟨rfl, rfl, d⟩
    · rw [if_neg d] at h; cases h
  · rw [if_neg c] at h; exact .inr ⟨c, h⟩
theorem get_set' {α : Type} {l : List α} {i j : Nat} {a b : α} (h : l[j]? = some b) (c : i ≠ j) : (l.set i a)[j]? = some b := by
  rw [List.getElem?_set, if_neg c]; exact h
/-- a slot gets data -/
theorem Env.set (E : Env K g Φ F0 F H τ σ x) (i : Nat) {v : V} {d : D} (r : Rep K (gsa g) F v d) : Env K g Φ F0 F H (τ.set i (some v)) (σ.set i (some (.dat d))) x where
  ex := E.ex
  f0 := E.f0
  fr := E.fr
  dj := E.dj
  len := by rw [List.length_set, List.length_set]; exact E.len
  get := fun j s h => by
    rcases get_set h with ⟨rfl, e, hi⟩ | ⟨c, h1⟩
    · cases e; exact ⟨v, by rw [List.getElem?_set, if_pos rfl, if_pos (by rw [E.len]; exact hi)], r⟩
    · obtain ⟨u, h2, h3⟩ := E.get j s h1; exact ⟨u, get_set' h2 c, h3⟩
  own := fun j s p h m t => by
    rcases get_set h with ⟨rfl, e, hi⟩ | ⟨c, h1⟩
    · cases e; cases m
    · rcases get_set t with ⟨c', _⟩ | ⟨_, t1⟩
      · exact absurd c' c
      · exact E.own j s p h1 m t1
  dis := fun j k s t u h m h' m' t1 t2 => by
    rcases get_set h with ⟨rfl, e, hi⟩ | ⟨c, h1⟩
    · cases e; cases m
    · rcases get_set h' with ⟨rfl, e, hi⟩ | ⟨c', h1'⟩
      · cases e; cases m'
      · rcases get_set t1 with ⟨z, _⟩ | ⟨_, t1⟩
        · exact absurd z c
        · rcases get_set t2 with ⟨z, _⟩ | ⟨_, t2⟩
          · exact absurd z c'
          · exact E.dis j k s t u h1 m h1' m' t1 t2
  gr := E.gr
  gf := E.gf
  np := E.np
/-- a slot gets a thing of its own -/
theorem Env.setO (E : Env K g Φ F0 F H τ σ x) (i : Nat) {p : Addr} {s : Sl} (m : s.mut = true) (fr : Fresh g Φ F τ σ p) (r : SlRep K (gsa g) F H (.ref p) s) : Env K g Φ F0 F H (τ.set i (some (.ref p))) (σ.set i (some s)) x where
  ex := E.ex
  f0 := E.f0
  fr := E.fr
  dj := E.dj
  len := by rw [List.length_set, List.length_set]; exact E.len
  get := fun j s h => by
    rcases get_set h with ⟨rfl, e, hi⟩ | ⟨c, h1⟩
    · cases e; exact ⟨_, by rw [List.getElem?_set, if_pos rfl, if_pos (by rw [E.len]; exact hi)], r⟩
    · obtain ⟨u, h2, h3⟩ := E.get j s h1; exact ⟨u, get_set' h2 c, h3⟩
  own := fun j s q h m t => by
    rcases get_set t with ⟨rfl, e, hi⟩ | ⟨c, t1⟩
    · cases e; exact ⟨fr.ph, fr.g⟩
    · rcases get_set h with ⟨c', _⟩ | ⟨_, h1⟩
      · exact absurd c' c
      · exact E.own j s q h1 m t1
  dis := fun j k s t u h m h' m' t1 t2 => by
    rcases get_set h with ⟨rfl, e, hi⟩ | ⟨c, h1⟩
    · rcases get_set h' with ⟨rfl, e, hi⟩ | ⟨c', h1'⟩
      · rfl
      · rcases get_set t1 with ⟨_, z, _⟩ | ⟨z, _⟩
        · cases z
          rcases get_set t2 with ⟨z, _⟩ | ⟨_, t2⟩
          · exact absurd z c'
          · exact absurd t2 (fr.o k t h1' m')
        · exact absurd rfl z
    · rcases get_set h' with ⟨rfl, e, hi⟩ | ⟨c', h1'⟩
      · rcases get_set t2 with ⟨_, z, _⟩ | ⟨z, _⟩
        · cases z
          rcases get_set t1 with ⟨z, _⟩ | ⟨_, t1⟩
          · exact absurd z c
          · exact absurd t1 (fr.o j s h1 m)
        · exact absurd rfl z
      · rcases get_set t1 with ⟨z, _⟩ | ⟨_, t1⟩
        · exact absurd z c
        · rcases get_set t2 with ⟨z, _⟩ | ⟨_, t2⟩
          · exact absurd z c'
          · exact E.dis j k s t u h1 m h1' m' t1 t2
  gr := E.gr
  gf := E.gf
  np := E.np
/-- a thing of one's own changes -/
theorem Env.write (E : Env K g Φ F0 F H τ σ x) (i : Nat) {p : Addr} {s s' : Sl} {o : HO} (hs : σ[i]? = some (some s)) (ht : τ[i]? = some (some (.ref p))) (m : s.mut = true) (m' : s'.mut = true) (hF : F p = none)
    (r : SlRep K (gsa g) F (upd H p o) (.ref p) s') : Env K g Φ F0 F (upd H p o) τ (σ.set i (some s')) x where
  ex := E.ex.mut hF
  f0 := E.f0
  fr := E.fr.mut (E.own i s p hs m ht).1
  dj := E.dj
  len := by rw [List.length_set]; exact E.len
  get := fun j t h => by
    rcases get_set h with ⟨rfl, e, hi⟩ | ⟨c, h1⟩
    · cases e; exact ⟨_, ht, r⟩
    · obtain ⟨u, h2, h3⟩ := E.get j t h1
      refine ⟨u, h2, ?_⟩
      cases t with
      | dat d => exact h3
      | own ds =>
        obtain ⟨q, vs, rfl, b2, b3, b4⟩ := h3
        have hne : q ≠ p := fun z => c (E.dis i j s _ (.ref p) hs m h1 rfl ht (by rw [h2, z]))
        exact ⟨q, vs, rfl, by rw [upd_ne hne]; exact b2, b3, b4⟩
      | dic ds =>
        obtain ⟨q, vs, rfl, b2, b3, b4⟩ := h3
        have hne : q ≠ p := fun z => c (E.dis i j s _ (.ref p) hs m h1 rfl ht (by rw [h2, z]))
        exact ⟨q, vs, rfl, by rw [upd_ne hne]; exact b2, b3, b4⟩
      | dik ds =>
        obtain ⟨q, vs, rfl, b2, b3, b4⟩ := h3
        have hne : q ≠ p := fun z => c (E.dis i j s _ (.ref p) hs m h1 rfl ht (by rw [h2, z]))
        exact ⟨q, vs, rfl, by rw [upd_ne hne]; exact b2, b3, b4⟩
      | clo =>
        obtain ⟨v, a, b⟩ := E.get i s hs
        obtain ⟨q, u, e1, e2, e3, e4⟩ := b.kind m
        rw [ht] at a; cases a; cases e1
        exact ⟨h3.1, h3.2.1, code_upd e2 e4 _ _ h3.2.2.1, h3.2.2.2⟩
  own := fun j t q h mm tt => by
    rcases get_set h with ⟨rfl, e, hi⟩ | ⟨c, h1⟩
    · exact E.own i s q hs m tt
    · exact E.own j t q h1 mm tt
  dis := fun j k t1 t2 u h mm h' mm' q1 q2 => by
    rcases get_set h with ⟨rfl, e, hi⟩ | ⟨c, h1⟩
    · rcases get_set h' with ⟨rfl, e', hi'⟩ | ⟨c', h1'⟩
      · rfl
      · exact E.dis i k s t2 u hs m h1' mm' q1 q2
    · rcases get_set h' with ⟨rfl, e', hi'⟩ | ⟨c', h1'⟩
      · exact E.dis j i t1 s u h1 mm hs m q1 q2
      · exact E.dis j k t1 t2 u h1 mm h1' mm' q1 q2
  gr := E.gr.mono (Ex.refl F) (fun a ha => (E.gr.on a ha).2) (fun a ha => upd_ne (fun z => (E.own i s p hs m ht).2 (by rw [← z]; exact ha)))
    (by
      obtain ⟨v, a, b⟩ := E.get i s hs
      obtain ⟨q, u, e1, e2, e3, e4⟩ := b.kind m
      rw [ht] at a; cases a; cases e1
      exact code_upd e2 e4) E.gr.tb.nf
  gf := E.gf
  np := E.np
/-- what is one's own is told to all, and its slot holds data from then on -/
theorem Env.freeze (E : Env K g Φ F0 F H τ σ x) {i : Nat} {ds : List D} (hs : σ[i]? = some (some (.own ds))) : ∃ F', Ex F F' ∧ Env K g Φ F0 F' H τ (σ.set i (some (.dat (.lst ds)))) x := by
  obtain ⟨v, ht, p, vs, rfl, hp, hr, hF⟩ := E.get i _ hs
  have hm : Φ p = none ∧ p ∉ gfp g := E.own i _ p hs rfl ht
  have e : Ex F (upd F p (.lst vs)) := Ex.new hF
  refine ⟨upd F p (.lst vs), e, ?_⟩
  have hi : i < σ.length := by
    rcases Nat.lt_or_ge i σ.length with h | h
    · exact h
    · rw [List.getElem?_eq_none h] at hs; cases hs
  exact {
    ex := E.ex.into hp
    f0 := E.f0.trans e
    fr := E.fr
    dj := fun a u t h1 h2 => by rw [upd_ne (ne_of_none h1 hm.1)]; exact E.dj a u t h1 h2
    len := by rw [List.length_set]; exact E.len
    get := fun j s h => by
      rcases get_set h with ⟨rfl, e', hi⟩ | ⟨c, h1⟩
      · cases e'; exact ⟨_, ht, .lst (SqL.of upd_same) (hr.mono e)⟩
      · obtain ⟨u, h2, h3⟩ := E.get j s h1
        refine ⟨u, h2, ?_⟩
        cases s with
        | dat d => exact Rep.mono e h3
        | own ds =>
          obtain ⟨q, vs', rfl, b2, b3, b4⟩ := h3
          have hne : q ≠ p := fun z => c (E.dis i j _ _ (.ref p) hs rfl h1 rfl ht (by rw [h2, z]))
          exact ⟨q, vs', rfl, b2, b3.mono e, by rw [upd_ne hne]; exact b4⟩
        | dic ds =>
          obtain ⟨q, vs', rfl, b2, b3, b4⟩ := h3
          have hne : q ≠ p := fun z => c (E.dis i j _ _ (.ref p) hs rfl h1 rfl ht (by rw [h2, z]))
          exact ⟨q, vs', rfl, b2, b3.mono e, by rw [upd_ne hne]; exact b4⟩
        | dik ds =>
          obtain ⟨q, vs', rfl, b2, b3, b4⟩ := h3
          have hne : q ≠ p := fun z => c (E.dis i j _ _ (.ref p) hs rfl h1 rfl ht (by rw [h2, z]))
          exact ⟨q, vs', rfl, b2, b3.mono e, by rw [upd_ne hne]; exact b4⟩
        | clo => exact ⟨h3.1, h3.2.1, h3.2.2.1, h3.2.2.2.trans e⟩
    own := fun j s q h m t => by
      rcases get_set h with ⟨rfl, e', hi⟩ | ⟨c, h1⟩
      · cases e'; cases m
      · exact E.own j s q h1 m t
    dis := fun j k s t u h m h' m' t1 t2 => by
      rcases get_set h with ⟨rfl, e', hi⟩ | ⟨c, h1⟩
      · cases e'; cases m
      · rcases get_set h' with ⟨rfl, e', hi⟩ | ⟨c', h1'⟩
        · cases e'; cases m'
        · exact E.dis j k s t u h1 m h1' m' t1 t2
    gr := E.gr.mono e (fun a ha => by rw [upd_ne (fun z => hm.2 (by rw [← z]; exact ha))]; exact (E.gr.on a ha).2) (fun _ _ => rfl) (fun _ _ h => h) (E.gr.tb.nf.upd (fun _ z => by cases z))
    gf := E.gf
    np := E.np }
/-- what a call leaves: all but the drawing state stands -/
structure AlG (K : PySem.W.Frag) (g : GA) (F H F' H' : Hp) (x' : Option Gst) : Prop where
  f : Ex F F'
  fh : Ex F' H'
  h : ∀ b o, b ∉ gfp g → (∀ ps, o ≠ .tbl ps) → H b = some o → H' b = some o
  nw : ∀ a o, nTup o → (∀ ps, o ≠ .tbl ps) → H a = some o → F a = none → F' a = none
  gr : GRep K g F' H' x'
theorem Env.alG {x' : Option Gst} (E : Env K g Φ F0 F H τ σ x) (a : AlG K g F H F' H' x') : Env K g Φ F0 F' H' τ σ x' where
  ex := a.fh
  f0 := E.f0.trans a.f
  fr := fun b o h => a.h b o (fun m => by rw [E.gf b m] at h; cases h) (fun ps z => E.np b ps (by rw [← z]; exact h)) (E.fr b o h)
  dj := fun p o t h1 h2 => a.nw p o t (fun ps z => E.np p ps (by rw [← z]; exact h1)) (E.fr p o h1) (E.dj p o t h1 h2)
  len := E.len
  get := fun i s h => by
    obtain ⟨v, h1, h2⟩ := E.get i s h
    refine ⟨v, h1, ?_⟩
    cases s with
    | dat d => exact Rep.mono a.f h2
    | own ds =>
      obtain ⟨p, vs, rfl, b2, b3, b4⟩ := h2
      exact ⟨p, vs, rfl, a.h _ _ (E.own i _ p h rfl h1).2 (fun _ z => by cases z) b2, b3.mono a.f, a.nw _ _ (fun _ z => by cases z) (fun _ z => by cases z) b2 b4⟩
    | dic ds =>
      obtain ⟨p, vs, rfl, b2, b3, b4⟩ := h2
      exact ⟨p, vs, rfl, a.h _ _ (E.own i _ p h rfl h1).2 (fun _ z => by cases z) b2, b3.mono a.f, a.nw _ _ (fun _ z => by cases z) (fun _ z => by cases z) b2 b4⟩
    | dik ds =>
      obtain ⟨p, vs, rfl, b2, b3, b4⟩ := h2
      exact ⟨p, vs, rfl, a.h _ _ (E.own i _ p h rfl h1).2 (fun _ z => by cases z) b2, b3.mono a.f, a.nw _ _ (fun _ z => by cases z) (fun _ z => by cases z) b2 b4⟩
    | clo => exact ⟨h2.1, h2.2.1, a.h _ _ (E.gr.code h2.2.2.1) (fun ps => LamX.codeO_ne ps) h2.2.2.1, h2.2.2.2.trans a.f⟩
  own := E.own
  dis := E.dis
  gr := a.gr
  gf := E.gf
  np := E.np
/-- what is one's own and in no slot stands in the frame -/
theorem Env.lift (E : Env K g Φ F0 F H τ σ x) {p : Addr} {o : HO} (h : H p = some o) (f : Fresh g Φ F τ σ p) (nt : ∀ ps, o ≠ .tbl ps := by intro _ z; cases z) : Env K g (upd Φ p o) F0 F H τ σ x where
  ex := E.ex
  f0 := E.f0
  fr := E.fr.into h
  dj := fun a u t h1 h2 => by
    by_cases c : a = p
    · subst c; exact f.f
    · rw [upd_ne c] at h1; exact E.dj a u t h1 h2
  len := E.len
  get := E.get
  own := fun i s q h1 m t => by
    have hne : q ≠ p := fun z => f.o i s h1 m (by rw [t, z])
    rw [upd_ne hne]; exact E.own i s q h1 m t
  dis := E.dis
  gr := E.gr
  gf := fun a ha => by
    have hne : a ≠ p := fun z => f.g (by rw [← z]; exact ha)
    rw [upd_ne hne]; exact E.gf a ha
  np := E.np.upd nt
theorem Env.drop {Φ' : Hp} (E : Env K g Φ' F0 F H τ σ x) (e : Ex Φ Φ') : Env K g Φ F0 F H τ σ x where
  ex := E.ex
  f0 := E.f0
  fr := e.trans E.fr
  dj := fun a u t h1 h2 => E.dj a u t (e a u h1) h2
  len := E.len
  get := E.get
  own := fun i s q h1 m t => ⟨e.back (E.own i s q h1 m t).1, (E.own i s q h1 m t).2⟩
  dis := E.dis
  gr := E.gr
  gf := fun a ha => e.back (E.gf a ha)
  np := E.np.back e
end
end Yx

namespace Yx
variable [Tb] [Cb]
open PySem L2

/-- what an expression gives: a value and the drawing state, an exception, or nothing that is told -/
inductive R (α : Type) where
  | ok (a : α) (x : Option Gst) | exc (C : Addr) (y : Option (Str × D)) (x : Option Gst) | bad
def R.bind {α β : Type} (r : R α) (k : α → Option Gst → R β) : R β :=
  match r with
  | .ok a x => k a x
  | .exc C y x => .exc C y x
  | .bad => .bad
def R.ofo {α : Type} (o : Option α) (x : Option Gst) : R α :=
  match o with
  | some a => .ok a x
  | none => .bad
@[simp] theorem bind_ok {α β : Type} (a : α) (x : Option Gst) (k : α → Option Gst → R β) : (R.ok a x).bind k = k a x := rfl
@[simp] theorem bind_exc {α β : Type} (C : Addr) (y : Option (Str × D)) (x : Option Gst) (k : α → Option Gst → R β) : (R.exc C y x).bind k = .exc C y x := rfl
@[simp] theorem bind_bad {α β : Type} (k : α → Option Gst → R β) : (R.bad).bind k = .bad := rfl
@[simp] theorem ofo_some {α : Type} (a : α) (x : Option Gst) : R.ofo (some a) x = .ok a x := rfl
@[simp] theorem ofo_none {α : Type} (x : Option Gst) : R.ofo (none : Option α) x = .bad := rfl

/-- the exception's own dict -/
def XRep (K : PySem.W.Frag) (sa : Addr) (F : Hp) (dd : Option Addr) (y : Option (Str × D)) : Prop :=
  match y with
  | none => dd = none
  | some (f, d) => ∃ a v, dd = some a ∧ F a = some (.xd [(f, v)]) ∧ Rep K sa F v d

/-- an assumption about the ground -/
structure Bs where
  p : GA → L2.St → Hp → Prop
  mono : ∀ g τ F F', Ex F F' → p g τ F → p g τ F'
def B0 : Bs := ⟨fun _ _ _ => True, fun _ _ _ _ _ _ => trivial⟩

section
variable (K : PySem.W.Frag) (g : GA) (Φ F0 : Hp) (W : WX) (F : Hp) (τ : St) (σ : Sg)
/-- what must follow of an exception -/
def PostX (C : Addr) (y : Option (Str × D)) (x : Option Gst) : Prop := ∀ F' H' dd, Ex F F' → Env K g Φ F0 F' H' τ σ x → XRep K (gsa g) F' dd y → W (.ref C) dd τ H'
def Post {α : Type} (q : α → Option Gst → Prop) : R α → Prop
  | .ok d x => q d x
  | .exc C y x => PostX K g Φ F0 W F τ σ C y x
  | .bad => False
/-- .. of a value -/
def QE (Q : VK) (d : D) (x : Option Gst) : Prop := ∀ v F' H', Ex F F' → Env K g Φ F0 F' H' τ σ x → Rep K (gsa g) F' v d → Q v H'
def QA (Q : List V → Hp → Prop) (ds : List D) (x : Option Gst) : Prop := ∀ vs F' H', Ex F F' → Env K g Φ F0 F' H' τ σ x → Reps K (gsa g) F' vs ds → Q vs H'
def QT (Q : Bool → Hp → Prop) (b : Bool) (x : Option Gst) : Prop := ∀ F' H', Ex F F' → Env K g Φ F0 F' H' τ σ x → Q b H'
/-- a list or a tuple to be read: (true: a tuple) -/
def QS (Q : VK) (b : Bool × List D) (x : Option Gst) : Prop := ∀ p vs F' H', Ex F F' → Env K g Φ F0 F' H' τ σ x → (if b.1 = true then SqT K H' p vs else SqL K H' p vs) → Reps K (gsa g) F' vs b.2 → Q (.ref p) H'
/-- a new list -/
def QN (Q : VK) (ds : List D) (x : Option Gst) : Prop := ∀ p vs F' H', Ex F F' → Env K g Φ F0 F' H' τ σ x → H' p = some (.lst vs) → Fresh g Φ F' τ σ p → Reps K (gsa g) F' vs ds → Q (.ref p) H'
end

section
variable {K : PySem.W.Frag} {g : GA} {Φ F0 : Hp} {W : WX} {F F1 : Hp} {τ : St} {σ : Sg}
theorem PostX.mono {C : Addr} {y : Option (Str × D)} {x : Option Gst} (e : Ex F F1) (h : PostX K g Φ F0 W F τ σ C y x) : PostX K g Φ F0 W F1 τ σ C y x := fun F' H' dd e1 E r => h F' H' dd (e.trans e1) E r
/-- one part, then the rest -/
theorem Post.step {α β : Type} {r : R α} {k : α → Option Gst → R β} {q : β → Option Gst → Prop} {q1 : α → Option Gst → Prop} (h : Post K g Φ F0 W F τ σ q (r.bind k)) (hq : ∀ a x, Post K g Φ F0 W F τ σ q (k a x) → q1 a x) : Post K g Φ F0 W F τ σ q1 r := by
  cases r with
  | ok a x => exact hq a x h
  | exc C y x => exact h
  | bad => exact h
theorem Post.mono {α : Type} {q q1 : α → Option Gst → Prop} {r : R α} (e : Ex F F1) (h : Post K g Φ F0 W F τ σ q r) (hq : ∀ a x, q a x → q1 a x) : Post K g Φ F0 W F1 τ σ q1 r := by
  cases r with
  | ok a x => exact hq a x h
  | exc C y x => exact PostX.mono e h
  | bad => exact h
theorem QE.mono {Q : VK} {d : D} {x : Option Gst} (e : Ex F F1) (h : QE K g Φ F0 F τ σ Q d x) : QE K g Φ F0 F1 τ σ Q d x := fun v F' H' e1 E r => h v F' H' (e.trans e1) E r
theorem QA.mono {Q : List V → Hp → Prop} {d : List D} {x : Option Gst} (e : Ex F F1) (h : QA K g Φ F0 F τ σ Q d x) : QA K g Φ F0 F1 τ σ Q d x := fun v F' H' e1 E r => h v F' H' (e.trans e1) E r
theorem QT.mono {Q : Bool → Hp → Prop} {d : Bool} {x : Option Gst} (e : Ex F F1) (h : QT K g Φ F0 F τ σ Q d x) : QT K g Φ F0 F1 τ σ Q d x := fun F' H' e1 E => h F' H' (e.trans e1) E
theorem QS.mono {Q : VK} {d : Bool × List D} {x : Option Gst} (e : Ex F F1) (h : QS K g Φ F0 F τ σ Q d x) : QS K g Φ F0 F1 τ σ Q d x := fun p vs F' H' e1 E s r => h p vs F' H' (e.trans e1) E s r
theorem QN.mono {Q : VK} {d : List D} {x : Option Gst} (e : Ex F F1) (h : QN K g Φ F0 F τ σ Q d x) : QN K g Φ F0 F1 τ σ Q d x := fun p vs F' H' e1 E s f r => h p vs F' H' (e.trans e1) E s f r
end

/-! ### the sound things -/
structure SE (K : PySem.W.Frag) (B : Bs) where
  t : WX → TE
  f : Sg → Option Gst → R D
  ok : ∀ g Φ F0 W F H τ σ x Q, B.p g τ F → Env K g Φ F0 F H τ σ x → Post K g Φ F0 W F τ σ (QE K g Φ F0 F τ σ Q) (f σ x) → t W τ H Q
structure SA (K : PySem.W.Frag) (B : Bs) where
  t : WX → TA
  f : Sg → Option Gst → R (List D)
  ok : ∀ g Φ F0 W F H τ σ x Q, B.p g τ F → Env K g Φ F0 F H τ σ x → Post K g Φ F0 W F τ σ (QA K g Φ F0 F τ σ Q) (f σ x) → t W τ H Q
structure ST (K : PySem.W.Frag) (B : Bs) where
  t : WX → TT
  f : Sg → Option Gst → R Bool
  ok : ∀ g Φ F0 W F H τ σ x Q, B.p g τ F → Env K g Φ F0 F H τ σ x → Post K g Φ F0 W F τ σ (QT K g Φ F0 F τ σ Q) (f σ x) → t W τ H Q
structure SQ (K : PySem.W.Frag) (B : Bs) where
  t : WX → TE
  f : Sg → Option Gst → R (Bool × List D)
  ok : ∀ g Φ F0 W F H τ σ x Q, B.p g τ F → Env K g Φ F0 F H τ σ x → Post K g Φ F0 W F τ σ (QS K g Φ F0 F τ σ Q) (f σ x) → t W τ H Q
structure SN (K : PySem.W.Frag) (B : Bs) where
  t : WX → TE
  f : Sg → Option Gst → R (List D)
  ok : ∀ g Φ F0 W F H τ σ x Q, B.p g τ F → Env K g Φ F0 F H τ σ x → Post K g Φ F0 W F τ σ (QN K g Φ F0 F τ σ Q) (f σ x) → t W τ H Q

/-! ### operators -/
structure Op2 (K : PySem.W.Frag) where
  r : R2
  f : D → D → Option D
  ok : ∀ sa F H v1 v2 d1 d2 d (Q : VK), Ex F H → Rep K sa F v1 d1 → Rep K sa F v2 d2 → f d1 d2 = some d → (∀ v F' H', Al F H F' H' → Rep K sa F' v d → Q v H') → r v1 v2 H Q
structure Op1 (K : PySem.W.Frag) where
  r : V → Hp → VK → Prop
  f : D → Option D
  ok : ∀ sa F H v1 d1 d (Q : VK), Ex F H → Rep K sa F v1 d1 → f d1 = some d → (∀ v F' H', Al F H F' H' → Rep K sa F' v d → Q v H') → r v1 H Q
/-- a built-in on values -/
structure OpC (K : PySem.W.Frag) where
  r : List V → Hp → VK → Prop
  f : List D → Option D
  ok : ∀ sa F H vs ds d (Q : VK), Ex F H → Reps K sa F vs ds → f ds = some d → (∀ v F' H', Al F H F' H' → Rep K sa F' v d → Q v H') → r vs H Q
/-- a built-in on one list or tuple -/
structure OpS (K : PySem.W.Frag) where
  r : List V → Hp → VK → Prop
  f : Bool → List D → Option D
  ok : ∀ sa F H b p vs ds d (Q : VK), Ex F H → (if b = true then SqT K H p vs else SqL K H p vs) → Reps K sa F vs ds → f b ds = some d → (∀ v F' H', Al F H F' H' → Rep K sa F' v d → Q v H') → r [.ref p] H Q
/-- .. that makes a new list -/
structure OpN (K : PySem.W.Frag) where
  r : List V → Hp → VK → Prop
  f : Bool → List D → Option (List D)
  ok : ∀ sa F H b p vs ds es (Q : VK), Ex F H → (if b = true then SqT K H p vs else SqL K H p vs) → Reps K sa F vs ds → f b ds = some es →
    (∀ q ws H', H q = none → H' = upd H q (.lst ws) → Reps K sa F ws es → Q (.ref q) H') → r [.ref p] H Q

section
variable {K : PySem.W.Frag} {B : Bs}
/-- the state from a name -/
def sget (σ : Sg) (i : Nat) : Option D :=
  match σ[i]? with
  | some (some (.dat d)) => some d
  | _ => none
theorem sget_some {σ : Sg} {i : Nat} {d : D} (h : sget σ i = some d) : σ[i]? = some (some (.dat d)) := by
  unfold sget at h
  split at h
  · rename_i d' e; cases h; exact e
  · cases h
def sown (σ : Sg) (i : Nat) : Option (List D) :=
  match σ[i]? with
  | some (some (.own d)) => some d
  | _ => none
theorem sown_some {σ : Sg} {i : Nat} {d : List D} (h : sown σ i = some d) : σ[i]? = some (some (.own d)) := by
  unfold sown at h
  split at h
  · rename_i d' e; cases h; exact e
  · cases h
theorem ofo_bad {α : Type} {K : PySem.W.Frag} {g : GA} {Φ F0 : Hp} {W : WX} {F : Hp} {τ : St} {σ : Sg} {q : α → Option Gst → Prop} {o : Option α} {x : Option Gst} (h : Post K g Φ F0 W F τ σ q (R.ofo o x)) : ∃ a, o = some a ∧ q a x := by
  cases o with
  | none => exact h.elim
  | some a => exact ⟨a, rfl, h⟩

def SE.var (i : Nat) : SE K B where
  t := fun _ => tVar i
  f := fun σ x => R.ofo (sget σ i) x
  ok := fun g Φ F0 W F H τ σ x Q _ E h => by
    obtain ⟨d, e, q⟩ := ofo_bad h
    obtain ⟨v, h1, h2⟩ := E.get i _ (sget_some e)
    exact ⟨v, h1, q v F H (Ex.refl F) E h2⟩
/-- a constant -/
def cV : D → Option V
  | .non => some .non
  | .bl b => some (.bl b)
  | .int i => some (.int i)
  | .str x => some (.str x)
  | .ref a => some (.ref a)
  | _ => none
theorem cV_rep {sa : Addr} {F : Hp} {d : D} {v : V} (h : cV d = some v) : Rep K sa F v d := by
  cases d <;> simp [cV] at h <;> subst h <;> constructor
def SE.con (v : V) (d : D) (h : cV d = some v) : SE K B where
  t := fun _ => tC v
  f := fun _ x => .ok d x
  ok := fun g Φ F0 W F H τ σ x Q _ E q => q v F H (Ex.refl F) E (cV_rep h)
def SE.int (i : Int) : SE K B := SE.con (.int i) (.int i) rfl
def SE.bl (b : Bool) : SE K B := SE.con (.bl b) (.bl b) rfl
def SE.non : SE K B := SE.con .non .non rfl
def SE.str (z : Str) : SE K B := SE.con (.str z) (.str z) rfl
def SE.ref (a : Addr) : SE K B := SE.con (.ref a) (.ref a) rfl

def SE.bin (o : Op2 K) (a b : SE K B) : SE K B where
  t := fun W => tOp o.r (a.t W) (b.t W)
  f := fun σ x => (a.f σ x).bind fun d1 x1 => (b.f σ x1).bind fun d2 x2 => R.ofo (o.f d1 d2) x2
  ok := fun g Φ F0 W F H τ σ x Q hB E h => by
    refine a.ok g Φ F0 W F H τ σ x _ hB E (Post.step h fun d1 x1 h1 v1 F1 H1 e1 E1 r1 => ?_)
    refine b.ok g Φ F0 W F1 H1 τ σ x1 _ (B.mono _ _ _ _ e1 hB) E1 (Post.mono e1 (Post.step h1 fun d2 x2 h2 => h2) fun d2 x2 h2 v2 F2 H2 e2 E2 r2 => ?_)
    obtain ⟨d, ed, q⟩ := ofo_bad h2
    exact o.ok (gsa g) F2 H2 v1 v2 d1 d2 d Q E2.ex (r1.mono e2) r2 ed fun v F' H' al r => q v F' H' ((e1.trans e2).trans al.f) (E2.al al) r
def SE.un (o : Op1 K) (a : SE K B) : SE K B where
  t := fun W => tUn o.r (a.t W)
  f := fun σ x => (a.f σ x).bind fun d1 x1 => R.ofo (o.f d1) x1
  ok := fun g Φ F0 W F H τ σ x Q hB E h => by
    refine a.ok g Φ F0 W F H τ σ x _ hB E (Post.step h fun d1 x1 h1 v1 F1 H1 e1 E1 r1 => ?_)
    obtain ⟨d, ed, q⟩ := ofo_bad h1
    exact o.ok (gsa g) F1 H1 v1 d1 d Q E1.ex r1 ed fun v F' H' al r => q v F' H' (e1.trans al.f) (E1.al al) r
/-- a op b op' c -/
def SE.chain (o o' : Op2 K) (a b c : SE K B) : SE K B where
  t := fun W => tChain o.r o'.r (a.t W) (b.t W) (c.t W)
  f := fun σ x => (a.f σ x).bind fun d1 x1 => (b.f σ x1).bind fun d2 x2 => match o.f d1 d2 with
    | some (.bl true) => (c.f σ x2).bind fun d3 x3 => R.ofo (o'.f d2 d3) x3
    | some (.bl false) => .ok (.bl false) x2
    | _ => .bad
  ok := fun g Φ F0 W F H τ σ x Q hB E h => by
    refine a.ok g Φ F0 W F H τ σ x _ hB E (Post.step h fun d1 x1 h1 v1 F1 H1 e1 E1 r1 => ?_)
    refine b.ok g Φ F0 W F1 H1 τ σ x1 _ (B.mono _ _ _ _ e1 hB) E1 (Post.mono e1 (Post.step h1 fun d2 x2 h2 => h2) fun d2 x2 h2 v2 F2 H2 e2 E2 r2 => ?_)
    cases eo : o.f d1 d2 with
    | none => simp only [eo] at h2; exact h2.elim
    | some z =>
      simp only [eo] at h2
      refine o.ok (gsa g) F2 H2 v1 v2 d1 d2 z _ E2.ex (r1.mono e2) r2 eo fun v F3 H3 al r => ?_
      have E3 := E2.al al
      have e3 := (e1.trans e2).trans al.f
      cases z with
      | bl k =>
        cases r
        refine ⟨k, rfl, ?_⟩
        cases k with
        | false => simp only at h2; simp only [Bool.false_eq_true, if_false]; exact h2 _ F3 H3 e3 E3 .bl
        | true =>
          simp only at h2; simp only [if_true]
          refine c.ok g Φ F0 W F3 H3 τ σ x2 _ (B.mono _ _ _ _ e3 hB) E3 (Post.mono e3 (Post.step h2 fun d3 x3 h3 => h3) fun d3 x3 h3 v3 F4 H4 e4 E4 r4 => ?_)
          obtain ⟨d, ed, q⟩ := ofo_bad h3
          exact o'.ok (gsa g) F4 H4 v2 v3 d2 d3 d Q E4.ex (r2.mono (al.f.trans e4)) r4 ed fun v F' H' al2 r => q v F' H' ((e3.trans e4).trans al2.f) (E4.al al2) r
      | _ => simp only at h2; exact h2.elim

/-! ### arguments -/
def SA.nil : SA K B where
  t := fun _ => tNil
  f := fun _ x => .ok [] x
  ok := fun g Φ F0 W F H τ σ x Q _ E q => q [] F H (Ex.refl F) E .nil
def SA.cons (a : SE K B) (r : SA K B) : SA K B where
  t := fun W => tCons (a.t W) (r.t W)
  f := fun σ x => (a.f σ x).bind fun d1 x1 => (r.f σ x1).bind fun ds x2 => .ok (d1 :: ds) x2
  ok := fun g Φ F0 W F H τ σ x Q hB E h => by
    refine a.ok g Φ F0 W F H τ σ x _ hB E (Post.step h fun d1 x1 h1 v1 F1 H1 e1 E1 r1 => ?_)
    refine r.ok g Φ F0 W F1 H1 τ σ x1 _ (B.mono _ _ _ _ e1 hB) E1 (Post.mono e1 (Post.step h1 fun d2 x2 h2 => h2) fun ds x2 h2 vs F2 H2 e2 E2 r2 => ?_)
    exact h2 (v1 :: vs) F2 H2 (e1.trans e2) E2 (.cons (r1.mono e2) r2)
def szOk (n : Nat) : Bool := decide (n ≤ 16777216)
theorem szOk_le {n : Nat} (h : szOk n = true) : n ≤ sizeLine := by
  rw [sizeLine_eq]; exact of_decide_eq_true h
/-- a tuple -/
def SE.tup (a : SA K B) : SE K B where
  t := fun W => tTup (a.t W)
  f := fun σ x => (a.f σ x).bind fun ds x1 => if szOk ds.length = true then .ok (.tup ds) x1 else .bad
  ok := fun g Φ F0 W F H τ σ x Q hB E h => by
    refine a.ok g Φ F0 W F H τ σ x _ hB E (Post.step h fun ds x1 h1 vs F1 H1 e1 E1 r1 => ?_)
    by_cases c : szOk ds.length = true
    · rw [if_pos c] at h1
      refine ⟨by rw [r1.length]; exact szOk_le c, fun p hp => ?_⟩
      have al := Al.new (o := .tup vs) E1.ex hp
      exact h1 (.ref p) _ _ (e1.trans al.f) (E1.al al) (.tup upd_same (r1.mono al.f))
    · rw [if_neg c] at h1; exact h1.elim
/-- a list -/
def SN.lst (a : SA K B) : SN K B where
  t := fun W => tLst (a.t W)
  f := fun σ x => (a.f σ x).bind fun ds x1 => if szOk ds.length = true then .ok ds x1 else .bad
  ok := fun g Φ F0 W F H τ σ x Q hB E h => by
    refine a.ok g Φ F0 W F H τ σ x _ hB E (Post.step h fun ds x1 h1 vs F1 H1 e1 E1 r1 => ?_)
    by_cases c : szOk ds.length = true
    · rw [if_pos c] at h1
      refine ⟨by rw [r1.length]; exact szOk_le c, fun p hp => ?_⟩
      exact h1 p vs F1 _ e1 (E1.al (Al.newO E1.ex hp)) upd_same (E1.fresh hp) r1
    · rw [if_neg c] at h1; exact h1.elim
/-- a new list as a value -/
def SE.ofN (a : SN K B) : SE K B where
  t := a.t
  f := fun σ x => (a.f σ x).bind fun ds x1 => .ok (.lst ds) x1
  ok := fun g Φ F0 W F H τ σ x Q hB E h => by
    refine a.ok g Φ F0 W F H τ σ x _ hB E (Post.step h fun ds x1 h1 p vs F1 H1 e1 E1 hp fr r1 => ?_)
    have e2 : Ex F1 (upd F1 p (.lst vs)) := Ex.new fr.f
    exact h1 (.ref p) _ H1 (e1.trans e2) (E1.tell hp fr) (.lst (SqL.of upd_same) (r1.mono e2))

/-! ### lists and tuples to be read -/
def SQ.of (a : SE K B) : SQ K B where
  t := a.t
  f := fun σ x => (a.f σ x).bind fun d x1 => match d with
    | .tup ds => .ok (true, ds) x1
    | .lst ds => .ok (false, ds) x1
    | _ => .bad
  ok := fun g Φ F0 W F H τ σ x Q hB E h => by
    refine a.ok g Φ F0 W F H τ σ x _ hB E (Post.step h fun d x1 h1 v F1 H1 e1 E1 r1 => ?_)
    cases r1 with
    | tup s r => exact h1 _ _ F1 H1 e1 E1 (by rw [if_pos rfl]; exact ex_t E1.ex (SqT.of s)) r
    | lst s r => exact h1 _ _ F1 H1 e1 E1 (by rw [if_neg Bool.false_ne_true]; exact ex_l E1.ex s) r
    | _ => exact h1.elim
def SQ.own (i : Nat) : SQ K B where
  t := fun _ => tVar i
  f := fun σ x => match sown σ i with
    | some ds => .ok (false, ds) x
    | none => .bad
  ok := fun g Φ F0 W F H τ σ x Q hB E h => by
    cases e : sown σ i with
    | none => simp only [e] at h; exact h.elim
    | some ds =>
      simp only [e] at h
      obtain ⟨v, h1, p, vs, rfl, h2, h3, h4⟩ := E.get i _ (sown_some e)
      exact ⟨_, h1, h p vs F H (Ex.refl F) E (by rw [if_neg Bool.false_ne_true]; exact SqL.of h2) h3⟩
def SQ.ofN (a : SN K B) : SQ K B where
  t := a.t
  f := fun σ x => (a.f σ x).bind fun ds x1 => .ok (false, ds) x1
  ok := fun g Φ F0 W F H τ σ x Q hB E h => by
    refine a.ok g Φ F0 W F H τ σ x _ hB E (Post.step h fun ds x1 h1 p vs F1 H1 e1 E1 hp fr r1 => ?_)
    exact h1 p vs F1 H1 e1 E1 (by rw [if_neg Bool.false_ne_true]; exact SqL.of hp) r1
/-- a built-in on values -/
def SE.call (o : OpC K) (a : SA K B) : SE K B where
  t := fun W => tCB o.r (a.t W)
  f := fun σ x => (a.f σ x).bind fun ds x1 => R.ofo (o.f ds) x1
  ok := fun g Φ F0 W F H τ σ x Q hB E h => by
    refine a.ok g Φ F0 W F H τ σ x _ hB E (Post.step h fun ds x1 h1 vs F1 H1 e1 E1 r1 => ?_)
    obtain ⟨d, ed, q⟩ := ofo_bad h1
    exact o.ok (gsa g) F1 H1 vs ds d Q E1.ex r1 ed fun v F' H' al r => q v F' H' (e1.trans al.f) (E1.al al) r
def SE.seq (o : OpS K) (a : SQ K B) : SE K B where
  t := fun W => tCB o.r (tCons (a.t W) tNil)
  f := fun σ x => (a.f σ x).bind fun b x1 => R.ofo (o.f b.1 b.2) x1
  ok := fun g Φ F0 W F H τ σ x Q hB E h => by
    refine a.ok g Φ F0 W F H τ σ x _ hB E (Post.step h fun b x1 h1 p vs F1 H1 e1 E1 s r1 => ?_)
    obtain ⟨d, ed, q⟩ := ofo_bad h1
    exact o.ok (gsa g) F1 H1 b.1 p vs b.2 d Q E1.ex s r1 ed fun v F' H' al r => q v F' H' (e1.trans al.f) (E1.al al) r
def SN.seq (o : OpN K) (a : SQ K B) : SN K B where
  t := fun W => tCB o.r (tCons (a.t W) tNil)
  f := fun σ x => (a.f σ x).bind fun b x1 => R.ofo (o.f b.1 b.2) x1
  ok := fun g Φ F0 W F H τ σ x Q hB E h => by
    refine a.ok g Φ F0 W F H τ σ x _ hB E (Post.step h fun b x1 h1 p vs F1 H1 e1 E1 s r1 => ?_)
    obtain ⟨d, ed, q⟩ := ofo_bad h1
    exact o.ok (gsa g) F1 H1 b.1 p vs b.2 d Q E1.ex s r1 ed fun q' ws H' hn eH r => by
      subst eH
      exact q q' ws F1 _ e1 (E1.al (Al.newO E1.ex hn)) upd_same (E1.fresh hn) r

/-! ### an item, a slice -/
/-- Python's index -/
def atD (ds : List D) (i : Int) : Option D := atI ds i
theorem atD_get {sa : Addr} {F : Hp} {vs : List V} {ds : List D} (h : Reps K sa F vs ds) {i : Int} {d : D} (e : atD ds i = some d) : ∃ v, atI vs i = some v ∧ Rep K sa F v d := by
  unfold atD atI at e
  unfold atI
  rw [h.length]
  cases q : ixN ds.length i with
  | none => rw [q] at e; cases e
  | some j => rw [q] at e; exact h.get e
def rIxQ (K : PySem.W.Frag) : R2 := fun x y H Q => rIxL K x y H Q ∨ rIxT K x y H Q
def ixD (a b : D) : Option D :=
  match a, b with
  | .tup ds, .int i => atD ds i
  | .lst ds, .int i => atD ds i
  | _, _ => none
def opIx (K : PySem.W.Frag) : Op2 K where
  r := rIxQ K
  f := ixD
  ok := fun sa F H v1 v2 d1 d2 d Q ex r1 r2 e q => by
    cases r2 with
    | int =>
      rename_i i
      cases r1 with
      | tup s r =>
        obtain ⟨v, h1, h2⟩ := atD_get r (show atD _ i = some d from e)
        exact .inr ⟨_, _, _, v, rfl, rfl, ex_t ex (SqT.of s), h1, q v F H (Al.refl ex) h2⟩
      | lst s r =>
        obtain ⟨v, h1, h2⟩ := atD_get r (show atD _ i = some d from e)
        exact .inl ⟨_, _, _, v, rfl, rfl, ex_l ex s, h1, q v F H (Al.refl ex) h2⟩
      | _ => cases e
    | _ => cases r1 <;> cases e
/-- an item of a list of one's own -/
def SE.ixO (i : Nat) (b : SE K B) : SE K B where
  t := fun W => tOp (rIxQ K) (tVar i) (b.t W)
  f := fun σ x => match sown σ i with
    | none => .bad
    | some ds => (b.f σ x).bind fun d2 x2 => match d2 with
      | .int k => R.ofo (atD ds k) x2
      | _ => .bad
  ok := fun g Φ F0 W F H τ σ x Q hB E h => by
    cases e : sown σ i with
    | none => simp only [e] at h; exact h.elim
    | some ds =>
      simp only [e] at h
      obtain ⟨v, h1, p, vs, rfl, _, _, _⟩ := E.get i _ (sown_some e)
      refine ⟨_, h1, b.ok g Φ F0 W F H τ σ x _ hB E (Post.step h fun d2 x2 h2 v2 F2 H2 e2 E2 r2 => ?_)⟩
      obtain ⟨v', h1', p', vs', rfl, h3, h4, _⟩ := E2.get i _ (sown_some e)
      rw [h1] at h1'; cases h1'
      cases r2 with
      | int =>
        obtain ⟨d, ed, q⟩ := ofo_bad h2
        obtain ⟨v, g1, g2⟩ := atD_get h4 ed
        exact .inl ⟨_, _, _, v, rfl, rfl, SqL.of h3, g1, q v F2 H2 e2 E2 g2⟩
      | _ => exact h2.elim

/-! ### slices -/
def cutD (ds : List D) (lo hi : Option Int) : List D := (ds.drop (HT.sIx ds.length 0 lo)).take (HT.sIx ds.length ds.length hi - HT.sIx ds.length 0 lo)
theorem cutD_rep {sa : Addr} {F : Hp} {vs : List V} {ds : List D} (h : Reps K sa F vs ds) (lo hi : Option Int) : Reps K sa F (cutV vs lo hi) (cutD ds lo hi) := by
  unfold cutV cutD
  rw [h.length]
  exact (h.drop _).take _
/-- a part of a slice -/
structure SO (K : PySem.W.Frag) (B : Bs) where
  t : WX → TO
  f : Sg → Option Gst → R (Option Int)
  ok : ∀ g Φ F0 W F H τ σ x Q, B.p g τ F → Env K g Φ F0 F H τ σ x → Post K g Φ F0 W F τ σ (fun o x1 => ∀ F' H', Ex F F' → Env K g Φ F0 F' H' τ σ x1 → Q o H') (f σ x) → t W τ H Q
def SO.none : SO K B where
  t := fun _ => tNoPart
  f := fun _ x => .ok Option.none x
  ok := fun g Φ F0 W F H τ σ x Q hB E h => h F H (Ex.refl F) E
def SO.some (a : SE K B) : SO K B where
  t := fun W => tPart (a.t W)
  f := fun σ x => (a.f σ x).bind fun d x1 => match d with
    | .int i => .ok (Option.some i) x1
    | _ => .bad
  ok := fun g Φ F0 W F H τ σ x Q hB E h => by
    refine a.ok g Φ F0 W F H τ σ x _ hB E (Post.step h fun d x1 h1 v F1 H1 e1 E1 r1 => ?_)
    cases r1 with
    | int => exact ⟨_, rfl, h1 F1 H1 e1 E1⟩
    | _ => exact h1.elim
def rSlQ (K : PySem.W.Frag) : V → Option Int → Option Int → Hp → VK → Prop := fun x lo hi H Q => rSlA K x lo hi H Q ∨ rSlL K x lo hi H Q
def SE.sl (a : SE K B) (lo hi : SO K B) : SE K B where
  t := fun W => tSl (rSlQ K) (a.t W) (lo.t W) (hi.t W)
  f := fun σ x => (a.f σ x).bind fun d x1 => (lo.f σ x1).bind fun l x2 => (hi.f σ x2).bind fun u x3 => match d with
    | .tup ds => .ok (.tup (cutD ds l u)) x3
    | .lst ds => .ok (.lst (cutD ds l u)) x3
    | _ => .bad
  ok := fun g Φ F0 W F H τ σ x Q hB E h => by
    refine a.ok g Φ F0 W F H τ σ x _ hB E (Post.step h fun d x1 h1 v F1 H1 e1 E1 r1 => ?_)
    refine lo.ok g Φ F0 W F1 H1 τ σ x1 _ (B.mono _ _ _ _ e1 hB) E1 (Post.mono e1 (Post.step h1 fun l x2 h2 => h2) fun l x2 h2 F2 H2 e2 E2 => ?_)
    have e12 := e1.trans e2
    refine hi.ok g Φ F0 W F2 H2 τ σ x2 _ (B.mono _ _ _ _ e12 hB) E2 (Post.mono e12 (Post.step h2 fun l x2 h2 => h2) fun u x3 h3 F3 H3 e3 E3 => ?_)
    have e13 := e12.trans e3
    have r3 := r1.mono (e2.trans e3)
    cases r3 with
    | tup s r =>
      rename_i a' vs ds
      refine .inl ⟨_, _, rfl, ex_t E3.ex (SqT.of s), fun hw => ?_, fun _ p hp => ?_⟩
      · refine h3 _ F3 H3 e13 E3 (.tup s ?_)
        have e : cutD ds l u = ds := by
          unfold cutD
          rw [← r.length, hw.1, hw.2, List.drop_zero, Nat.sub_zero, r.length, List.take_length]
        rw [e]; exact r
      · have al := Al.new (o := .tup (cutV vs l u)) E3.ex hp
        exact h3 _ _ _ (e13.trans al.f) (E3.al al) (.tup upd_same ((cutD_rep r l u).mono al.f))
    | lst s r =>
      rename_i a' vs ds
      refine .inr ⟨_, _, rfl, ex_l E3.ex s, fun p hp => ?_⟩
      have al := Al.new (o := .lst (cutV vs l u)) E3.ex hp
      exact h3 _ _ _ (e13.trans al.f) (E3.al al) (.lst (SqL.of upd_same) ((cutD_rep r l u).mono al.f))
    | _ => exact h3.elim

/-! ### tests -/
def ST.val (a : SE K B) : ST K B where
  t := fun W => tB (a.t W)
  f := fun σ x => (a.f σ x).bind fun d x1 => match d with
    | .bl b => .ok b x1
    | _ => .bad
  ok := fun g Φ F0 W F H τ σ x Q hB E h => by
    refine a.ok g Φ F0 W F H τ σ x _ hB E (Post.step h fun d x1 h1 v F1 H1 e1 E1 r1 => ?_)
    cases r1 with
    | bl => exact ⟨_, rfl, h1 F1 H1 e1 E1⟩
    | _ => exact h1.elim
def truD : D → Option Bool
  | .non => some false
  | .bl b => some b
  | .int i => some (i != 0)
  | .tup ds => some (!ds.isEmpty)
  | .lst ds => some (!ds.isEmpty)
  | _ => none
def tTruK (K : PySem.W.Frag) (ta : TE) : TT := fun σ H Q => ta σ H fun x H' => ∃ k, TruV K x H' k ∧ Q k H'
theorem Reps.isEmpty {sa : Addr} {F : Hp} {vs : List V} {ds : List D} (h : Reps K sa F vs ds) : vs.isEmpty = ds.isEmpty := by
  cases h <;> rfl
def ST.tru (a : SE K B) : ST K B where
  t := fun W => tTruK K (a.t W)
  f := fun σ x => (a.f σ x).bind fun d x1 => R.ofo (truD d) x1
  ok := fun g Φ F0 W F H τ σ x Q hB E h => by
    refine a.ok g Φ F0 W F H τ σ x _ hB E (Post.step h fun d x1 h1 v F1 H1 e1 E1 r1 => ?_)
    obtain ⟨b, eb, q⟩ := ofo_bad h1
    refine ⟨b, ?_, q F1 H1 e1 E1⟩
    cases r1 with
    | non => cases eb; rfl
    | bl => cases eb; rfl
    | int => cases eb; rfl
    | tup s r => cases eb; exact .inr (.inl ⟨_, ex_t E1.ex (SqT.of s), by rw [r.isEmpty]⟩)
    | lst s r => cases eb; exact .inl ⟨_, ex_l E1.ex s, by rw [r.isEmpty]⟩
    | _ => cases eb
def ST.not (a : ST K B) : ST K B where
  t := fun W => tNot (a.t W)
  f := fun σ x => (a.f σ x).bind fun b x1 => .ok (!b) x1
  ok := fun g Φ F0 W F H τ σ x Q hB E h => a.ok g Φ F0 W F H τ σ x _ hB E (Post.step h fun b x1 h1 F1 H1 e1 E1 => h1 F1 H1 e1 E1)
def ST.and (a b : ST K B) : ST K B where
  t := fun W => tAnd (a.t W) (b.t W)
  f := fun σ x => (a.f σ x).bind fun c x1 => if c = true then b.f σ x1 else .ok false x1
  ok := fun g Φ F0 W F H τ σ x Q hB E h => by
    refine a.ok g Φ F0 W F H τ σ x _ hB E (Post.step h fun c x1 h1 F1 H1 e1 E1 => ?_)
    cases c with
    | true => simp only [if_true] at h1 ⊢; exact b.ok g Φ F0 W F1 H1 τ σ x1 _ (B.mono _ _ _ _ e1 hB) E1 (Post.mono e1 h1 fun _ _ q => q.mono e1)
    | false => simp only [Bool.false_eq_true, if_false] at h1 ⊢; exact h1 F1 H1 e1 E1
def ST.or (a b : ST K B) : ST K B where
  t := fun W => tOr (a.t W) (b.t W)
  f := fun σ x => (a.f σ x).bind fun c x1 => if c = true then .ok true x1 else b.f σ x1
  ok := fun g Φ F0 W F H τ σ x Q hB E h => by
    refine a.ok g Φ F0 W F H τ σ x _ hB E (Post.step h fun c x1 h1 F1 H1 e1 E1 => ?_)
    cases c with
    | true => simp only [if_true] at h1 ⊢; exact h1 F1 H1 e1 E1
    | false => simp only [Bool.false_eq_true, if_false] at h1 ⊢; exact b.ok g Φ F0 W F1 H1 τ σ x1 _ (B.mono _ _ _ _ e1 hB) E1 (Post.mono e1 h1 fun _ _ q => q.mono e1)
def SE.andV (a b : SE K B) : SE K B where
  t := fun W => tAndV (a.t W) (b.t W)
  f := fun σ x => (a.f σ x).bind fun d x1 => match d with
    | .bl true => b.f σ x1
    | .bl false => .ok (.bl false) x1
    | _ => .bad
  ok := fun g Φ F0 W F H τ σ x Q hB E h => by
    refine a.ok g Φ F0 W F H τ σ x _ hB E (Post.step h fun d x1 h1 v F1 H1 e1 E1 r1 => ?_)
    cases r1 with
    | bl =>
      rename_i c
      refine ⟨c, rfl, ?_⟩
      cases c with
      | true => simp only [if_true] at h1 ⊢; exact b.ok g Φ F0 W F1 H1 τ σ x1 _ (B.mono _ _ _ _ e1 hB) E1 (Post.mono e1 h1 fun _ _ q => q.mono e1)
      | false => simp only [Bool.false_eq_true, if_false] at h1 ⊢; exact h1 _ F1 H1 e1 E1 .bl
    | _ => exact h1.elim
def SE.orV (a b : SE K B) : SE K B where
  t := fun W => tOrV (a.t W) (b.t W)
  f := fun σ x => (a.f σ x).bind fun d x1 => match d with
    | .bl true => .ok (.bl true) x1
    | .bl false => b.f σ x1
    | _ => .bad
  ok := fun g Φ F0 W F H τ σ x Q hB E h => by
    refine a.ok g Φ F0 W F H τ σ x _ hB E (Post.step h fun d x1 h1 v F1 H1 e1 E1 r1 => ?_)
    cases r1 with
    | bl =>
      rename_i c
      refine ⟨c, rfl, ?_⟩
      cases c with
      | true => simp only [if_true] at h1 ⊢; exact h1 _ F1 H1 e1 E1 .bl
      | false => simp only [Bool.false_eq_true, if_false] at h1 ⊢; exact b.ok g Φ F0 W F1 H1 τ σ x1 _ (B.mono _ _ _ _ e1 hB) E1 (Post.mono e1 h1 fun _ _ q => q.mono e1)
    | _ => exact h1.elim
def SE.notV (a : SE K B) : SE K B where
  t := fun W => tNotV (a.t W)
  f := fun σ x => (a.f σ x).bind fun d x1 => match d with
    | .bl b => .ok (.bl (!b)) x1
    | _ => .bad
  ok := fun g Φ F0 W F H τ σ x Q hB E h => by
    refine a.ok g Φ F0 W F H τ σ x _ hB E (Post.step h fun d x1 h1 v F1 H1 e1 E1 r1 => ?_)
    cases r1 with
    | bl => exact ⟨_, rfl, h1 _ F1 H1 e1 E1 .bl⟩
    | _ => exact h1.elim
def SE.ite (c : ST K B) (a b : SE K B) : SE K B where
  t := fun W => tIf (c.t W) (a.t W) (b.t W)
  f := fun σ x => (c.f σ x).bind fun k x1 => if k = true then a.f σ x1 else b.f σ x1
  ok := fun g Φ F0 W F H τ σ x Q hB E h => by
    refine c.ok g Φ F0 W F H τ σ x _ hB E (Post.step h fun k x1 h1 F1 H1 e1 E1 => ?_)
    cases k with
    | true => simp only [if_true] at h1 ⊢; exact a.ok g Φ F0 W F1 H1 τ σ x1 _ (B.mono _ _ _ _ e1 hB) E1 (Post.mono e1 h1 fun _ _ q => q.mono e1)
    | false => simp only [Bool.false_eq_true, if_false] at h1 ⊢; exact b.ok g Φ F0 W F1 H1 τ σ x1 _ (B.mono _ _ _ _ e1 hB) E1 (Post.mono e1 h1 fun _ _ q => q.mono e1)
end
end Yx

namespace Yx
variable [Tb] [Cb]
open PySem L2 RZ

def wipeS (σ : Sg) : List Nat → Sg
  | [] => σ
  | v :: vs => (wipeS σ vs).set v none
/-! ### targets -/
/-- a target: the slots it sets -/
structure SG (K : PySem.W.Frag) where
  t : TG
  f : D → Sg → Option Sg
  idx : List Nat
  okS : ∀ d σ σ', f d σ = some σ' → ∀ vs : List Nat, (∀ i ∈ idx, i ∈ vs) → wipeS σ' vs = wipeS σ vs
  ok : ∀ g Φ F0 F H τ σ x v d σ' (Q : St → Hp → Prop), Env K g Φ F0 F H τ σ x → Rep K (gsa g) F v d → f d σ = some σ' →
    (∀ τ', Env K g Φ F0 F H τ' σ' x → (∀ vs : List Nat, (∀ i ∈ idx, i ∈ vs) → wipe τ' vs = wipe τ vs) → Q τ' H) → t v τ H Q
theorem set_wipe {α : Type} {w : List (Option α) → List Nat → List (Option α)} (w0 : ∀ l, w l [] = l) (w1 : ∀ l v vs, w l (v :: vs) = (w l vs).set v none) {l : List (Option α)} {i : Nat} {o : Option α} : ∀ {vs : List Nat}, i ∈ vs → w (l.set i o) vs = w l vs
  | [], h => by cases h
  | v :: vs, h => by
    rw [w1, w1]
    by_cases c : i ∈ vs
    · rw [set_wipe w0 w1 c]
    · have e : i = v := by
        rcases List.mem_cons.mp h with h | h
        · exact h
        · exact absurd h c
      subst e
      have key : ∀ {ws : List Nat}, i ∉ ws → w (l.set i o) ws = (w l ws).set i o := by
        intro ws
        induction ws with
        | nil => intro _; rw [w0, w0]
        | cons u ws ih =>
          intro hw
          have h1 : i ≠ u := fun e => hw (by rw [e]; exact List.mem_cons_self)
          have h2 : i ∉ ws := fun m => hw (List.mem_cons_of_mem _ m)
          rw [w1, w1, ih h2, List.set_comm _ _ h1]
      rw [key c, List.set_set]
theorem wipe_set {τ : St} {i : Nat} {o : Option V} {vs : List Nat} (h : i ∈ vs) : wipe (τ.set i o) vs = wipe τ vs := set_wipe (w := wipe) (fun _ => rfl) (fun _ _ _ => rfl) h
theorem wipeS_set {σ : Sg} {i : Nat} {o : Option Sl} {vs : List Nat} (h : i ∈ vs) : wipeS (σ.set i o) vs = wipeS σ vs := set_wipe (w := wipeS) (fun _ => rfl) (fun _ _ _ => rfl) h
def SG.name (K : PySem.W.Frag) (i : Nat) : SG K where
  t := gName i
  f := fun d σ => some (σ.set i (some (.dat d)))
  idx := [i]
  okS := fun d σ σ' e vs hv => by cases e; exact wipeS_set (hv i (by simp))
  ok := fun g Φ F0 F H τ σ x v d σ' Q E r e h => by
    cases e
    exact h _ (E.set i r) fun vs hv => wipe_set (hv i (by simp))
/-- the targets of a tuple -/
structure SGs (K : PySem.W.Frag) where
  t : TGs
  f : List D → Sg → Option Sg
  idx : List Nat
  okS : ∀ ds σ σ', f ds σ = some σ' → ∀ vs : List Nat, (∀ i ∈ idx, i ∈ vs) → wipeS σ' vs = wipeS σ vs
  ok : ∀ g Φ F0 F H τ σ x vs ds σ' (Q : St → Hp → Prop), Env K g Φ F0 F H τ σ x → Reps K (gsa g) F vs ds → f ds σ = some σ' →
    (∀ τ', Env K g Φ F0 F H τ' σ' x → (∀ vs : List Nat, (∀ i ∈ idx, i ∈ vs) → wipe τ' vs = wipe τ vs) → Q τ' H) → t vs τ H Q
def SGs.nil (K : PySem.W.Frag) : SGs K where
  t := gNil
  f := fun ds σ => match ds with
    | [] => some σ
    | _ :: _ => none
  idx := []
  okS := fun ds σ σ' e vs hv => by
    cases ds with
    | nil => cases e; rfl
    | cons _ _ => cases e
  ok := fun g Φ F0 F H τ σ x vs ds σ' Q E r e h => by
    cases r with
    | nil => cases e; exact ⟨rfl, h τ E fun _ _ => rfl⟩
    | cons a b => cases e
def SGs.cons {K : PySem.W.Frag} (a : SG K) (b : SGs K) : SGs K where
  t := gCons a.t b.t
  f := fun ds σ => match ds with
    | [] => none
    | d :: ds => match a.f d σ with
      | some σ1 => b.f ds σ1
      | none => none
  idx := a.idx ++ b.idx
  okS := fun ds σ σ' e vs hv => by
    cases ds with
    | nil => cases e
    | cons d ds =>
      cases ea : a.f d σ with
      | none => simp only [ea] at e; cases e
      | some σ1 =>
        simp only [ea] at e
        exact (b.okS ds σ1 σ' e vs fun i hi => hv i (List.mem_append_right _ hi)).trans (a.okS d σ σ1 ea vs fun i hi => hv i (List.mem_append_left _ hi))
  ok := fun g Φ F0 F H τ σ x vs ds σ' Q E r e h => by
    cases r with
    | nil => cases e
    | @cons v vs d ds r1 r2 =>
      cases ea : a.f d σ with
      | none => simp only [ea] at e; cases e
      | some σ1 =>
        simp only [ea] at e
        refine ⟨v, vs, rfl, a.ok g Φ F0 F H τ σ x v d σ1 _ E r1 ea fun τ1 E1 w1 => ?_⟩
        refine b.ok g Φ F0 F H τ1 σ1 x vs ds σ' _ E1 r2 e fun τ2 E2 w2 => ?_
        exact h τ2 E2 fun vs hv => (w2 vs fun i hi => hv i (List.mem_append_right _ hi)).trans (w1 vs fun i hi => hv i (List.mem_append_left _ hi))
def SG.tup {K : PySem.W.Frag} (n : Nat) (b : SGs K) : SG K where
  t := gTup K n b.t
  f := fun d σ => match d with
    | .tup ds => if ds.length = n then b.f ds σ else none
    | _ => none
  idx := b.idx
  okS := fun d σ σ' e vs hv => by
    cases d with
    | tup ds =>
      simp only at e
      split at e
      · exact b.okS ds σ σ' e vs hv
      · cases e
    | _ => cases e
  ok := fun g Φ F0 F H τ σ x v d σ' Q E r e h => by
    cases r with
    | tup s r =>
      simp only at e
      split at e
      · rename_i c
        exact ⟨_, _, rfl, ex_t E.ex (SqT.of s), by rw [r.length]; exact c, b.ok g Φ F0 F H τ σ x _ _ σ' _ E r e h⟩
      · cases e
    | _ => cases e

/-! ### what is walked -/
/-- J walks over ds while the ground F stands -/
def WalkD (K : PySem.W.Frag) (sa : Addr) (J : It) (F : Hp) (ds : List D) : Prop :=
  ∃ Y, Walk J ds.length (fun H => Ex F H) Y ∧ ∀ i H x H', i < ds.length → Ex F H → Y i H x H' → ∀ F1, Ex F F1 → Ex F1 H → ∃ F2 d, Al F1 H F2 H' ∧ ds[i]? = some d ∧ Rep K sa F2 x d
def QI (K : PySem.W.Frag) (g : GA) (Φ F0 : Hp) (F : Hp) (τ : St) (σ : Sg) (Q : It → Hp → Prop) (ds : List D) (x : Option Gst) : Prop :=
  ∀ J F' H', Ex F F' → Env K g Φ F0 F' H' τ σ x → WalkD K (gsa g) J F' ds → Q J H'
structure SI (K : PySem.W.Frag) (B : Bs) where
  t : WX → TI
  f : Sg → Option Gst → R (List D)
  ok : ∀ g Φ F0 W F H τ σ x Q, B.p g τ F → Env K g Φ F0 F H τ σ x → Post K g Φ F0 W F τ σ (QI K g Φ F0 F τ σ Q) (f σ x) → t W τ H Q
section
variable {K : PySem.W.Frag} {B : Bs}
theorem walk_of_list {sa : Addr} {F : Hp} {a : Addr} {vs : List V} {ds : List D} (s : SqL K F a vs) (r : Reps K sa F vs ds) : WalkD K sa (Itl K a) F ds := by
  refine ⟨YAt vs, by rw [← r.length]; exact walk_list.mono (fun H e => ex_l e s) (fun _ _ _ _ _ _ y => y), ?_⟩
  rintro i H x H' hi e ⟨rfl, hx⟩ F1 e1 e2
  obtain ⟨d, hd, rd⟩ := r.getV hx
  exact ⟨F1, d, Al.refl e2, hd, rd.mono e1⟩
theorem walk_of_tup {sa : Addr} {F : Hp} {a : Addr} {vs : List V} {ds : List D} (s : SqT K F a vs) (r : Reps K sa F vs ds) : WalkD K sa (Itt K a) F ds := by
  refine ⟨YAt vs, by rw [← r.length]; exact walk_tup.mono (fun H e => ex_t e s) (fun _ _ _ _ _ _ y => y), ?_⟩
  rintro i H x H' hi e ⟨rfl, hx⟩ F1 e1 e2
  obtain ⟨d, hd, rd⟩ := r.getV hx
  exact ⟨F1, d, Al.refl e2, hd, rd.mono e1⟩
/-- a list of data -/
def SI.lst (a : SE K B) : SI K B where
  t := fun W => iList K (a.t W)
  f := fun σ x => (a.f σ x).bind fun d x1 => match d with
    | .lst ds => .ok ds x1
    | _ => .bad
  ok := fun g Φ F0 W F H τ σ x Q hB E h => by
    refine a.ok g Φ F0 W F H τ σ x _ hB E (Post.step h fun d x1 h1 v F1 H1 e1 E1 r1 => ?_)
    cases r1 with
    | lst s r => exact ⟨_, rfl, ⟨_, ex_l E1.ex s⟩, h1 _ F1 H1 e1 E1 (walk_of_list s r)⟩
    | _ => exact h1.elim
def SI.tup (a : SE K B) : SI K B where
  t := fun W => iTup K (a.t W)
  f := fun σ x => (a.f σ x).bind fun d x1 => match d with
    | .tup ds => .ok ds x1
    | _ => .bad
  ok := fun g Φ F0 W F H τ σ x Q hB E h => by
    refine a.ok g Φ F0 W F H τ σ x _ hB E (Post.step h fun d x1 h1 v F1 H1 e1 E1 r1 => ?_)
    cases r1 with
    | tup s r => exact ⟨_, rfl, ⟨_, ex_t E1.ex (SqT.of s)⟩, h1 _ F1 H1 e1 E1 (walk_of_tup (SqT.of s) r)⟩
    | _ => exact h1.elim
def rngD (lo : Int) (n : Nat) : List D := (List.range n).map fun i => .int (lo + (i : Nat))
theorem walk_of_range {sa : Addr} {F : Hp} {lo : Int} {n : Nat} : WalkD K sa (Itr lo n) F (rngD lo n) := by
  have hl : (rngD lo n).length = n := by simp [rngD]
  refine ⟨YFn fun i => .int (lo + i), by rw [hl]; exact walk_range.mono (fun _ _ => trivial) (fun _ _ _ _ _ _ y => y), ?_⟩
  rintro i H x H' hi e ⟨rfl, rfl⟩ F1 e1 e2
  rw [hl] at hi
  exact ⟨F1, .int (lo + i), Al.refl e2, by simp [rngD, hi], .int⟩
def i62 (i : Int) : Bool := decide (i.natAbs < 2 ^ 62)
theorem i62_ok {i : Int} (h : i62 i = true) : -(2 ^ 62) ≤ i ∧ i < 2 ^ 62 := by
  unfold i62 at h
  simp only [decide_eq_true_eq] at h
  omega
/-- range(n) -/
def SI.rng1 (a : SE K B) : SI K B where
  t := fun W => iRng1 (tCons (a.t W) tNil)
  f := fun σ x => (a.f σ x).bind fun d x1 => match d with
    | .int n => if i62 n = true then .ok (rngD 0 n.toNat) x1 else .bad
    | _ => .bad
  ok := fun g Φ F0 W F H τ σ x Q hB E h => by
    refine a.ok g Φ F0 W F H τ σ x _ hB E (Post.step h fun d x1 h1 v F1 H1 e1 E1 r1 => ?_)
    cases r1 with
    | int =>
      rename_i n
      simp only at h1
      by_cases c : i62 n = true
      · rw [if_pos c] at h1
        exact ⟨n, rfl, (i62_ok c).1, (i62_ok c).2, h1 _ F1 H1 e1 E1 walk_of_range⟩
      · rw [if_neg c] at h1; exact h1.elim
    | _ => exact h1.elim
/-- range(a, b) -/
def SI.rng2 (a b : SE K B) : SI K B where
  t := fun W => iRng2 (tCons (a.t W) (tCons (b.t W) tNil))
  f := fun σ x => (a.f σ x).bind fun d x1 => (b.f σ x1).bind fun e x2 => match d, e with
    | .int m, .int n => if (i62 m && i62 n) = true then .ok (rngD m (n - m).toNat) x2 else .bad
    | _, _ => .bad
  ok := fun g Φ F0 W F H τ σ x Q hB E h => by
    refine a.ok g Φ F0 W F H τ σ x _ hB E (Post.step h fun d x1 h1 v F1 H1 e1 E1 r1 => ?_)
    refine b.ok g Φ F0 W F1 H1 τ σ x1 _ (B.mono _ _ _ _ e1 hB) E1 (Post.mono e1 (Post.step h1 fun d2 x2 h2 => h2) fun d2 x2 h2 v2 F2 H2 e2 E2 r2 => ?_)
    cases r1 with
    | int =>
      cases r2 with
      | int =>
        rename_i m n
        simp only at h2
        by_cases c : (i62 m && i62 n) = true
        · rw [if_pos c] at h2
          rw [Bool.and_eq_true] at c
          exact ⟨m, n, rfl, ⟨(i62_ok c.1).1, (i62_ok c.1).2, (i62_ok c.2).1, (i62_ok c.2).2⟩, h2 _ F2 H2 (e1.trans e2) E2 walk_of_range⟩
        · rw [if_neg c] at h2; exact h2.elim
      | _ => exact h2.elim
    | _ => exact h2.elim
/-- pairs -/
def zipD (xs ys : List D) : List D := (xs.zip ys).map fun p => .tup [p.1, p.2]
theorem zipD_get {xs ys : List D} {i : Nat} {d e : D} (h1 : xs[i]? = some d) (h2 : ys[i]? = some e) : (zipD xs ys)[i]? = some (.tup [d, e]) := by
  unfold zipD
  have e : (xs.zip ys)[i]? = some (d, e) := List.getElem?_zip_eq_some.mpr ⟨h1, h2⟩
  rw [List.getElem?_map, e]
  rfl
theorem walk_pair {sa : Addr} {F : Hp} {J : It} {n : Nat} {xs ys : Nat → Option V} {ds es : List D} (hn : (zipD ds es).length = n) (w : Walk J n (fun H => Ex F H) (YPair xs ys))
    (h1 : ∀ (i : Nat) v, xs i = some v → ∃ d, ds[i]? = some d ∧ Rep K sa F v d) (h2 : ∀ (i : Nat) v, ys i = some v → ∃ d, es[i]? = some d ∧ Rep K sa F v d) : WalkD K sa J F (zipD ds es) := by
  refine ⟨YPair xs ys, by rw [hn]; exact w, ?_⟩
  rintro i H x H' hi e ⟨T, v1, v2, rfl, hT, rfl, g1, g2⟩ F1 e1 e2
  obtain ⟨d1, k1, r1⟩ := h1 i v1 g1
  obtain ⟨d2, k2, r2⟩ := h2 i v2 g2
  have al := Al.new (o := .tup [v1, v2]) e2 hT
  refine ⟨_, _, al, zipD_get k1 k2, .tup upd_same (.cons (r1.mono (e1.trans al.f)) (.cons (r2.mono (e1.trans al.f)) .nil))⟩
theorem walk_zipT {xs ys : List V} {a b : Addr} {n : Nat} (hn : n = min xs.length ys.length) : Walk (ItzT K a b) n (fun H => SqT K H a xs ∧ SqT K H b ys) (YPair (fun i => xs[i]?) (fun i => ys[i]?)) := by
  subst hn
  refine ⟨fun i _ hi q => ?_, fun _ q => ⟨xs, ys, q.1, q.2, by omega⟩, fun i H v H' _ q y => ?_⟩
  · have h1 : i < xs.length := by omega
    have h2 : i < ys.length := by omega
    exact ⟨xs, ys, xs[i], ys[i], q.1, q.2, by simp [h1], by simp [h2]⟩
  · obtain ⟨T, x, z, h1, h2, h3, h4, h5⟩ := y
    exact ⟨T, x, z, h1, h2, h3, h4 xs q.1, h5 ys q.2⟩
/-- zip(a, b) -/
def SI.zip (a b : SE K B) : SI K B where
  t := fun W => iZipA K (tCons (a.t W) (tCons (b.t W) tNil))
  f := fun σ x => (a.f σ x).bind fun d x1 => (b.f σ x1).bind fun e x2 => match d, e with
    | .tup ds, .tup es => .ok (zipD ds es) x2
    | .lst ds, .lst es => .ok (zipD ds es) x2
    | _, _ => .bad
  ok := fun g Φ F0 W F H τ σ x Q hB E h => by
    refine a.ok g Φ F0 W F H τ σ x _ hB E (Post.step h fun d x1 h1 v F1 H1 e1 E1 r1 => ?_)
    refine b.ok g Φ F0 W F1 H1 τ σ x1 _ (B.mono _ _ _ _ e1 hB) E1 (Post.mono e1 (Post.step h1 fun d2 x2 h2 => h2) fun d2 x2 h2 v2 F2 H2 e2 E2 r2 => ?_)
    have r1' := r1.mono e2
    cases r1' with
    | tup s1 q1 =>
      cases r2 with
      | tup s2 q2 =>
        rename_i a1 xs ds b1 ys es
        refine ⟨_, _, _, _, rfl, .inr ⟨ex_t E2.ex (SqT.of s1), ex_t E2.ex (SqT.of s2), h2 _ F2 H2 (e1.trans e2) E2 ?_⟩⟩
        refine walk_pair (n := (zipD ds es).length) rfl ((walk_zipT (by unfold zipD; rw [List.length_map, List.length_zip, q1.length, q2.length])).mono (fun H e => ⟨ex_t e (SqT.of s1), ex_t e (SqT.of s2)⟩) (fun _ _ _ _ _ _ y => y)) (fun i v h => q1.getV h) (fun i v h => q2.getV h)
      | _ => exact h2.elim
    | lst s1 q1 =>
      cases r2 with
      | lst s2 q2 =>
        rename_i a1 xs ds b1 ys es
        refine ⟨_, _, _, _, rfl, .inl ⟨ex_l E2.ex s1, ex_l E2.ex s2, h2 _ F2 H2 (e1.trans e2) E2 ?_⟩⟩
        refine walk_pair (n := (zipD ds es).length) rfl ((walk_zip (by unfold zipD; rw [List.length_map, List.length_zip, q1.length, q2.length])).mono (fun H e => ⟨ex_l e s1, ex_l e s2⟩) (fun _ _ _ _ _ _ y => y)) (fun i v h => q1.getV h) (fun i v h => q2.getV h)
      | _ => exact h2.elim
    | _ => exact h2.elim
/-- enumerate(a list) -/
def SI.enumL (a : SE K B) : SI K B where
  t := fun W => iEnum K (tCons (a.t W) tNil)
  f := fun σ x => (a.f σ x).bind fun d x1 => match d with
    | .lst ds => .ok (zipD (rngD 0 ds.length) ds) x1
    | _ => .bad
  ok := fun g Φ F0 W F H τ σ x Q hB E h => by
    refine a.ok g Φ F0 W F H τ σ x _ hB E (Post.step h fun d x1 h1 v F1 H1 e1 E1 r1 => ?_)
    cases r1 with
    | lst s r =>
      rename_i a1 vs ds
      have hl : (zipD (rngD 0 ds.length) ds).length = vs.length := by simp [zipD, rngD, r.length]
      refine ⟨_, _, rfl, ex_l E1.ex s, h1 _ F1 H1 e1 E1 (walk_pair hl (?_ : Walk _ _ _ (YPair (fun i => if i < vs.length then some (.int (i : Nat)) else none) fun i => vs[i]?)) (fun i v h => ?_) fun i v h => r.getV h)⟩
      · refine walk_enum.mono (fun H e => ex_l e s) fun i H x H' hi _ ⟨T, x1, y1, h1, h2, h3, h4, h5⟩ => ⟨T, x1, y1, h1, h2, h3, by simp only; rw [if_pos hi]; exact h4, h5⟩
      · split at h
        · rename_i c; cases h
          rw [r.length] at c
          exact ⟨.int (i : Nat), by simp [rngD, c], .int⟩
        · cases h
    | _ => exact h1.elim

/-! ### comprehensions -/
theorem Env.unset {g : GA} {Φ F0 F H : Hp} {τ : St} {σ : Sg} {x : Option Gst} (E : Env K g Φ F0 F H τ σ x) (i : Nat) : Env K g Φ F0 F H (τ.set i none) (σ.set i none) x where
  ex := E.ex
  f0 := E.f0
  fr := E.fr
  dj := E.dj
  len := by rw [List.length_set, List.length_set]; exact E.len
  get := fun j s h => by
    rcases get_set h with ⟨rfl, e, hi⟩ | ⟨c, h1⟩
    · cases e
    · obtain ⟨u, h2, h3⟩ := E.get j s h1; exact ⟨u, get_set' h2 c, h3⟩
  own := fun j s p h m t => by
    rcases get_set h with ⟨rfl, e, hi⟩ | ⟨c, h1⟩
    · cases e
    · rcases get_set t with ⟨c', _⟩ | ⟨_, t1⟩
      · exact absurd c' c
      · exact E.own j s p h1 m t1
  dis := fun j k s t u h m h' m' t1 t2 => by
    rcases get_set h with ⟨rfl, e, hi⟩ | ⟨c, h1⟩
    · cases e
    · rcases get_set h' with ⟨rfl, e, hi⟩ | ⟨c', h1'⟩
      · cases e
      · rcases get_set t1 with ⟨z, _⟩ | ⟨_, t1⟩
        · exact absurd z c
        · rcases get_set t2 with ⟨z, _⟩ | ⟨_, t2⟩
          · exact absurd z c'
          · exact E.dis j k s t u h1 m h1' m' t1 t2
  gr := E.gr
  gf := E.gf
  np := E.np
theorem Env.wipe {g : GA} {Φ F0 F H : Hp} {τ : St} {σ : Sg} {x : Option Gst} (E : Env K g Φ F0 F H τ σ x) : ∀ vs : List Nat, Env K g Φ F0 F H (wipe τ vs) (wipeS σ vs) x
  | [] => E
  | v :: vs => (E.wipe vs).unset v
/-- the turns of a comprehension, from σ with its own slots wiped -/
def compF (gf : D → Sg → Option Sg) (cf : Sg → Option Gst → R Bool) (ef : Sg → Option Gst → R D) (σ : Sg) : List D → List D → Option Gst → R (List D)
  | [], acc, x => .ok acc x
  | d :: ds, acc, x => match gf d σ with
    | none => .bad
    | some σ1 => match cf σ1 x with
      | .ok true x1 => match ef σ1 x1 with
        | .ok y x2 => if decide (acc.length < 16777216) = true then compF gf cf ef σ ds (acc ++ [y]) x2 else .bad
        | _ => .bad
      | .ok false x1 => compF gf cf ef σ ds acc x1
      | _ => .bad
def W0 : WX := fun _ _ _ _ => False
/-- what a thing of one's own at D, that no slot has, leaves be -/
theorem Fresh.al {g : GA} {Φ F F' H H' : Hp} {τ : St} {σ : Sg} {p : Addr} {o : HO} (f : Fresh g Φ F τ σ p) (h : H p = some o) (a : Al F H F' H') (t : nTup o := by intro _ z; cases z) : Fresh g Φ F' τ σ p :=
  ⟨a.nw p o t h f.f, f.ph, f.g, f.o⟩
theorem wipeS_out {σ : Sg} {i : Nat} : ∀ {vs : List Nat}, i ∉ vs → (wipeS σ vs)[i]? = σ[i]?
  | [], _ => rfl
  | v :: vs, h => by
    have h1 : v ≠ i := fun e => h (by rw [e]; exact List.mem_cons_self)
    unfold wipeS
    rw [List.getElem?_set_ne h1]
    exact wipeS_out fun m => h (List.mem_cons_of_mem _ m)
/-- no slot of vs holds a thing of one's own -/
def calmS (σ : Sg) (vs : List Nat) : Bool := vs.all fun i => match σ[i]? with
  | some (some .clo) => false
  | some (some s) => !s.mut
  | _ => true
theorem calmS_at {σ : Sg} {vs : List Nat} (h : calmS σ vs = true) {i : Nat} {s : Sl} (hi : i ∈ vs) (e : σ[i]? = some (some s)) : s.mut = false := by
  unfold calmS at h
  have := List.all_eq_true.mp h i hi
  rw [e] at this
  cases s with
  | clo => rfl
  | _ => simpa using this
theorem calmS_clo {σ : Sg} {vs : List Nat} (h : calmS σ vs = true) {i : Nat} (hi : i ∈ vs) : ¬ σ[i]? = some (some .clo) := fun e => by
  unfold calmS at h
  have := List.all_eq_true.mp h i hi
  rw [e] at this
  cases this
theorem Env.unwipe {g : GA} {Φ F0 F H F' H' : Hp} {τ : St} {σ : Sg} {x x' : Option Gst} {vs : List Nat} (E : Env K g Φ F0 F H τ σ x) (E' : Env K g Φ F0 F' H' (L2.wipe τ vs) (wipeS σ vs) x') (e : Ex F F') (c : calmS σ vs = true) : Env K g Φ F0 F' H' τ σ x' where
  ex := E'.ex
  f0 := E'.f0
  fr := E'.fr
  dj := E'.dj
  len := E.len
  get := fun i s h => by
    by_cases hi : i ∈ vs
    · obtain ⟨v, h1, h2⟩ := E.get i s h
      refine ⟨v, h1, ?_⟩
      have hm := calmS_at c hi h
      cases s with
      | dat d => exact Rep.mono e h2
      | own _ => cases hm
      | dic _ => cases hm
      | dik _ => cases hm
      | clo => exact absurd h (calmS_clo c hi)
    · have h1 := E'.get i s (by rw [wipeS_out hi]; exact h)
      rw [wipe_out hi] at h1
      exact h1
  own := fun i s p h m t => by
    by_cases hi : i ∈ vs
    · rw [calmS_at c hi h] at m; cases m
    · exact E'.own i s p (by rw [wipeS_out hi]; exact h) m (by rw [wipe_out hi]; exact t)
  dis := fun i j s t v h m h' m' t1 t2 => by
    by_cases hi : i ∈ vs
    · rw [calmS_at c hi h] at m; cases m
    · by_cases hj : j ∈ vs
      · rw [calmS_at c hj h'] at m'; cases m'
      · exact E'.dis i j s t v (by rw [wipeS_out hi]; exact h) m (by rw [wipeS_out hj]; exact h') m' (by rw [wipe_out hi]; exact t1) (by rw [wipe_out hj]; exact t2)
  gr := E'.gr
  gf := E'.gf
  np := E'.np
theorem wipe_wipe (τ : St) (vs : List Nat) : L2.wipe (L2.wipe τ vs) vs = L2.wipe τ vs := by
  have key : ∀ ws : List Nat, (∀ i ∈ ws, i ∈ vs) → L2.wipe (L2.wipe τ ws) vs = L2.wipe τ vs := by
    intro ws
    induction ws with
    | nil => intro _; rfl
    | cons w ws ih =>
      intro h
      show L2.wipe ((L2.wipe τ ws).set w none) vs = _
      rw [wipe_set (h w List.mem_cons_self)]
      exact ih fun i hi => h i (List.mem_cons_of_mem _ hi)
  exact key vs fun _ h => h
theorem wipeS_wipeS (τ : Sg) (vs : List Nat) : wipeS (wipeS τ vs) vs = wipeS τ vs := by
  have key : ∀ ws : List Nat, (∀ i ∈ ws, i ∈ vs) → wipeS (wipeS τ ws) vs = wipeS τ vs := by
    intro ws
    induction ws with
    | nil => intro _; rfl
    | cons w ws ih =>
      intro h
      show wipeS ((wipeS τ ws).set w none) vs = _
      rw [wipeS_set (h w List.mem_cons_self)]
      exact ih fun i hi => h i (List.mem_cons_of_mem _ hi)
  exact key vs fun _ h => h
/-- [e for tg in s if c], the names of vs its own -/
theorem ofb {b : Bool} (h : b = true) : b = true := h
def SN.comp (vs : List Nat) (s : SI K B) (tg : SG K) (c : ST K B0) (e : SE K B0) (hv : (tg.idx.all fun i => vs.contains i) = true) : SN K B where
  t := fun W => tLc (s.t W) tg.t (c.t W0) (e.t W0) vs
  f := fun σ x => (s.f σ x).bind fun ds x1 => if calmS σ vs = true then compF tg.f c.f e.f (wipeS σ vs) ds [] x1 else .bad
  ok := fun g Φ F0 W F H τ σ x Q hB E h => by
    have hv' : ∀ i ∈ tg.idx, i ∈ vs := fun i hi => by simpa using List.all_eq_true.mp hv i hi
    refine s.ok g Φ F0 W F H τ σ x _ hB E (Post.step h fun ds x1 h1 J F1 H1 e1 E1 w => ?_)
    have cs : calmS σ vs = true := Decidable.byContradiction fun cs => by
      rw [if_neg cs] at h1
      exact h1.elim
    rw [if_pos cs] at h1
    obtain ⟨Y, w, hy⟩ := w
    intro D hD
    refine lc_it w (fun i H' => ∃ F' x' acc va, Ex F1 F' ∧ Env K g Φ F0 F' H' τ σ x' ∧ H' D = some (.lst va) ∧ Fresh g Φ F' τ σ D ∧ Reps K (gsa g) F' va acc ∧
      Post K g Φ F0 W F τ σ (QN K g Φ F0 F τ σ Q) (compF tg.f c.f e.f (wipeS σ vs) (ds.drop i) acc x')) ?_ ?_ ?_ ?_
    · exact ⟨F1, x1, [], [], Ex.refl _, E1.al (Al.newO E1.ex hD), upd_same, E1.fresh hD, .nil, h1⟩
    · rintro i H' _ ⟨F', x', acc, va, e2, E2, _⟩
      exact e2.trans E2.ex
    · rintro i v H2 H3 hi ⟨F2, x2, acc, va, e2, E2, hD2, fr2, ra, hp⟩ yv
      obtain ⟨F3, d, al, hd, rd⟩ := hy i H2 v H3 hi (e2.trans E2.ex) yv F2 e2 E2.ex
      have E3 := E2.al al
      have hD3 := al.h _ _ hD2
      have fr3 := fr2.al hD2 al
      have edr : ds.drop i = d :: ds.drop (i + 1) := by
        obtain ⟨hlt, hh⟩ := List.getElem?_eq_some_iff.mp hd
        rw [← hh]; exact List.drop_eq_getElem_cons hlt
      rw [edr] at hp
      unfold compF at hp
      cases et : tg.f d (wipeS σ vs) with
      | none => simp only [et] at hp; exact hp.elim
      | some σ1 =>
        simp only [et] at hp
        have E3w := (E3.lift hD3 fr3).wipe vs
        refine tg.ok g _ F0 F3 H3 (L2.wipe τ vs) (wipeS σ vs) x2 v d σ1 _ E3w rd et fun τ1 E4 wt => ⟨(wt vs hv').trans (wipe_wipe τ vs), ?_⟩
        have ws : wipeS σ1 vs = wipeS σ vs := (tg.okS d _ σ1 et vs hv').trans (wipeS_wipeS σ vs)
        have wt' : L2.wipe τ1 vs = L2.wipe τ vs := (wt vs hv').trans (wipe_wipe τ vs)
        have eF3 : Ex F F3 := (e1.trans e2).trans al.f
        -- back to the slots of the def
        have back : ∀ {F5 H5 : Hp} {x5 : Option Gst}, Ex F3 F5 → Env K g (upd Φ D (.lst va)) F0 F5 H5 τ1 σ1 x5 → Env K g Φ F0 F5 H5 τ σ x5 ∧ H5 D = some (.lst va) ∧ Fresh g Φ F5 τ σ D := fun {F5 H5 x5} e5 E5 => by
          have E6 := E5.wipe vs
          rw [wt', ws] at E6
          have E7 := (E3.lift hD3 fr3).unwipe E6 e5 cs
          have hD5 := E7.fr D _ upd_same
          have z : F5 D = none := E7.dj D _ (by intro _ z; cases z) upd_same (E3.f0.back fr3.f)
          exact ⟨E7.drop (Ex.new fr3.ph), hD5, ⟨z, fr3.ph, fr3.g, fr3.o⟩⟩
        refine c.ok g _ F0 W0 F3 H3 τ1 σ1 x2 _ trivial E4 ?_
        cases ec : c.f σ1 x2 with
        | bad => simp only [ec] at hp; exact hp.elim
        | exc C y x5 => simp only [ec] at hp; exact hp.elim
        | ok b x5 =>
          simp only [ec] at hp
          intro F5 H5 e5 E5
          cases b with
          | false =>
            simp only [Bool.false_eq_true, if_false]
            simp only at hp
            obtain ⟨E6, hD6, fr6⟩ := back e5 E5
            exact ⟨F5, x5, acc, va, (e2.trans al.f).trans e5, E6, hD6, fr6, ra.mono (al.f.trans e5), hp⟩
          | true =>
            simp only [if_true]
            simp only at hp
            refine e.ok g _ F0 W0 F5 H5 τ1 σ1 x5 _ trivial E5 ?_
            cases ee : e.f σ1 x5 with
            | bad => simp only [ee] at hp; exact hp.elim
            | exc C y x6 => simp only [ee] at hp; exact hp.elim
            | ok y x6 =>
              simp only [ee] at hp
              have hlen : decide (acc.length < 16777216) = true := Decidable.byContradiction fun z => by
                rw [if_neg z] at hp
                exact hp.elim
              rw [if_pos hlen] at hp
              intro u F6 H6 e6 E6 ru
              obtain ⟨E7, hD7, fr7⟩ := back (e5.trans e6) E6
              refine ⟨va, hD7, ?_, F6, x6, acc ++ [y], va ++ [u], ((e2.trans al.f).trans e5).trans e6, ?_, upd_same, fr7, ?_, hp⟩
              · rw [ra.length, sizeLine_eq]; exact of_decide_eq_true hlen
              · -- the new item
                exact {
                  ex := E7.ex.mut fr7.f
                  f0 := E7.f0
                  fr := E7.fr.mut fr7.ph
                  dj := E7.dj
                  len := E7.len
                  get := fun i s h => by
                    obtain ⟨w', h1, h2⟩ := E7.get i s h
                    refine ⟨w', h1, ?_⟩
                    cases s with
                    | dat d => exact h2
                    | own l =>
                      obtain ⟨q, vs', rfl, b2, b3, b4⟩ := h2
                      have hne : q ≠ D := fun z => fr7.o i _ h rfl (by rw [h1, z])
                      exact ⟨q, vs', rfl, by rw [upd_ne hne]; exact b2, b3, b4⟩
                    | dic l =>
                      obtain ⟨q, vs', rfl, b2, b3, b4⟩ := h2
                      have hne : q ≠ D := fun z => fr7.o i _ h rfl (by rw [h1, z])
                      exact ⟨q, vs', rfl, by rw [upd_ne hne]; exact b2, b3, b4⟩
                    | dik l =>
                      obtain ⟨q, vs', rfl, b2, b3, b4⟩ := h2
                      have hne : q ≠ D := fun z => fr7.o i _ h rfl (by rw [h1, z])
                      exact ⟨q, vs', rfl, by rw [upd_ne hne]; exact b2, b3, b4⟩
                    | clo => exact ⟨h2.1, h2.2.1, code_upd hD7 (fun _ _ z => by unfold LamX.CodeO at z; cases z) _ _ h2.2.2.1, h2.2.2.2⟩
                  own := E7.own
                  dis := E7.dis
                  gr := E7.gr.mono (Ex.refl _) (fun a ha => (E7.gr.on a ha).2) (fun a ha => upd_ne (fun z => fr7.g (by rw [← z]; exact ha))) (code_upd hD7 (fun _ _ z => by unfold LamX.CodeO at z; cases z)) E7.gr.tb.nf
                  gf := E7.gf
                  np := E7.np }
              · exact (ra.mono ((al.f.trans e5).trans e6)).append (.cons ru .nil)
    · rintro H' ⟨F', x', acc, va, e2, E2, hD2, fr2, ra, hp⟩
      rw [List.drop_length] at hp
      exact hp D va F' H' (e1.trans e2) E2 hD2 fr2 ra
end
end Yx

/-! # comprehensions of two clauses -/
namespace Yx
variable [Tb] [Cb]
open PySem L2 RZ
/-- the turns of one clause, from a list at D that is there -/
theorem comp_in {K : PySem.W.Frag} {g : GA} {Φ F0 F1 H1 : Hp} {τ : St} {σ : Sg} {x1 : Option Gst} {tg : SG K} {c : ST K B0} {e : SE K B0} {vs : List Nat} {ds acc : List D} {va : List V} {D : Addr} {J : It} {Nd : Hp → Prop} {accF : List Yx.D} {xF : Option Gst}
    (hv : ∀ i ∈ tg.idx, i ∈ vs) (cs : calmS σ vs = true) (w : WalkD K (gsa g) J F1 ds) (E1 : Env K g Φ F0 F1 H1 τ σ x1) (hD : H1 D = some (.lst va)) (fr : Fresh g Φ F1 τ σ D) (ra : Reps K (gsa g) F1 va acc)
    (h : compF tg.f c.f e.f (wipeS σ vs) ds acc x1 = .ok accF xF)
    (fin : ∀ F' H' va', Ex F1 F' → Env K g Φ F0 F' H' τ σ xF → H' D = some (.lst va') → Fresh g Φ F' τ σ D → Reps K (gsa g) F' va' accF → Nd H') :
    ∃ W : Nat → Nat → Hp → Prop, (∃ m, W 0 m H1) ∧ ∀ j m H, W j m H → (J.stop j H ∧ Nd H) ∨ (J.go j H ∧ ∃ Nx : Hp → Prop, (∀ H', Nx H' → ∃ m', m' < m ∧ W (j + 1) m' H') ∧ ∀ x H', J.yld j H x H' → tg.t x (L2.wipe τ vs) H' fun σ2 H2 => L2.wipe σ2 vs = L2.wipe τ vs ∧ c.t W0 σ2 H2 fun b H3 =>
      if b = true then e.t W0 σ2 H3 fun y H4 => ∃ acc, H4 D = some (.lst acc) ∧ acc.length < sizeLine ∧ Nx (upd H4 D (.lst (acc ++ [y]))) else Nx H3) := by
  obtain ⟨Y, w, hy⟩ := w
  let Pv : Nat → Hp → Prop := fun i H' => ∃ F' x' acc va, Ex F1 F' ∧ Env K g Φ F0 F' H' τ σ x' ∧ H' D = some (.lst va) ∧ Fresh g Φ F' τ σ D ∧ Reps K (gsa g) F' va acc ∧ compF tg.f c.f e.f (wipeS σ vs) (ds.drop i) acc x' = .ok accF xF
  have hG : ∀ i H, Pv i H → Ex F1 H := fun i H ⟨F', x', acc, va, e2, E2, _⟩ => e2.trans E2.ex
  refine ⟨fun i m H => m = ds.length - i ∧ i ≤ ds.length ∧ Pv i H, ⟨ds.length, by simp, Nat.zero_le _, F1, x1, acc, va, Ex.refl _, E1, hD, fr, ra, h⟩, ?_⟩
  rintro i m H ⟨rfl, hi, p⟩
  by_cases hlt : i < ds.length
  · refine .inr ⟨w.goes i H hlt (hG i H p), Pv (i + 1), fun H' p' => ⟨ds.length - (i + 1), by omega, rfl, hlt, p'⟩, fun v H3 yl => ?_⟩
    have yv := w.yields i H v H3 hlt (hG i H p) yl
    obtain ⟨F2, x2, acc, va, e2, E2, hD2, fr2, ra, hp⟩ := p
    obtain ⟨F3, d, al, hd, rd⟩ := hy i H v H3 hlt (e2.trans E2.ex) yv F2 e2 E2.ex
    have E3 := E2.al al
    have hD3 := al.h _ _ hD2
    have fr3 := fr2.al hD2 al
    have edr : ds.drop i = d :: ds.drop (i + 1) := by
      obtain ⟨hlt, hh⟩ := List.getElem?_eq_some_iff.mp hd
      rw [← hh]; exact List.drop_eq_getElem_cons hlt
    rw [edr] at hp
    unfold compF at hp
    cases et : tg.f d (wipeS σ vs) with
    | none => simp only [et] at hp; cases hp
    | some σ1 =>
      simp only [et] at hp
      have E3w := (E3.lift hD3 fr3).wipe vs
      refine tg.ok g _ F0 F3 H3 (L2.wipe τ vs) (wipeS σ vs) x2 v d σ1 _ E3w rd et fun τ1 E4 wt => ⟨(wt vs hv).trans (wipe_wipe τ vs), ?_⟩
      have ws : wipeS σ1 vs = wipeS σ vs := (tg.okS d _ σ1 et vs hv).trans (wipeS_wipeS σ vs)
      have wt' : L2.wipe τ1 vs = L2.wipe τ vs := (wt vs hv).trans (wipe_wipe τ vs)
      have back : ∀ {F5 H5 : Hp} {x5 : Option Gst}, Ex F3 F5 → Env K g (upd Φ D (.lst va)) F0 F5 H5 τ1 σ1 x5 → Env K g Φ F0 F5 H5 τ σ x5 ∧ H5 D = some (.lst va) ∧ Fresh g Φ F5 τ σ D := fun {F5 H5 x5} e5 E5 => by
        have E6 := E5.wipe vs
        rw [wt', ws] at E6
        have E7 := (E3.lift hD3 fr3).unwipe E6 e5 cs
        have hD5 := E7.fr D _ upd_same
        have z : F5 D = none := E7.dj D _ (by intro _ z; cases z) upd_same (E3.f0.back fr3.f)
        exact ⟨E7.drop (Ex.new fr3.ph), hD5, ⟨z, fr3.ph, fr3.g, fr3.o⟩⟩
      refine c.ok g _ F0 W0 F3 H3 τ1 σ1 x2 _ trivial E4 ?_
      cases ec : c.f σ1 x2 with
      | bad => simp only [ec] at hp; cases hp
      | exc C y x5 => simp only [ec] at hp; cases hp
      | ok b x5 =>
        simp only [ec] at hp
        intro F5 H5 e5 E5
        cases b with
        | false =>
          simp only [Bool.false_eq_true, if_false]
          simp only at hp
          obtain ⟨E6, hD6, fr6⟩ := back e5 E5
          exact ⟨F5, x5, acc, va, (e2.trans al.f).trans e5, E6, hD6, fr6, ra.mono (al.f.trans e5), hp⟩
        | true =>
          simp only [if_true]
          simp only at hp
          refine e.ok g _ F0 W0 F5 H5 τ1 σ1 x5 _ trivial E5 ?_
          cases ee : e.f σ1 x5 with
          | bad => simp only [ee] at hp; cases hp
          | exc C y x6 => simp only [ee] at hp; cases hp
          | ok y x6 =>
            simp only [ee] at hp
            have hlen : decide (acc.length < 16777216) = true := Decidable.byContradiction fun z => by
              rw [if_neg z] at hp; cases hp
            rw [if_pos hlen] at hp
            intro u F6 H6 e6 E6 ru
            obtain ⟨E7, hD7, fr7⟩ := back (e5.trans e6) E6
            refine ⟨va, hD7, ?_, F6, x6, acc ++ [y], va ++ [u], ((e2.trans al.f).trans e5).trans e6, ?_, upd_same, fr7, ?_, hp⟩
            · rw [ra.length, sizeLine_eq]; exact of_decide_eq_true hlen
            · exact {
                ex := E7.ex.mut fr7.f
                f0 := E7.f0
                fr := E7.fr.mut fr7.ph
                dj := E7.dj
                len := E7.len
                get := fun i s h => by
                  obtain ⟨w', h1, h2⟩ := E7.get i s h
                  refine ⟨w', h1, ?_⟩
                  cases s with
                  | dat d => exact h2
                  | own l =>
                    obtain ⟨q, vs', rfl, b2, b3, b4⟩ := h2
                    have hne : q ≠ D := fun z => fr7.o i _ h rfl (by rw [h1, z])
                    exact ⟨q, vs', rfl, by rw [upd_ne hne]; exact b2, b3, b4⟩
                  | dic l =>
                    obtain ⟨q, vs', rfl, b2, b3, b4⟩ := h2
                    have hne : q ≠ D := fun z => fr7.o i _ h rfl (by rw [h1, z])
                    exact ⟨q, vs', rfl, by rw [upd_ne hne]; exact b2, b3, b4⟩
                  | dik l =>
                    obtain ⟨q, vs', rfl, b2, b3, b4⟩ := h2
                    have hne : q ≠ D := fun z => fr7.o i _ h rfl (by rw [h1, z])
                    exact ⟨q, vs', rfl, by rw [upd_ne hne]; exact b2, b3, b4⟩
                  | clo => exact ⟨h2.1, h2.2.1, code_upd hD7 (fun _ _ z => by unfold LamX.CodeO at z; cases z) _ _ h2.2.2.1, h2.2.2.2⟩
                own := E7.own
                dis := E7.dis
                gr := E7.gr.mono (Ex.refl _) (fun a ha => (E7.gr.on a ha).2) (fun a ha => upd_ne (fun z => fr7.g (by rw [← z]; exact ha))) (code_upd hD7 (fun _ _ z => by unfold LamX.CodeO at z; cases z)) E7.gr.tb.nf
                gf := E7.gf
                np := E7.np }
            · exact (ra.mono ((al.f.trans e5).trans e6)).append (.cons ru .nil)
  · have e : i = ds.length := by omega
    subst e
    refine .inl ⟨w.stops H (hG _ H p), ?_⟩
    obtain ⟨F', x', acc, va, e2, E2, hD2, fr2, ra, hp⟩ := p
    rw [List.drop_length] at hp
    cases hp
    exact fin F' H va e2 E2 hD2 fr2 ra
def compF2 (tg : D → Sg → Option Sg) (cf : Sg → Option Gst → R Bool) (si : Sg → Option Gst → R (List D)) (tg2 : D → Sg → Option Sg) (cf2 : Sg → Option Gst → R Bool) (ef : Sg → Option Gst → R D) (vs2 : List Nat) (σ : Sg) : List D → List D → Option Gst → R (List D)
  | [], acc, x => .ok acc x
  | d :: ds, acc, x => match tg d σ with
    | none => .bad
    | some σ1 => match cf σ1 x with
      | .ok true x1 => match si σ1 x1 with
        | .ok es x2 => if calmS σ1 vs2 = true then match compF tg2 cf2 ef (wipeS σ1 vs2) es acc x2 with
          | .ok acc' x3 => compF2 tg cf si tg2 cf2 ef vs2 σ ds acc' x3
          | _ => .bad else .bad
        | _ => .bad
      | .ok false x1 => compF2 tg cf si tg2 cf2 ef vs2 σ ds acc x1
      | _ => .bad
section
variable {K : PySem.W.Frag} {B : Bs}
def SN.comp2 (vs vs2 : List Nat) (s : SI K B) (tg : SG K) (c : ST K B0) (s2 : SI K B0) (tg2 : SG K) (c2 : ST K B0) (e : SE K B0) (hv : (tg.idx.all fun i => vs.contains i) = true) (hv2 : (tg2.idx.all fun i => vs2.contains i) = true) : SN K B where
  t := fun W => tLc2 (s.t W) tg.t (c.t W0) (s2.t W0) tg2.t (c2.t W0) (e.t W0) vs vs2
  f := fun σ x => (s.f σ x).bind fun ds x1 => if calmS σ vs = true then compF2 tg.f c.f s2.f tg2.f c2.f e.f vs2 (wipeS σ vs) ds [] x1 else .bad
  ok := fun g Φ F0 W F H τ σ x Q hB E h => by
    have hv' : ∀ i ∈ tg.idx, i ∈ vs := fun i hi => by simpa using List.all_eq_true.mp hv i hi
    have hv2' : ∀ i ∈ tg2.idx, i ∈ vs2 := fun i hi => by simpa using List.all_eq_true.mp hv2 i hi
    refine s.ok g Φ F0 W F H τ σ x _ hB E (Post.step h fun ds x1 h1 J F1 H1 e1 E1 w => ?_)
    have cs : calmS σ vs = true := Decidable.byContradiction fun cs => by
      rw [if_neg cs] at h1
      exact h1.elim
    rw [if_pos cs] at h1
    obtain ⟨Y, w, hy⟩ := w
    intro D hD
    let Pv : Nat → Hp → Prop := fun i H' => ∃ F' x' acc va, Ex F1 F' ∧ Env K g Φ F0 F' H' τ σ x' ∧ H' D = some (.lst va) ∧ Fresh g Φ F' τ σ D ∧ Reps K (gsa g) F' va acc ∧
      Post K g Φ F0 W F τ σ (QN K g Φ F0 F τ σ Q) (compF2 tg.f c.f s2.f tg2.f c2.f e.f vs2 (wipeS σ vs) (ds.drop i) acc x')
    have hG : ∀ i H, Pv i H → Ex F1 H := fun i H ⟨F', x', acc, va, e2, E2, _⟩ => e2.trans E2.ex
    refine ⟨fun i m H => m = ds.length - i ∧ i ≤ ds.length ∧ Pv i H, ⟨ds.length, by simp, Nat.zero_le _, F1, x1, [], [], Ex.refl _, E1.al (Al.newO E1.ex hD), upd_same, E1.fresh hD, .nil, h1⟩, ?_⟩
    rintro i m H ⟨rfl, hi, p⟩
    by_cases hlt : i < ds.length
    · refine .inr ⟨w.goes i H hlt (hG i H p), Pv (i + 1), fun H' p' => ⟨ds.length - (i + 1), by omega, rfl, hlt, p'⟩, fun v H3 yl => ?_⟩
      have yv := w.yields i H v H3 hlt (hG i H p) yl
      obtain ⟨F2, x2, acc, va, e2, E2, hD2, fr2, ra, hp⟩ := p
      obtain ⟨F3, d, al, hd, rd⟩ := hy i H v H3 hlt (e2.trans E2.ex) yv F2 e2 E2.ex
      have E3 := E2.al al
      have hD3 := al.h _ _ hD2
      have fr3 := fr2.al hD2 al
      have edr : ds.drop i = d :: ds.drop (i + 1) := by
        obtain ⟨hlt, hh⟩ := List.getElem?_eq_some_iff.mp hd
        rw [← hh]; exact List.drop_eq_getElem_cons hlt
      rw [edr] at hp
      unfold compF2 at hp
      cases et : tg.f d (wipeS σ vs) with
      | none => simp only [et] at hp; exact hp.elim
      | some σ1 =>
        simp only [et] at hp
        have E3w := (E3.lift hD3 fr3).wipe vs
        refine tg.ok g _ F0 F3 H3 (L2.wipe τ vs) (wipeS σ vs) x2 v d σ1 _ E3w rd et fun τ1 E4 wt => ⟨(wt vs hv').trans (wipe_wipe τ vs), ?_⟩
        have ws : wipeS σ1 vs = wipeS σ vs := (tg.okS d _ σ1 et vs hv').trans (wipeS_wipeS σ vs)
        have wt' : L2.wipe τ1 vs = L2.wipe τ vs := (wt vs hv').trans (wipe_wipe τ vs)
        have back : ∀ {F5 H5 : Hp} {x5 : Option Gst}, Ex F3 F5 → Env K g (upd Φ D (.lst va)) F0 F5 H5 τ1 σ1 x5 → Env K g Φ F0 F5 H5 τ σ x5 ∧ H5 D = some (.lst va) ∧ Fresh g Φ F5 τ σ D := fun {F5 H5 x5} e5 E5 => by
          have E6 := E5.wipe vs
          rw [wt', ws] at E6
          have E7 := (E3.lift hD3 fr3).unwipe E6 e5 cs
          have hD5 := E7.fr D _ upd_same
          have z : F5 D = none := E7.dj D _ (by intro _ z; cases z) upd_same (E3.f0.back fr3.f)
          exact ⟨E7.drop (Ex.new fr3.ph), hD5, ⟨z, fr3.ph, fr3.g, fr3.o⟩⟩
        refine c.ok g _ F0 W0 F3 H3 τ1 σ1 x2 _ trivial E4 ?_
        cases ec : c.f σ1 x2 with
        | bad => simp only [ec] at hp; exact hp.elim
        | exc C y x5 => simp only [ec] at hp; exact hp.elim
        | ok b x5 =>
          simp only [ec] at hp
          intro F5 H5 e5 E5
          cases b with
          | false =>
            simp only [Bool.false_eq_true, if_false]
            simp only at hp
            obtain ⟨E6, hD6, fr6⟩ := back e5 E5
            exact ⟨F5, x5, acc, va, (e2.trans al.f).trans e5, E6, hD6, fr6, ra.mono (al.f.trans e5), hp⟩
          | true =>
            simp only [if_true]
            simp only at hp
            refine s2.ok g _ F0 W0 F5 H5 τ1 σ1 x5 _ trivial E5 ?_
            cases es : s2.f σ1 x5 with
            | bad => simp only [es] at hp; exact hp.elim
            | exc C y x6 => simp only [es] at hp; exact hp.elim
            | ok es' x6 =>
              simp only [es] at hp
              intro J2 F6 H6 e6 E6 w2
              have cs2 : calmS σ1 vs2 = true := Decidable.byContradiction fun z => by
                rw [if_neg z] at hp
                exact hp.elim
              rw [if_pos cs2] at hp
              cases eq : compF tg2.f c2.f e.f (wipeS σ1 vs2) es' acc x6 with
              | bad => simp only [eq] at hp; exact hp.elim
              | exc C y x7 => simp only [eq] at hp; exact hp.elim
              | ok accF xF =>
                simp only [eq] at hp
                have hD6 := E6.fr D _ upd_same
                have z6 : F6 D = none := E6.dj D _ (by intro _ z; cases z) upd_same (E3.f0.back fr3.f)
                have fr6 : Fresh g Φ F6 τ1 σ1 D := ⟨z6, fr3.ph, fr3.g, fun i s q1 q2 q3 => by
                  have := (E6.own i s D q1 q2 q3).1
                  rw [upd_same] at this; cases this⟩
                refine comp_in (accF := accF) (xF := xF) hv2' cs2 w2 (E6.drop (Ex.new fr3.ph)) hD6 fr6 (ra.mono ((al.f.trans e5).trans e6)) eq ?_
                intro F7 H7 va7 e7 E7 hD7 fr7 ra7
                have e37 : Ex F3 F7 := (e5.trans e6).trans e7
                have E8 := E7.wipe vs
                rw [wt', ws] at E8
                have E9 := E3.unwipe E8 e37 cs
                exact ⟨F7, xF, accF, va7, (e2.trans al.f).trans e37, E9, hD7, ⟨fr7.f, fr3.ph, fr3.g, fr3.o⟩, ra7, hp⟩
    · have e : i = ds.length := by omega
      subst e
      refine .inl ⟨w.stops H (hG _ H p), ?_⟩
      obtain ⟨F', x', acc, va, e2, E2, hD2, fr2, ra, hp⟩ := p
      rw [List.drop_length] at hp
      exact hp D va F' H (e1.trans e2) E2 hD2 fr2 ra
end
end Yx

namespace Yx
variable [Tb] [Cb]
open PySem L2 RZ

/-- what a statement gives -/
inductive O where
  | nx (σ : Sg) (x : Option Gst) | rt (d : D) (x : Option Gst) | bk (σ : Sg) (x : Option Gst) | ct (σ : Sg) (x : Option Gst) | exc (C : Addr) (y : Option (Str × D)) (σ : Sg) (x : Option Gst) | bad
/-- a def's end -/
structure Fin (K : PySem.W.Frag) (g : GA) (Φ F0 F H : Hp) (x : Option Gst) : Prop where
  ex : Ex F H
  f0 : Ex F0 F
  fr : Ex Φ H
  dj : ∀ a o, nTup o → Φ a = some o → F0 a = none → F a = none
  gr : GRep K g F H x
theorem Env.fin {K : PySem.W.Frag} {g : GA} {Φ F0 F H : Hp} {τ : St} {σ : Sg} {x : Option Gst} (E : Env K g Φ F0 F H τ σ x) : Fin K g Φ F0 F H x := ⟨E.ex, E.f0, E.fr, E.dj, E.gr⟩
section
variable (K : PySem.W.Frag) (g : GA) (Φ F0 : Hp) (W : WX) (F : Hp) (D : Ends)
def PN (q : St → Hp → Prop) (σ : Sg) (x : Option Gst) : Prop := ∀ F' H' τ', Ex F F' → Env K g Φ F0 F' H' τ' σ x → q τ' H'
def PostS : O → Prop
  | .nx σ x => PN K g Φ F0 F D.nx σ x
  | .bk σ x => PN K g Φ F0 F D.bk σ x
  | .ct σ x => PN K g Φ F0 F D.ct σ x
  | .rt d x => ∀ v F' H', Ex F F' → Fin K g Φ F0 F' H' x → Rep K (gsa g) F' v d → D.rt v H'
  | .exc C y σ x => ∀ F' H' τ' dd, Ex F F' → Env K g Φ F0 F' H' τ' σ x → XRep K (gsa g) F' dd y → W (.ref C) dd τ' H'
  | .bad => False
end
def R.toO {α : Type} (r : R α) (σ : Sg) (k : α → Option Gst → O) : O :=
  match r with
  | .ok a x => k a x
  | .exc C y x => .exc C y σ x
  | .bad => .bad
@[simp] theorem toO_ok {α : Type} (a : α) (x : Option Gst) (σ : Sg) (k : α → Option Gst → O) : (R.ok a x).toO σ k = k a x := rfl
@[simp] theorem toO_exc {α : Type} (C : Addr) (y : Option (Str × D)) (x : Option Gst) (σ : Sg) (k : α → Option Gst → O) : (R.exc C y x).toO σ k = .exc C y σ x := rfl
@[simp] theorem toO_bad {α : Type} (σ : Sg) (k : α → Option Gst → O) : (R.bad).toO σ k = .bad := rfl
def O.then (o : O) (k : Sg → Option Gst → O) : O :=
  match o with
  | .nx σ x => k σ x
  | o => o
@[simp] theorem then_nx (σ : Sg) (x : Option Gst) (k : Sg → Option Gst → O) : (O.nx σ x).then k = k σ x := rfl
@[simp] theorem then_rt (d : D) (x : Option Gst) (k : Sg → Option Gst → O) : (O.rt d x).then k = .rt d x := rfl
@[simp] theorem then_exc (C : Addr) (y : Option (Str × D)) (σ : Sg) (x : Option Gst) (k : Sg → Option Gst → O) : (O.exc C y σ x).then k = .exc C y σ x := rfl
@[simp] theorem then_bad (k : Sg → Option Gst → O) : (O.bad).then k = .bad := rfl
@[simp] theorem then_bk (σ : Sg) (x : Option Gst) (k : Sg → Option Gst → O) : (O.bk σ x).then k = .bk σ x := rfl
@[simp] theorem then_ct (σ : Sg) (x : Option Gst) (k : Sg → Option Gst → O) : (O.ct σ x).then k = .ct σ x := rfl
section
variable {K : PySem.W.Frag} {g : GA} {Φ F0 : Hp} {W : WX} {F F1 : Hp} {D : Ends}
theorem PN.mono {q : St → Hp → Prop} {σ : Sg} {x : Option Gst} (e : Ex F F1) (h : PN K g Φ F0 F q σ x) : PN K g Φ F0 F1 q σ x := fun F' H' τ' e1 E => h F' H' τ' (e.trans e1) E
theorem PostS.mono {o : O} (e : Ex F F1) (h : PostS K g Φ F0 W F D o) : PostS K g Φ F0 W F1 D o := by
  cases o with
  | nx σ x => exact PN.mono e h
  | bk σ x => exact PN.mono e h
  | ct σ x => exact PN.mono e h
  | rt d x => exact fun v F' H' e1 => h v F' H' (e.trans e1)
  | exc C y σ x => exact fun F' H' τ' dd e1 => h F' H' τ' dd (e.trans e1)
  | bad => exact h
theorem PostS.stepR {α : Type} {r : R α} {k : α → Option Gst → O} {τ : St} {σ : Sg} {q : α → Option Gst → Prop} (h : PostS K g Φ F0 W F D (r.toO σ k)) (hq : ∀ a x, PostS K g Φ F0 W F D (k a x) → q a x) : Post K g Φ F0 W F τ σ q r := by
  cases r with
  | ok a x => exact hq a x h
  | exc C y x => exact fun F' H' dd e E r => h F' H' τ dd e E r
  | bad => exact h
end
/-- a sound statement (or block) -/
structure SS (K : PySem.W.Frag) where
  t : WX → TS
  f : Sg → Option Gst → O
  ok : ∀ g Φ F0 W F H τ σ x (D : Ends), Env K g Φ F0 F H τ σ x → PostS K g Φ F0 W F D (f σ x) → t W D τ H

section
variable {K : PySem.W.Frag}
def SS.skip : SS K where
  t := fun _ => tNext
  f := fun σ x => .nx σ x
  ok := fun g Φ F0 W F H τ σ x D E h => h F H τ (Ex.refl F) E
def SS.seq (a b : SS K) : SS K where
  t := fun W => tSeq (a.t W) (b.t W)
  f := fun σ x => (a.f σ x).then b.f
  ok := fun g Φ F0 W F H τ σ x D E h => by
    refine a.ok g Φ F0 W F H τ σ x _ E ?_
    cases ea : a.f σ x with
    | nx σ1 x1 =>
      rw [ea] at h
      exact fun F' H' τ' e E' => b.ok g Φ F0 W F' H' τ' σ1 x1 D E' (h.mono e)
    | rt d x1 => rw [ea] at h; exact h
    | bk σ1 x1 => rw [ea] at h; exact h
    | ct σ1 x1 => rw [ea] at h; exact h
    | exc C y σ1 x1 => rw [ea] at h; exact h
    | bad => rw [ea] at h; exact h
def SS.asg (tg : SG K) (e : SE K B0) : SS K where
  t := fun W => tAsg (e.t W) tg.t
  f := fun σ x => (e.f σ x).toO σ fun d x1 => match tg.f d σ with
    | some σ1 => .nx σ1 x1
    | none => .bad
  ok := fun g Φ F0 W F H τ σ x D E h => by
    refine e.ok g Φ F0 W F H τ σ x _ trivial E (PostS.stepR h fun d x1 h1 v F1 H1 e1 E1 r1 => ?_)
    cases et : tg.f d σ with
    | none => simp only [et] at h1; exact h1.elim
    | some σ1 =>
      simp only [et] at h1
      exact tg.ok g Φ F0 F1 H1 τ σ x1 v d σ1 _ E1 r1 et fun τ' E' _ => h1 F1 H1 τ' e1 E'
/-- x = a new list that will change -/
def SS.asgO (i : Nat) (e : SN K B0) : SS K where
  t := fun W => tAsg (e.t W) (gName i)
  f := fun σ x => (e.f σ x).toO σ fun ds x1 => .nx (σ.set i (some (.own ds))) x1
  ok := fun g Φ F0 W F H τ σ x D E h => by
    refine e.ok g Φ F0 W F H τ σ x _ trivial E (PostS.stepR h fun ds x1 h1 p vs F1 H1 e1 E1 hp fr r1 => ?_)
    exact h1 F1 H1 _ e1 (E1.setO i rfl fr ⟨p, vs, rfl, hp, r1, fr.f⟩)
def SS.expr (e : SE K B0) : SS K where
  t := fun W => tDrop (e.t W)
  f := fun σ x => (e.f σ x).toO σ fun _ x1 => .nx σ x1
  ok := fun g Φ F0 W F H τ σ x D E h => by
    refine e.ok g Φ F0 W F H τ σ x _ trivial E (PostS.stepR h fun d x1 h1 v F1 H1 e1 E1 r1 => h1 F1 H1 τ e1 E1)
def SS.append (i : Nat) (e : SE K B0) : SS K where
  t := fun W => tDrop (tBM K "list" rAppend (tVar i) (tCons (e.t W) tNil))
  f := fun σ x => match sown σ i with
    | none => .bad
    | some ds => (e.f σ x).toO σ fun d x1 => if decide (ds.length < 16777216) = true then .nx (σ.set i (some (.own (ds ++ [d])))) x1 else .bad
  ok := fun g Φ F0 W F H τ σ x D E h => by
    cases es : sown σ i with
    | none => simp only [es] at h; exact h.elim
    | some ds =>
      simp only [es] at h
      obtain ⟨v, h1, p, vs, rfl, h2, h3, _⟩ := E.get i _ (sown_some es)
      refine ⟨_, h1, .inl ⟨rfl, vs, SqL.of h2⟩, ?_⟩
      refine e.ok g Φ F0 W F H τ σ x _ trivial E (PostS.stepR h fun d x1 g1 u F1 H1 e1 E1 r1 => ?_)
      have hlen : decide (ds.length < 16777216) = true := Decidable.byContradiction fun z => by
        rw [if_neg z] at g1
        exact g1.elim
      rw [if_pos hlen] at g1
      obtain ⟨v', h1', p', vs', rfl, k2, k3, k4⟩ := E1.get i _ (sown_some es)
      rw [h1] at h1'; cases h1'
      refine ⟨p, vs', u, rfl, rfl, k2, by rw [k3.length, sizeLine_eq]; exact of_decide_eq_true hlen, ?_⟩
      exact g1 F1 _ τ e1 (E1.write i (sown_some es) h1 rfl rfl k4 ⟨p, _, rfl, upd_same, k3.append (.cons r1 .nil), k4⟩)
/-- x[j] = e -/
def SS.setix (i : Nat) (ei e : SE K B0) : SS K where
  t := fun W => tAsg (e.t W) (gSub (tVar i) (ei.t W) rSetL)
  f := fun σ x => match sown σ i with
    | none => .bad
    | some ds => (e.f σ x).toO σ fun d x1 => (ei.f σ x1).toO σ fun k x2 => match k with
      | .int k => match ixN ds.length k with
        | some j => .nx (σ.set i (some (.own (ds.set j d)))) x2
        | none => .bad
      | _ => .bad
  ok := fun g Φ F0 W F H τ σ x D E h => by
    cases es : sown σ i with
    | none => simp only [es] at h; exact h.elim
    | some ds =>
      simp only [es] at h
      refine e.ok g Φ F0 W F H τ σ x _ trivial E (PostS.stepR h fun d x1 h1 u F1 H1 e1 E1 r1 => ?_)
      obtain ⟨v, g1, p, vs, rfl, g2, g3, _⟩ := E1.get i _ (sown_some es)
      refine ⟨_, g1, ?_⟩
      refine ei.ok g Φ F0 W F1 H1 τ σ x1 _ trivial E1 (Post.mono e1 (PostS.stepR (τ := τ) h1 fun k x2 h2 => h2) fun k x2 h2 w F2 H2 e2 E2 r2 => ?_)
      cases r2 with
      | int =>
        rename_i k
        simp only at h2
        cases ej : ixN ds.length k with
        | none => simp only [ej] at h2; exact h2.elim
        | some j =>
          simp only [ej] at h2
          obtain ⟨v', h1', p', vs', rfl, k2, k3, k4⟩ := E2.get i _ (sown_some es)
          rw [g1] at h1'; cases h1'
          refine ⟨p, vs', k, j, rfl, rfl, k2, by rw [k3.length]; exact ej, ?_⟩
          exact h2 F2 _ τ (e1.trans e2) (E2.write i (sown_some es) g1 rfl rfl k4 ⟨p, _, rfl, upd_same, k3.set j (r1.mono e2), k4⟩)
      | _ => exact h2.elim
def SS.ret (e : SE K B0) : SS K where
  t := fun W => tRet (e.t W)
  f := fun σ x => (e.f σ x).toO σ fun d x1 => .rt d x1
  ok := fun g Φ F0 W F H τ σ x D E h => by
    refine e.ok g Φ F0 W F H τ σ x _ trivial E (PostS.stepR h fun d x1 h1 v F1 H1 e1 E1 r1 => h1 v F1 H1 e1 E1.fin r1)
def SS.ite (c : ST K B0) (a b : SS K) : SS K where
  t := fun W => tIfS (c.t W) (a.t W) (b.t W)
  f := fun σ x => (c.f σ x).toO σ fun k x1 => if k = true then a.f σ x1 else b.f σ x1
  ok := fun g Φ F0 W F H τ σ x D E h => by
    refine c.ok g Φ F0 W F H τ σ x _ trivial E (PostS.stepR h fun k x1 h1 F1 H1 e1 E1 => ?_)
    cases k with
    | true => simp only [if_true] at h1 ⊢; exact a.ok g Φ F0 W F1 H1 τ σ x1 D E1 (h1.mono e1)
    | false => simp only [Bool.false_eq_true, if_false] at h1 ⊢; exact b.ok g Φ F0 W F1 H1 τ σ x1 D E1 (h1.mono e1)
def SS.brk : SS K where
  t := fun _ => tBreak
  f := fun σ x => .bk σ x
  ok := fun g Φ F0 W F H τ σ x D E h => h F H τ (Ex.refl F) E
def SS.cont : SS K where
  t := fun _ => tCont
  f := fun σ x => .ct σ x
  ok := fun g Φ F0 W F H τ σ x D E h => h F H τ (Ex.refl F) E
/-- the list of slot i will not change from here on -/
def SS.frz (i : Nat) (s : SS K) : SS K where
  t := s.t
  f := fun σ x => match sown σ i with
    | none => .bad
    | some ds => s.f (σ.set i (some (.dat (.lst ds)))) x
  ok := fun g Φ F0 W F H τ σ x D E h => by
    cases es : sown σ i with
    | none => simp only [es] at h; exact h.elim
    | some ds =>
      simp only [es] at h
      obtain ⟨F', e, E'⟩ := E.freeze (sown_some es)
      exact s.ok g Φ F0 W F' H τ _ x D E' (h.mono e)

/-! ### loops -/
def forF (tg : D → Sg → Option Sg) (bf : Sg → Option Gst → O) : List D → Sg → Option Gst → O
  | [], σ, x => .nx σ x
  | d :: ds, σ, x => match tg d σ with
    | none => .bad
    | some σ1 => match bf σ1 x with
      | .nx σ2 x2 => forF tg bf ds σ2 x2
      | .ct σ2 x2 => forF tg bf ds σ2 x2
      | .bk σ2 x2 => .nx σ2 x2
      | o => o
def SS.for (s : SI K B0) (tg : SG K) (b : SS K) : SS K where
  t := fun W => tFor (s.t W) tg.t (b.t W)
  f := fun σ x => (s.f σ x).toO σ fun ds x1 => forF tg.f b.f ds σ x1
  ok := fun g Φ F0 W F H τ σ x D E h => by
    refine s.ok g Φ F0 W F H τ σ x _ trivial E (PostS.stepR h fun ds x1 h1 J F1 H1 e1 E1 w => ?_)
    obtain ⟨Y, w, hy⟩ := w
    refine for_it w (fun i τ' H' => ∃ F' σ' x', Ex F1 F' ∧ Env K g Φ F0 F' H' τ' σ' x' ∧ PostS K g Φ F0 W F' D (forF tg.f b.f (ds.drop i) σ' x')) ?_ ?_ ?_ ?_
    · exact ⟨F1, σ, x1, Ex.refl _, E1, h1.mono e1⟩
    · rintro i τ' H' _ ⟨F', σ', x', e2, E2, _⟩
      exact e2.trans E2.ex
    · rintro i v τ2 H2 H3 hi ⟨F2, σ2, x2, e2, E2, hp⟩ yv
      obtain ⟨F3, d, al, hd, rd⟩ := hy i H2 v H3 hi (e2.trans E2.ex) yv F2 e2 E2.ex
      have E3 := E2.al al
      have edr : ds.drop i = d :: ds.drop (i + 1) := by
        obtain ⟨hlt, hh⟩ := List.getElem?_eq_some_iff.mp hd
        rw [← hh]; exact List.drop_eq_getElem_cons hlt
      rw [edr] at hp
      unfold forF at hp
      cases et : tg.f d σ2 with
      | none => simp only [et] at hp; exact hp.elim
      | some σ3 =>
        simp only [et] at hp
        refine tg.ok g Φ F0 F3 H3 τ2 σ2 x2 v d σ3 _ E3 rd et fun τ3 E4 _ => ?_
        refine b.ok g Φ F0 W F3 H3 τ3 σ3 x2 _ E4 ?_
        have e3 : Ex F2 F3 := al.f
        cases eb : b.f σ3 x2 with
        | nx σ4 x4 => simp only [eb] at hp; exact fun F' H' τ' e4 E' => ⟨F', σ4, x4, (e2.trans e3).trans e4, E', hp.mono (e3.trans e4)⟩
        | ct σ4 x4 => simp only [eb] at hp; exact fun F' H' τ' e4 E' => ⟨F', σ4, x4, (e2.trans e3).trans e4, E', hp.mono (e3.trans e4)⟩
        | bk σ4 x4 => simp only [eb] at hp; exact hp.mono e3
        | rt d x4 => simp only [eb] at hp; exact hp.mono e3
        | exc C y σ4 x4 => simp only [eb] at hp; exact hp.mono e3
        | bad => simp only [eb] at hp; exact hp.elim
    · rintro τ' H' ⟨F', σ', x', e2, E2, hp⟩
      rw [List.drop_length] at hp
      exact hp F' H' τ' (Ex.refl _) E2
/-- while, at most n turns -/
def whileF (cf : Sg → Option Gst → R Bool) (bf : Sg → Option Gst → O) : Nat → Sg → Option Gst → O
  | 0, _, _ => .bad
  | n + 1, σ, x => (cf σ x).toO σ fun k x1 => if k = true then (match bf σ x1 with
      | .nx σ2 x2 => whileF cf bf n σ2 x2
      | .ct σ2 x2 => whileF cf bf n σ2 x2
      | .bk σ2 x2 => .nx σ2 x2
      | o => o) else .nx σ x1
def SS.while (n : Nat) (c : ST K B0) (b : SS K) : SS K where
  t := fun W => tWhile (c.t W) (b.t W)
  f := fun σ x => whileF c.f b.f n σ x
  ok := fun g Φ F0 W F H τ σ x D E h => by
    refine ⟨fun m τ' H' => ∃ F' σ' x', Ex F F' ∧ Env K g Φ F0 F' H' τ' σ' x' ∧ PostS K g Φ F0 W F' D (whileF c.f b.f m σ' x'), ⟨n, F, σ, x, Ex.refl _, E, h⟩, ?_⟩
    rintro m τ2 H2 ⟨F2, σ2, x2, e2, E2, hp⟩
    cases m with
    | zero => exact hp.elim
    | succ m =>
      refine c.ok g Φ F0 W F2 H2 τ2 σ2 x2 _ trivial E2 (PostS.stepR (τ := τ2) hp fun k x3 h3 F3 H3 e3 E3 => ?_)
      cases k with
      | false => simp only [Bool.false_eq_true, if_false] at h3 ⊢; exact h3 F3 H3 τ2 e3 E3
      | true =>
        simp only [if_true] at h3 ⊢
        refine ⟨fun τ' H' => ∃ F' σ' x', Ex F F' ∧ Env K g Φ F0 F' H' τ' σ' x' ∧ PostS K g Φ F0 W F' D (whileF c.f b.f m σ' x'), fun τ' H' hN => ⟨m, Nat.lt_succ_self m, hN⟩, ?_⟩
        refine b.ok g Φ F0 W F3 H3 τ2 σ2 x3 _ E3 ?_
        cases eb : b.f σ2 x3 with
        | nx σ4 x4 => simp only [eb] at h3; exact fun F' H' τ' e4 E' => ⟨F', σ4, x4, (e2.trans e3).trans e4, E', h3.mono (e3.trans e4)⟩
        | ct σ4 x4 => simp only [eb] at h3; exact fun F' H' τ' e4 E' => ⟨F', σ4, x4, (e2.trans e3).trans e4, E', h3.mono (e3.trans e4)⟩
        | bk σ4 x4 => simp only [eb] at h3; exact h3.mono e3
        | rt d x4 => simp only [eb] at h3; exact h3.mono e3
        | exc C y σ4 x4 => simp only [eb] at h3; exact h3.mono e3
        | bad => simp only [eb] at h3; exact h3.elim
end
end Yx

namespace Yx
variable [Tb] [Cb]
open PySem L2 RZ PySem.Spec PyProof.Rows

/-! ### a def's promise where no repr is under way around it -/
structure FnG (P : Program) (w : World) (K : PySem.W.Frag) (mg : Str → Option Value) (base : Heap) (k : Nat) (f : Addr) (fd : FuncData) (ps : List Str) (sp : Sp) : Prop where
  len : ∀ vs H Q E, sp vs H Q E → vs.length = ps.length
  run : ∀ (A : Around) (outer : List PySem.Env) (s : Shared) (H : Hp) (args : Args) (us : List Value) (vs : List V) (Q : VK) (E : XK),
    Room k A → A.guards = some [] → Env0 P w K mg base A outer s H → BindsTo s fd args (ps.zip us) → Vals vs us → sp vs H Q E →
    codeAny (model P w) A (.call (.ref f) args) (CR (L2.CX P w) outer P w H s Q E) s
theorem FnG.mono {P : Program} {w : World} {K : PySem.W.Frag} {mg : Str → Option Value} {base : Heap} {j k : Nat} {f : Addr} {fd : FuncData} {ps : List Str} {sp : Sp}
    (F : FnG P w K mg base j f fd ps sp) (h : j ≤ k) : FnG P w K mg base k f fd ps sp :=
  ⟨F.len, fun A outer s H args us vs Q E r => F.run A outer s H args us vs Q E (r.mono h)⟩
section
variable {P : Program} {w : World} {K : PySem.W.Frag} {mg : Str → Option Value} {base : Heap} {k : Nat} {f : Addr}
theorem fnG_of {name qual : Str} {params : Arguments} {body : List Stmt} {sc : Scope} {dV kV doc pm cdv ct oc : Value} {an od : Option Addr} {osl : Array (Option Value)} {N ps : List Str} {sp : Sp}
    (at_ : K.lookup f = some ⟨oc, od, .func (PySem.W.fnOf name qual params body sc dV kV doc pm an cdv ct), osl⟩) (code : PySem.W.codeIn K cdv qual = true) (S : FnScope N ps sc)
    (len : ∀ vs H Q E, sp vs H Q E → vs.length = ps.length)
    (hbody : ∀ (A : Around) (outer : List PySem.Env) (s : Shared) (H : Hp) (vs : List V) (Q : VK) (E : XK),
      Room k (A.deeper (envOfC qual sc s.heap.objs.size f cdv)) → (A.deeper (envOfC qual sc s.heap.objs.size f cdv)).guards = some [] → sp vs H Q E →
      ∃ t, PSs (cxOf (L2.CX P w) P w K mg base N qual sc f cdv A outer s H E) body t ∧ t { nx := fun _ H' => Q .non H', rt := Q } (L2.start N vs) H) :
    FnG P w K mg base (k + 1) f (PySem.W.fnOf name qual params body sc dV kV doc pm an cdv ct) ps sp := by
  constructor
  · exact len
  intro A outer s H args us vs Q E room gu en bi vals want
  have hlen : vs.length = ps.length := len vs H Q E want
  have down : ∀ b o, base.get? b = some o → s.heap.get? b = some o := fun b o e => (en.bs b o e).1
  have inn : K.In s.heap := en.mod.kin.keeps down
  have nolim : s.heap.NoLimit := en.mod.nolimit.keeps down
  refine codeAny_call_function room.depth (inn _ _ at_) rfl S.co S.gen rfl (PySem.W.codeRec_of inn code) (bi _ _ _ _ ?_)
  refine wpAny_newFunctionEnv_cells S.kind (fun y hy => ?_) fun ev hev s1 ic => ?_
  · cases S.par y.1 (List.of_mem_zip (show (y.1, y.2) ∈ ps.zip us from hy)).1 with
    | inl q => exact Or.inl q
    | inr q => exact Or.inr ⟨q, PySem.W.cellsFrom_some _ _ _ (Or.inl q)⟩
  · subst hev
    constructor
    · exact nolim.keeps ic.toInCall.keep
    apply codeAny_func
    obtain ⟨t, der, rd⟩ := hbody A outer s H vs Q E (room.deeper _) gu want
    have start0 : Inv (cxOf (L2.CX P w) P w K mg base N qual sc f cdv A outer s H E) [] (L2.start N vs) H s1 :=
      inv_start S room.hd en hlen vals ic
    refine wpAny_mono (der.run [] s1 (L2.start N vs) H _ start0 rd) ?_ (fun e s' z => z)
    intro fl s' got
    cases fl with
    | next =>
      obtain ⟨_, H', J, q⟩ := got
      exact ⟨.non, H', J.os, J.bare, J.base, J.hok, rfl, q⟩
    | ret u =>
      obtain ⟨v, _, H', J, rv, q⟩ := got
      exact ⟨v, H', J.os, J.bare, J.base, J.hok, rv, q⟩
    | brk => obtain ⟨_, _, _, q⟩ := got; exact q.elim
    | cont => obtain ⟨_, _, _, q⟩ := got; exact q.elim
end
section
variable {X : Cx} {k : Nat} {f : Addr} {fd : FuncData} {ps : List Str} {sp : Sp} {x : Str} {p pos : Pos} {e : Expr} {es : List Expr} {t : TA} {W : WX}
theorem run_G {pins : List (Addr × Obj)} {σ : L2.St} {H : Hp} {s : Shared} {Q : VK} {us : List Value} {vs : List V} (F : FnG X.prog X.w X.K X.mg X.base k f fd ps sp) (hr : Room k X.A) (hgu : X.A.guards = some [])
    (hb : Binds X.K fd ps []) (tk : Takes X W) (I : Inv X pins σ H s) (r : Vals vs us) (h : sp vs H Q (WE W σ)) : wpAny (model X.prog X.w) X.A (call (.ref f) us) (EP X pins σ Q) X.xe s := by
  have lus : us.length = ps.length := r.length.symm.trans (F.len _ _ _ _ h)
  have bind := hb s us I.kIn (by simpa using lus)
  simp only [List.append_nil] at bind
  apply wpAny_call
  refine codeAny_mono (F.run X.A X.stack s H ⟨us, []⟩ us vs Q (WE W σ) hr hgu I.env0 bind r h) ?_
  intro res s' got
  match res, got with
  | .error e, got => exact passAt tk σ pins H s e s' I got
  | .ok (.ret u), got => exact I.after got
  | .ok .next, got => exact False.elim got
  | .ok .brk, got => exact False.elim got
  | .ok .cont, got => exact False.elim got
theorem pe_callG (F : FnG X.prog X.w X.K X.mg X.base k f fd ps sp) (hr : Room k X.A) (hgu : X.A.guards = some []) (hg : Gl X x) (hm : X.mg x = some (.ref f)) (hk : PySem.W.keepIn X.K (.ref f) = true) (hb : Binds X.K fd ps []) (tk : Takes X W)
    (ha : PA X (e :: es) t) (hdb : (x == ("__debug__" : Str)) = false := by decide) (he : starEach (e :: es) X.env = (false, eval e X.env) :: starEach es X.env := by rfl)
    (hpl : (backTo pos (starEach es X.env)).any (·.1) = false := by rfl) : PE X (.Call (.Name x p) (e :: es) [] pos) (tCallS sp (WE W) t) := by
  constructor
  intro pins s σ H Q I h
  apply wpAny_Call_Name_kw
  refine ld_glob I hg hm ?_ hdb
  refine PySem.W.callWith_K (h₀ := X.base) I.ok.mod.kin hk ?_ he hpl
  refine thn (ha.run pos pins s σ H _ I h) ?_
  rintro us s1 ⟨vs, H1, I1, r, q⟩
  exact ⟨I1.kIn, run_G F hr hgu hb tk I1 r q⟩
/-- f() -/
theorem pe_callG0 (F : FnG X.prog X.w X.K X.mg X.base k f fd ps sp) (hr : Room k X.A) (hgu : X.A.guards = some []) (hg : Gl X x) (hm : X.mg x = some (.ref f)) (hk : PySem.W.keepIn X.K (.ref f) = true) (hb : Binds X.K fd ps []) (tk : Takes X W)
    (hdb : (x == ("__debug__" : Str)) = false := by decide) : PE X (.Call (.Name x p) [] [] pos) (tCallS sp (WE W) tNil) := by
  constructor
  intro pins s σ H Q I h
  refine wpAny_Call_Name_kw (ld_glob I hg hm ?_ hdb)
  exact PySem.W.callWith_K0 (first := []) I.kIn hk (run_G (us := []) F hr hgu hb tk I .nil h)
end

/-! ### the promise of a plain function -/
abbrev MF := List D → Option Gst → R D
def spF (K : PySem.W.Frag) (m : MF) : Sp := fun vs H Q E => ∃ (g : GA) (F : Hp) (ds : List D) (x : Option Gst), Ex F H ∧ Reps K (gsa g) F vs ds ∧ GRep K g F H x ∧
  match m ds x with
  | .ok d x' => ∀ v F' H', AlG K g F H F' H' x' → Rep K (gsa g) F' v d → Q v H'
  | .exc C y x' => ∀ F' H' dd, AlG K g F H F' H' x' → XRep K (gsa g) F' dd y → E (.ref C) dd H'
  | .bad => False
section
variable {K : PySem.W.Frag} {B : Bs}
def SE.callF (m : MF) (a : SA K B) : SE K B where
  t := fun W => tCallS (spF K m) (WE W) (a.t W)
  f := fun σ x => (a.f σ x).bind m
  ok := fun g Φ F0 W F H τ σ x Q hB E h => by
    refine a.ok g Φ F0 W F H τ σ x _ hB E (Post.step h fun ds x1 h1 vs F1 H1 e1 E1 r1 => ?_)
    refine ⟨g, F1, ds, x1, E1.ex, r1, E1.gr, ?_⟩
    cases em : m ds x1 with
    | ok d x' =>
      rw [em] at h1
      exact fun v F' H' al rv => h1 v F' H' (e1.trans al.f) (E1.alG al) rv
    | exc C y x' =>
      rw [em] at h1
      exact fun F' H' dd al rx => h1 F' H' dd (e1.trans al.f) (E1.alG al) rx
    | bad => rw [em] at h1; exact h1
/-- the slots at a def's entry -/
def startS (N : Nat) (ds : List D) : Sg := ds.map (fun d => some (.dat d)) ++ List.replicate (N - ds.length) none
/-- what a body makes of its arguments -/
def mOf (n N : Nat) (f : Sg → Option Gst → O) : MF := fun ds x =>
  if ds.length = n then
    match f (startS N ds) x with
    | .nx _ x' => .ok .non x'
    | .rt d x' => .ok d x'
    | .exc C y _ x' => .exc C y x'
    | _ => .bad
  else .bad
theorem startS_get {N : Nat} {ds : List D} {i : Nat} {s : Sl} (h : (startS N ds)[i]? = some (some s)) : ∃ d, ds[i]? = some d ∧ s = .dat d := by
  unfold startS at h
  by_cases c : i < ds.length
  · rw [List.getElem?_append_left (by simpa using c), List.getElem?_map] at h
    cases e : ds[i]? with
    | none => rw [e] at h; cases h
    | some d => rw [e] at h; cases h; exact ⟨d, rfl, rfl⟩
  · rw [List.getElem?_append_right (by simpa using c), List.getElem?_replicate] at h
    split at h <;> cases h
theorem start_get {N : List Str} {vs : List V} {i : Nat} {v : V} (h : vs[i]? = some v) : (L2.start N vs)[i]? = some (some v) := by
  unfold L2.start
  have c : i < vs.length := by
    rcases Nat.lt_or_ge i vs.length with c | c
    · exact c
    · rw [List.getElem?_eq_none c] at h; cases h
  rw [List.getElem?_append_left (by simpa using c), List.getElem?_map, h]
  rfl
/-- the frame of a call: all that stands but the drawing state -/
def frameOf (g : GA) (H : Hp) : Hp := fun b => if b ∈ gfp g then none else match H b with
  | some (.tbl _) => none
  | o => o
theorem frameOf_ex (g : GA) (H : Hp) : Ex (frameOf g H) H := fun b o h => by
  unfold frameOf at h
  split at h
  · cases h
  · split at h
    · cases h
    · exact h
theorem frameOf_np (g : GA) (H : Hp) : NoT (frameOf g H) := fun b ps h => by
  unfold frameOf at h
  split at h
  · cases h
  · split at h
    · cases h
    · rename_i hn
      exact hn ps h
theorem frameOf_at {g : GA} {H : Hp} {b : Addr} {o : HO} (hb : b ∉ gfp g) (hn : ∀ ps, o ≠ .tbl ps) (h : H b = some o) : frameOf g H b = some o := by
  unfold frameOf
  rw [if_neg hb, h]
  cases o <;> first | rfl | exact absurd rfl (hn _)
theorem env_start {g : GA} {F H : Hp} {N : List Str} {vs : List V} {ds : List D} {x : Option Gst} (ex : Ex F H) (r : Reps K (gsa g) F vs ds) (gr : GRep K g F H x) (hn : ds.length ≤ N.length) :
    Env K g (frameOf g H) F F H (L2.start N vs) (startS N.length ds) x where
  ex := ex
  f0 := Ex.refl F
  fr := frameOf_ex g H
  dj := fun a o _ _ h => h
  len := by
    unfold L2.start startS
    simp only [List.length_append, List.length_map, List.length_replicate, r.length]
  get := fun i s h => by
    obtain ⟨d, e, rfl⟩ := startS_get h
    obtain ⟨v, h1, h2⟩ := r.get e
    exact ⟨v, start_get h1, h2⟩
  own := fun i s p h m => by
    obtain ⟨d, e, rfl⟩ := startS_get h
    cases m
  dis := fun i j s t v h m => by
    obtain ⟨d, e, rfl⟩ := startS_get h
    cases m
  gr := gr
  gf := fun a ha => by unfold frameOf; rw [if_pos ha]
  np := frameOf_np g H
theorem Fin.alG {g : GA} {F H F' H' : Hp} {x x' : Option Gst} (gr : GRep K g F H x) (z : Fin K g (frameOf g H) F F' H' x') : AlG K g F H F' H' x' where
  f := z.f0
  fh := z.ex
  h := fun b o hb hn h => z.fr b o (frameOf_at hb hn h)
  nw := fun a o t hn h n => by
    by_cases c : a ∈ gfp g
    · exact (z.gr.on a c).2
    · exact z.dj a o t (frameOf_at c hn h) n
  gr := z.gr
/-- what is wanted behind a body -/
theorem body_ok (n : Nat) (N : List Str) (ss : SS K) (hN : n ≤ N.length) {vs : List V} {H : Hp} {Q : VK} {E : XK} (h : spF K (mOf n N.length ss.f) vs H Q E) :
    ss.t (fun cls d _ H' => E cls d H') { nx := fun _ H' => Q .non H', rt := Q } (L2.start N vs) H := by
  obtain ⟨g, F, ds, x, ex, r, gr, h⟩ := h
  unfold mOf at h
  by_cases c : ds.length = n
  · rw [if_pos c] at h
    refine ss.ok g (frameOf g H) F _ F H (L2.start N vs) (startS N.length ds) x _ (env_start ex r gr (by omega)) ?_
    cases eo : ss.f (startS N.length ds) x with
    | nx σ' x' => simp only [eo] at h; exact fun F' H' τ' e E' => h .non F' H' (E'.fin.alG gr) .non
    | rt d x' => simp only [eo] at h; exact fun v F' H' e fin rv => h v F' H' (fin.alG gr) rv
    | exc C y σ' x' => simp only [eo] at h; exact fun F' H' τ' dd e E' rx => h F' H' dd (E'.fin.alG gr) rx
    | bk σ' x' => simp only [eo] at h
    | ct σ' x' => simp only [eo] at h
    | bad => simp only [eo] at h
  · rw [if_neg c] at h; exact h.elim
theorem spF_len {n N : Nat} {f : Sg → Option Gst → O} {vs : List V} {H : Hp} {Q : VK} {E : XK} (h : spF K (mOf n N f) vs H Q E) : vs.length = n := by
  obtain ⟨g, F, ds, x, ex, r, gr, h⟩ := h
  unfold mOf at h
  by_cases c : ds.length = n
  · rw [r.length]; exact c
  · rw [if_neg c] at h; exact h.elim
end
/-- THE RULE for a def of the text -/
theorem def_ok {P : Program} {w : World} {K : PySem.W.Frag} {mg : Str → Option Value} {base : Heap} {x qual : Str} {st : Stmt} {f : Addr} {fd : FuncData} {N ps : List Str} {k : Nat} (F : Fun K x qual st f fd) (S : FnScope N ps (defScope st)) (ss : SS K)
    (der : ∀ (cdv : Value) (A : Around) (outer : List PySem.Env) (s : Shared) (H : Hp) (E : XK), Room k (A.deeper (envOfC qual (defScope st) s.heap.objs.size f cdv)) → (A.deeper (envOfC qual (defScope st) s.heap.objs.size f cdv)).guards = some [] →
      PSs (cxOf (L2.CX P w) P w K mg base N qual (defScope st) f cdv A outer s H E) (defBody st) (ss.t fun cls d _ H' => E cls d H')) :
    FnG P w K mg base (k + 1) f fd ps (spF K (mOf ps.length N.length ss.f)) := by
  obtain ⟨oc, od, kV, doc, pm, an, cdv, ct, osl, rfl, lk, hcd⟩ := F.ex
  have hle : ps.length ≤ N.length := by
    have e := congrArg List.length S.pre
    rw [List.length_take] at e
    omega
  exact fnG_of lk hcd S (fun vs H Q E h => spF_len h) fun A outer s H vs Q E hr hgu h => ⟨_, der cdv A outer s H E hr hgu, body_ok ps.length N ss hle h⟩
end Yx

namespace Yx
variable [Tb] [Cb]
open PySem L2 RZ PySem.Spec PyProof.Rows

/-! ### an own class of error over another own one over ValueError: Base.__init__(self, ..) -/
/-- what the written part says of the base class at Y -/
structure YTxt (K : PySem.W.Frag) (Y : Addr) : Prop where
  sp : PySem.W.specialIn K (.ref Y) "__getattribute__" = some (some (.builtin "type.__getattribute__"))
  ty : PySem.W.typeIn K (.ref Y) = some (.type "type")
  rd : PySem.W.readsIn K Y (.type "type") = true
  fi : PySem.W.findCls K (.ref Y) (.type "type") "__init__" = some (.val (.builtin "ValueError.__init__"))
section
variable {X : Cx} {Y : Addr} {e : Expr} {es : List Expr} {ta : TA} {p1 p2 pos : Pos} {y : Str}
theorem pe_yinit {pl : Sem Bool} (T : YTxt X.K Y) (hg : Gl X y) (hm : X.mg y = some (.ref Y)) (ha : PA X (e :: es) ta) (hdb : (y == ("__debug__" : Str)) = false := by decide)
    (hc : eval (.Call (.Attribute (.Name y p1) "__init__" p2) (e :: es) [] pos) X.env = (do
      let ov ← eval (.Name y p1) X.env
      standAt p2.atName
      let (f, first) ← holding [ov] (getMethod ov "__init__" pl)
      callWith pos f first (backTo pos (starEach (e :: es) X.env)) (backToKw pos (keywordEach [] X.env))) := by rfl)
    (he : starEach (e :: es) X.env = (false, eval e X.env) :: starEach es X.env := by rfl) (hpl : (backTo pos (starEach es X.env)).any (·.1) = false := by rfl) :
    PE X (.Call (.Attribute (.Name y p1) "__init__" p2) (e :: es) [] pos) (tVeI X.K ta) := by
  constructor
  intro pins s σ H Q I h
  refine PySem.W.methodCall_KW (ld_glob I hg hm ?_ hdb) hc
  obtain ⟨m, fr⟩ := I.fr
  refine PySem.W.method_of_cls fr I.ok.mod.kin T.sp ?_
  refine PySem.W.cls_val fr I.ok.mod.kin T.ty T.rd T.fi (by decide +kernel) ?_
  refine PyProof.Rows.callWith_method1 (thn (ha.run pos pins _ σ H _ (I.tok _) h) ?_) he hpl
  rintro us s1 ⟨vs, H1, I1, r1, a, C, ws, rfl, hl, TC, ea, q⟩
  obtain ⟨u0, ur, rfl, ra, rr⟩ : ∃ u0 ur, us = u0 :: ur ∧ RelV (.ref a) u0 ∧ Vals ws ur := by
    cases r1 with
    | cons r1 r2 => exact ⟨_, _, rfl, r1, r2⟩
  obtain rfl : u0 = Value.ref a := ra
  have short : ur.length ≤ sizeLine := by
    have l1 := rr.length
    rw [sizeLine_eq]; omega
  exact oinit_ok TC I1 ea short fun s' J => ⟨.non, H1, J, rfl, q⟩
end

/-! ### what such an __init__ does -/
/-- def __init__(self, v): Base.__init__(self, text); self.f = v -/
def spI1 (C : Addr) (f : Str) : Sp := fun vs H Q _ => ∃ (a : Addr) (v : V), vs = [.ref a, v] ∧ H a = some (exo a C none) ∧
  ∀ dx, H dx = none → dx ≠ a → Q .non (upd (upd H dx (exd dx [(f, v)])) a (exo a C (some dx)))
/-- def __init__(self): Base.__init__(self, text) -/
def spI0 (C : Addr) : Sp := fun vs H Q _ => ∃ (a : Addr), vs = [.ref a] ∧ H a = some (exo a C none) ∧ Q .non H
def tI1 (K : PySem.W.Frag) (z f : Str) : TS := tSeq (tDrop (tVeI K (tCons (tVar 0) (tCons (tC (.str z)) tNil)))) (tOst K f (tVar 0) (tVar 1))
def tI0 (K : PySem.W.Frag) (z : Str) : TS := tDrop (tVeI K (tCons (tVar 0) (tCons (tC (.str z)) tNil)))
theorem i1_rd {K : PySem.W.Frag} {z f : Str} {nf : Str} {vs : List V} {H : Hp} {Q : VK} {E : XK} {C : Addr} (T : OexC K C) (T2 : PySem.W.findIn K (.ref C) f = some none) (h : spI1 C f vs H Q E) :
    tI1 K z f { nx := fun _ H' => Q .non H', rt := Q } (L2.start ["self", nf] vs) H := by
  obtain ⟨a, v, rfl, ha, q⟩ := h
  refine ⟨_, rfl, a, C, [.str z], rfl, by simp, T, ha, ?_⟩
  exact ⟨_, rfl, _, rfl, a, C, rfl, T, T2, .inl ⟨ha, q⟩⟩
theorem i0_rd {K : PySem.W.Frag} {z : Str} {vs : List V} {H : Hp} {Q : VK} {E : XK} {C : Addr} (T : OexC K C) (h : spI0 C vs H Q E) :
    tI0 K z { nx := fun _ H' => Q .non H', rt := Q } (L2.start ["self"] vs) H := by
  obtain ⟨a, rfl, ha, q⟩ := h
  exact ⟨_, rfl, a, C, [.str z], rfl, by simp, T, ha, q⟩

/-! ### raise C(e), raise C() -/
/-- what of an own class of error is known: its __init__ keeps sp -/
structure XTxt (P : Program) (w : World) (K : PySem.W.Frag) (mg : Str → Option Value) (base : Heap) (nm : Str) (C : Addr) (ps : List Str) (sp : Sp) : Prop where
  cls : OexC K C
  gl : mg nm = some (.ref C)
  ini : ∃ fI fd, PySem.W.findIn K (.ref C) "__init__" = some (some (.ref fI)) ∧ PySem.W.typeIn K (.ref fI) = some (.type "function") ∧ FnOk P w K mg base CX0 2 fI fd ps sp ∧ Binds K fd ps []
def tRs1 (C : Addr) (f : Str) (W : WX) (ta : TE) : TS := fun _ σ H => tMkO C (spI1 C f) [] (tCons ta tNil) σ H fun cls d H' => W cls d σ H'
theorem ps_rs1 {X : Cx} {W : WX} {nm : Str} {C : Addr} {f nf : Str} {e : Expr} {te : TE} {p pos pos2 : Pos} {k : Nat} (T : XTxt X.prog X.w X.K X.mg X.base nm C ["self", nf] (spI1 C f)) (hc : X.calm = true) (hr : Room (k + 3) X.A) (tk : Takes X W) (he : PE X e te)
    (hg : Gl X nm := by rfl) (hdb : (nm == ("__debug__" : Str)) = false := by decide) (hs : starEach (e :: []) X.env = (false, eval e X.env) :: starEach [] X.env := by rfl)
    (hpl : (backTo pos (starEach [] X.env)).any (·.1) = false := by rfl) (hs2 : starEach [e] X.env = (false, eval e X.env) :: starEach [] X.env := by rfl) :
    PS X (.Raise (some (.Call (.Name nm p) [e] [] pos)) none pos2) (tRs1 C f W te) := by
  obtain ⟨fI, fd, i1, i2, F, b⟩ := T.ini
  exact ps_raise hc tk (pmk_oex T.cls i1 i2 F (hr.mono (by omega)) b .nil (fun _ _ _ _ _ _ _ z => False.elim z) hg T.gl (pa_cons he pa_nil hs2) hdb hs hpl)
/-- the end of C(): the exception, which has no dict, is let go -/
theorem gone0 {X : Cx} {pins : List (Addr × Obj)} {σ : L2.St} {H : Hp} {Q : XK} {hp hp2 h2 : Heap} {g1 g2 : Array GenState} {d1 d2 : Drawn} {t1 t2 : Nat} {os1 os2 : OsState} {a C : Addr} (T : Raises X (.ref C))
    (I1 : Inv X pins σ H ⟨hp, g1, d1, t1, os1⟩) (ha : hp.objs.size ≤ a) (k : ∀ b o, hp.get? b = some o → hp2.get? b = some o) (un : Un (frs X.stack) [] (upd H a (exo a C none)) (upd H a (exo a C none)) hp2 h2)
    (hok : HOk X.prog X.w (upd H a (exo a C none)) h2) (ho : os2 = os1) (hb : AllBare g2) (q : Q (.ref C) none H) : MkP X pins σ Q (.ref a) ⟨h2, g2, d2, t2, os2⟩ := by
  obtain ⟨t0, hoe⟩ := exo_at hok upd_same
  have na : H a = none := I1.hok.fresh ha
  obtain ⟨G, keepG, dropG⟩ := restrict h2 fun b => decide (b ≠ a)
  have gk : ∀ b, b ≠ a → G.get? b = h2.get? b := fun b hb => keepG b (decide_eq_true hb)
  have ge : G.get? a = none := dropG a (by simp)
  have old : ∀ {b : Addr} {o : Obj}, hp.get? b = some o → b ≠ a := fun {b o} z => Nat.ne_of_lt (Nat.lt_of_lt_of_le (Heap.lt_size z) ha)
  have ne_a : ∀ {b : Addr} {u : HO}, H b = some u → b ≠ a := fun {b u} z e => by
    rw [e, na] at z
    cases z
  have U : Un (frs X.stack) [] H H hp G := by
    constructor
    · intro b o z n hf hx
      rw [gk b (old z)]
      exact un.keep b o (k b o z) ((upd_ne (old z)).trans n) hf hx
    · intro b o z n hf hx
      rw [gk b (old z)]
      exact un.slot b o (k b o z) ((upd_ne (old z)).trans n) hf hx
    · intro b o z n hx
      exact n
    · intro b o z hx
      rw [gk b (old z)]
      exact un.there b o (k b o z) hx
    · intro b xs z
      exact z
    · intro b o v z
      exact z
    · intro b ps z
      exact ⟨#[], by rw [z]; simp⟩
  have okG : HOk X.prog X.w H G := fun b o z => by
    have hba := ne_a z
    have z2 : upd H a (exo a C none) b = some o := by rw [upd_ne hba]; exact z
    refine (hok b o z2).stay (fun c v hc y => ?_) (fun c hc => ?_) (fun c xs hc => ?_)
    · have hca : c ≠ a := by
        rcases hc with hc | hc
        · rw [hc]; exact hba
        · intro e
          rw [e, upd_same] at hc
          exact exo_own (Option.some.inj hc)
      rw [gk c hca]; exact y
    · have hca : c ≠ a := fun e => by
        rw [e, upd_same] at hc
        exact exo_own (Option.some.inj hc)
      rw [upd_ne hca] at hc; exact hc
    · have hca : c ≠ a := fun e => by
        rw [e, upd_same] at hc
        exact exo_tup (Option.some.inj hc)
      rw [upd_ne hca] at hc; exact hc
  have J : Inv X pins σ H ⟨G, g2, d2, t2, os2⟩ := I1.call' (ch := []) ho U okG hb (fun b z => absurd z (by simp))
  refine ⟨a, _, _, ⟨G, g2, d2, t2, os2⟩, H, .ref C, none, rfl, J, fun b o z => ?_, ge, hoe, ⟨rfl, rfl⟩, rfl, rfl, na, rfl, hb, T, q⟩
  by_cases hba : b = a
  · have z' : G.get? b = some o := z
    rw [hba, ge] at z'
    cases z'
  · exact (gk b hba).symm.trans z
theorem pmk_oex0 {X : Cx} {nm : Str} {C fI : Addr} {fd : FuncData} {p pos : Pos} {k : Nat} (T : OexC X.K C) (iC : PySem.W.findIn X.K (.ref C) "__init__" = some (some (.ref fI))) (tI : PySem.W.typeIn X.K (.ref fI) = some (.type "function"))
    (Fi : FnOk X.prog X.w X.K X.mg X.base CX0 k fI fd ["self"] (spI0 C)) (hr : Room (k + 1) X.A) (hb : Binds X.K fd ["self"] []) (hg : Gl X nm) (hm : X.mg nm = some (.ref C)) (hdb : (nm == ("__debug__" : Str)) = false := by decide) :
    PMk X (.Call (.Name nm p) [] [] pos) (fun _ H Q => Q (.ref C) none H) := by
  intro pins s σ H Q I h
  obtain ⟨nm', q', N, bs, bm, sn, sub, ab, col, dd, k0, k1, k2, k3, k5, hC, hbm⟩ := T.cls
  refine wpAny_Call_Name_kw (ld_glob I hg hm ?_ hdb)
  refine PySem.W.callWith_K0 (first := []) I.kIn T.kC ?_
  show wpAny _ _ (call (.ref C) []) _ _ _
  obtain ⟨hp, gs, dr, tk, os⟩ := s
  have up : hp.objs.size ≤ hp.objs.size + 1 := Nat.le_succ _
  have hn : H (hp.objs.size + 1) = none := I.hok.fresh up
  have kk : ∀ b o, hp.get? b = some o → ((hp.push (PySem.W.kdv_tup [])).push (PySem.HandSPX.excO C hp.objs.size)).get? b = some o := fun b o e => Heap.get?_push_of_some _ (Heap.get?_push_of_some _ e)
  have hget : ((hp.push (PySem.W.kdv_tup [])).push (PySem.HandSPX.excO C hp.objs.size)).get? (hp.objs.size + 1) = some (PySem.HandSPX.excO C hp.objs.size) := by heap_get
  have I2 : Inv X pins σ (upd H (hp.objs.size + 1) (exo (hp.objs.size + 1) C none)) ⟨(hp.push (PySem.W.kdv_tup [])).push (PySem.HandSPX.excO C hp.objs.size), gs, dr, tk, os⟩ :=
    I.laid (t' := tk) (a := hp.objs.size + 1) (o := exo (hp.objs.size + 1) C none) (h' := (hp.push (PySem.W.kdv_tup [])).push (PySem.HandSPX.excO C hp.objs.size)) kk up (exo_ok hget)
  have want : spI0 C [.ref (hp.objs.size + 1)] (upd H (hp.objs.size + 1) (exo (hp.objs.size + 1) C none)) (fun v H2 => v = .non ∧ H2 = upd H (hp.objs.size + 1) (exo (hp.objs.size + 1) C none)) (fun _ _ _ => False) :=
    ⟨_, rfl, upd_same, rfl, rfl⟩
  have bi := hb _ [Value.ref (hp.objs.size + 1)] I2.kIn rfl
  refine wpAny_call (PySem.HandSPX.call_own (rest := []) F.excBase_ValueError (fun Y => PySem.HandSPX.refsVE_contains Y bm hbm) (I.kIn _ _ hC) (PySem.W.looks_findIn I.kIn iC) (fun self => PySem.W.bind_fn I.kIn self tI) (Nat.zero_le _) ?_)
  refine codeAny_mono (Fi.run _ X.stack _ _ ⟨[Value.ref (hp.objs.size + 1)], []⟩ [Value.ref (hp.objs.size + 1)] [.ref (hp.objs.size + 1)] _ (fun _ _ _ => False) (hr.make C [] []) (I2.env0.make C [] []) bi (.cons rfl .nil) want) ?_
  intro r s' got
  match r, got with
  | .error er, got => exact False.elim got
  | .ok .next, got => exact False.elim got
  | .ok .brk, got => exact False.elim got
  | .ok .cont, got => exact False.elim got
  | .ok (.ret u), ⟨v, H2, os2, bare2, un2, hok2, rv, ev, eH⟩ =>
    subst ev eH
    obtain ⟨h2, g2, d2, t2, os'⟩ := s'
    exact ⟨rv, gone0 (raises_own T.exC T.tyC) I up kk un2 hok2 os2 bare2 h⟩
def tRs0 (C : Addr) (W : WX) : TS := fun _ σ H => W (.ref C) none σ H
theorem ps_rs0 {X : Cx} {W : WX} {nm : Str} {C : Addr} {p pos pos2 : Pos} {k : Nat} (T : XTxt X.prog X.w X.K X.mg X.base nm C ["self"] (spI0 C)) (hc : X.calm = true) (hr : Room (k + 3) X.A) (tk : Takes X W)
    (hg : Gl X nm := by rfl) (hdb : (nm == ("__debug__" : Str)) = false := by decide) : PS X (.Raise (some (.Call (.Name nm p) [] [] pos)) none pos2) (tRs0 C W) := by
  obtain ⟨fI, fd, i1, i2, F, b⟩ := T.ini
  exact ps_raise hc tk (pmk_oex0 T.cls i1 i2 F (hr.mono (by omega)) b hg T.gl hdb)
section
variable {K : PySem.W.Frag}
/-- the plain side of raise C(e) -/
def SS.raise1 (C : Addr) (f : Str) (e : SE K B0) : SS K where
  t := fun W => tRs1 C f W (e.t W)
  f := fun σ x => (e.f σ x).toO σ fun d x1 => .exc C (some (f, d)) σ x1
  ok := fun g Φ F0 W F H τ σ x D E h => by
    refine e.ok g Φ F0 W F H τ σ x _ trivial E (PostS.stepR h fun d x1 h1 v F1 H1 e1 E1 r1 => ?_)
    refine ⟨by simp, fun a ha => ⟨a, v, rfl, upd_same, fun dx hdx hne => ⟨rfl, dx, [(f, v)], upd_same, by rw [upd_ne hne, upd_same], ?_, ?_⟩⟩⟩
    · rw [upd_ne hne] at hdx; exact hdx
    · rw [upd_ne hne] at hdx
      -- behind it: what stood, and the new dict
      have eH : upd (L2.del (upd (upd (upd H1 a (exo a C none)) dx (exd dx [(f, v)])) a (exo a C (some dx))) a) dx (.xd [(f, v)]) = upd H1 dx (.xd [(f, v)]) := by
        funext b
        by_cases c1 : b = dx
        · subst c1; rw [upd_same, upd_same]
        · rw [upd_ne c1, upd_ne c1]
          by_cases c2 : b = a
          · subst c2; rw [del_same, ha]
          · rw [del_ne c2, upd_ne c2, upd_ne c1, upd_ne c2]
      rw [eH]
      have al := Al.new (o := .xd [(f, v)]) E1.ex hdx
      exact h1 _ _ τ (some dx) (e1.trans al.f) (E1.al al) ⟨dx, v, rfl, upd_same, r1.mono al.f⟩
def SS.raise0 (C : Addr) : SS K where
  t := fun W => tRs0 C W
  f := fun σ x => .exc C none σ x
  ok := fun g Φ F0 W F H τ σ x D E h => h F H τ none (Ex.refl F) E rfl
end
end Yx

namespace Yx
variable [Tb] [Cb]
open PySem PySem.W PySem.Calls PyProof.Rows

/-! ### isinstance of a caught error, whether it has a dict of its own or none -/
section
variable {prog : Program} {w : World} {A : Around} {E : Value → Shared → Prop} {s : Shared} {K : Frag} {x D : Addr} {ox : Obj} {od : Option Obj}
/-- __class__ is a data descriptor: the object's own dict is not asked -/
theorem find_class (T : L2.ExcC K D) (od : Option Obj) :
    findObj K D od "__class__" = some (.bind (.builtin "getset_descriptor.__get__") (.builtin "object.__class__")) := by
  obtain ⟨cd, hc, _⟩ := any_some T.hd
  unfold findObj
  rw [hc]
  simp [T.ha, T.hn, T.ht]
theorem class_of_err {Q : Option Value → Shared → Prop} (T : L2.ExcC K D) (X : K.In s.heap) (I : InstAt s.heap x ox D od)
    (h : Q (some (.ref D)) { s with toks := s.toks + 1 }) : wpAny (model prog w) A (getAttr? (.ref x) "__class__") Q E s := by
  have hf := find_class T od
  obtain ⟨hp, gs, dr, tk, os⟩ := s
  have l0 := I.type (M := model prog w)
  have l1 := looks_findIn (M := model prog w) X T.hg
  have l2 := looks_findIn (M := model prog w) X T.hk
  have l3 := looks_find (M := model prog w) X I hf
  have isB : Looks (model prog w) hp (isInstance (.ref x) (.type "BaseException")) true := l0.andThen (looks_subIn X T.hs)
  have n0 : (false && onTheHeap (Value.builtin "BaseException.__getattribute__")) = false := rfl
  have n2 : (Value.builtin "BaseException.__getattribute__" == Value.builtin "object.__getattribute__") = false := by
    decide +kernel
  have n1 : (onTheHeap (Value.ref D) && Value.builtin "BaseException.__getattribute__" == Value.builtin "object.__getattribute__") = false := by
    rw [n2, Bool.and_false]
  unfold getAttr? getAttrBy? getAttrBy
  apply wpAny_bind; apply wpAny_mkText; apply wpAny_bind; apply wpAny_attempt; apply wpAny_holding; apply wpAny_bind
  refine l0.at ?_
  apply wpAny_bind
  refine l1.at ?_
  show wpAny _ _ (if (onTheHeap (Value.ref D) && Value.builtin "BaseException.__getattribute__" == Value.builtin "object.__getattribute__") = true then _ else _) _ _ _
  rw [n1, if_neg Bool.false_ne_true]
  unfold getAttrByItsOwn hookBefore
  apply wpAny_bind
  rw [if_pos (by rfl : onTheHeap (Value.ref D) = true)]
  refine l2.at ?_
  apply wpAny_bind; apply wpAny_attempt; apply wpAny_holding
  unfold callGetattribute
  rw [n0, if_neg Bool.false_ne_true]
  unfold boundAndCalled
  rw [PySem.F.excAttr_ValueError.ga.bind (.ref x)]
  apply wpAny_bind; apply wpAny_pure
  show wpAny _ _ (call (.builtin "BaseException.__getattribute__") [.ref x, .str "__class__" tk]) _ _ _
  apply wpAny_call
  refine codeAny_call_builtin PySem.F.excAttr_ValueError.ga.plain PySem.F.entry_bexc_ga ?_
  refine @check_slot (model prog w) _ _ ⟨hp, gs, dr, tk + 1, os⟩ "BaseException.__getattribute__" "BaseException" "__getattribute__" (.ref x)
    [.str "__class__" tk] [] _ (by decide +kernel) (by decide +kernel) isB (PySem.F.args_bexc_ga (.ref x) (.str "__class__" tk)) ?_
  unfold Builtin.«object.__getattribute__»
  apply wpAny_bind
  refine wpAny_of_eq (a := ((Value.ref x : Value), [Value.str "__class__" tk])) (by first | rfl | (simp only [slotArgs]; rfl)) ?_
  apply wpAny_bind; apply wpAny_pure; apply wpAny_bind
  refine l0.at ?_
  apply wpAny_bind
  refine l3.at ?_
  show wpAny _ _ (holding [Value.builtin "object.__class__"] (call (.builtin "getset_descriptor.__get__") [.builtin "object.__class__", .ref x, .ref D]) >>= ret) _ _ _
  apply wpAny_bind; apply wpAny_holding; apply wpAny_call
  refine class_get (s := ⟨hp, gs, dr, tk + 1, os⟩) (ox := ox) (od := od) X I T.hm ?_
  apply wpAny_pure
  show wpAny _ _ (handedOut (.ref D)) _ _ _
  rw [handedOut_of (v := .ref D) rfl]
  first
    | exact wpAny_pure (wpAny_pure h)
    | exact wpAny_pure h
    | exact wpAny_pure (wpAny_bind (wpAny_pure (wpAny_pure h)))
theorem kit_err (T : L2.ExcC K D) (od : Option Obj) : KitX K (.ref x) (.ref D) (fun h => InstAt h x ox D od) where
  ty := fun _ _ _ I => I.type
  it := fun _ _ X _ => by
    have K0 := handS_kitx_exc (K := K) (x := x) (D := D) (ox := ox) T.hg T.hk T.hs T.hd T.ha T.hn T.ht T.hm
    obtain ⟨cd, hc, _⟩ := any_some T.hd
    unfold clsIn at hc
    split at hc
    · rename_i c' d' cd' sl' ho
      intro A' Q' E' s' k q
      unfold isType loadHead
      apply wpAny_bind
      exact wpAny_loadPart (k _ _ (X _ _ ho)) (wpAny_pure q)
    · cases hc
  ne := (handS_kitx_exc (K := K) (x := x) (D := D) (ox := ox) T.hg T.hk T.hs T.hd T.ha T.hn T.ht T.hm).ne
  ca := fun X I k => class_of_err T X I k
end
end Yx

namespace Yx
variable [Tb] [Cb]
open PySem L2 RZ PySem.Spec PyProof.Rows

/-! ### try: .. with several clauses, each with a name of its own or without -/
abbrev TsX := Addr → Value → Option Addr → TS
def endsX (i : Option Nat) (D : Ends) : Ends :=
  match i with
  | none => D
  | some i => { nx := fun σ' H' => D.nx (σ'.set i none) H', rt := D.rt, bk := fun σ' H' => D.bk (σ'.set i none) H', ct := fun σ' H' => D.ct (σ'.set i none) H' }
def slotX (i : Option Nat) (a : Addr) (σ : L2.St) : L2.St :=
  match i with
  | none => σ
  | some i => σ.set i (some (.ref a))
def wX (K : PySem.W.Frag) (Wout : WX) (D : Ends) : List (Value × Option Nat × TsX) → WX
  | [] => Wout
  | (c, i, ts) :: r => fun cls d σ H => ∃ b, PySem.W.exmOne K cls c = some b ∧ (b = true → ∀ a, H a = none → ts a cls d (endsX i D) (slotX i a σ) H) ∧ (b = false → wX K Wout D r cls d σ H)
inductive HsX (X : Cx) : List ExceptHandler → List (Value × Option Nat × TsX) → Prop
  | nil : HsX X [] []
  | plain {x : Str} {c : Value} {ts : TsX} {b0 : Stmt} {suite : List Stmt} {np pos' : Pos} {hds : List ExceptHandler} {l : List (Value × Option Nat × TsX)} (hc : Names X x c)
      (hsu : ∀ (a : Addr) (oe : Obj) (cls : Value) (d : Option Addr) (pn : List (Addr × Obj)), Zc cls d oe → (∃ vs, oe.data = .fields vs) → PSs (X.suite a ((a, oe) :: pn)) (b0 :: suite) (ts a cls d)) (r : HsX X hds l) :
      HsX X (.ExceptHandler (some (.Name x np)) none (b0 :: suite) pos' :: hds) ((c, none, ts) :: l)
  | named {x n : Str} {c : Value} {i : Nat} {ts : TsX} {b0 : Stmt} {suite : List Stmt} {np pos' : Pos} {hds : List ExceptHandler} {l : List (Value × Option Nat × TsX)} (hc : Names X x c)
      (hN : X.N.Nodup) (hi : X.N[i]? = some n) (hln : X.env.kindOf n = some .local)
      (hsu : ∀ (a : Addr) (oe : Obj) (cls : Value) (d : Option Addr) (pn : List (Addr × Obj)), Zc cls d oe → (∃ vs, oe.data = .fields vs) → PSs (X.suite a ((a, oe) :: pn)) (b0 :: suite) (ts a cls d)) (r : HsX X hds l) :
      HsX X (.ExceptHandler (some (.Name x np)) (some n) (b0 :: suite) pos' :: hds) ((c, some i, ts) :: l)
section
variable {X : Cx} {body : List Stmt} {h0 : ExceptHandler} {hds : List ExceptHandler} {l : List (Value × Option Nat × TsX)} {pos : Pos} {tb : WX → TS} {Wout : WX}
theorem ps_tryX (hs : X.stack = X.env :: X.outer) (hf : X.env.frame = some X.env.locals) (tk : Takes X Wout)
    (hb : ∀ (W : WX) (pn : List (Addr × Obj)) (xe : Value → Shared → Prop), Takes (X.tr pn xe) W → PassesOwn (model X.prog X.w) X.A X.env xe → PSs (X.tr pn xe) body (tb W))
    (hh : HsX X (h0 :: hds) l) : PS X (.Try body (h0 :: hds) [] [] pos) (fun D σ H => tb (wX X.K Wout D l) D σ H) := by
  constructor
  intro pins s σ H D I h
  have ok := I.ok
  have frames : X.A.frames = some (X.env :: X.outer) := by rw [ok.frames, hs]
  apply wpAny_Try_except
  have body_run := (hb (wX X.K Wout D l) (X.pn ++ pins) (fun e s1 => wpAny (model X.prog X.w) X.A (noteFrame e X.env)
    (fun _ s2 => wpAny (model X.prog X.w) X.A (setFlight e none)
      (fun _ s3 => wpAny (model X.prog X.w) X.A (handleBy e X.env (h0 :: hds)) (SP X pins D) X.xe s3) X.xe s2) X.xe s1) ?ctch PassesOwn.looking).run [] s σ H D (I.toTry _) h
  · refine wpAny_mono body_run (fun f s1 sp => ?_) (fun e s1 z => z)
    match f, sp with
    | .next, ⟨σ', H', J, q⟩ => exact wpAny_execs_nil ⟨σ', H', J.ofTry ok, q⟩
    | .brk, ⟨σ', H', J, q⟩ => exact ⟨σ', H', J.ofTry ok, q⟩
    | .cont, ⟨σ', H', J, q⟩ => exact ⟨σ', H', J.ofTry ok, q⟩
    | .ret u, ⟨v, σ', H', J, r, q⟩ => exact ⟨v, σ', H', J.ofTry ok, r, q⟩
  case ctch =>
    rintro u s' ⟨a, Bg, sI, pins', σ', H', cls, d, rfl, J', nb, up, sky, na, os, ag, wish⟩
    have J : Inv X pins σ' H' sI := J'.ofTry ok
    have sky2 : Sky Bg (X.env :: X.outer) a (Zc cls d) X.env.locals s'.heap := by rw [← hs]; exact sky
    show wpAny (model X.prog X.w) X.A (noteFrame (.ref a) X.env) _ _ _
    refine Sky.land Zc.steady frames hf sky2 ?_
    intro h3 fl3 up3
    have J3 : Inv X pins σ' H' { s' with heap := h3 } := J.landed nb fl3.1 (up.trans up3) os ag
    obtain ⟨oe3, vs3, he3, hz3, hd3⟩ := fl3.there
    have outside : ∀ {hh : Heap} {o : Obj} {vs : Array Value}, hh.FunFrames Bg (X.env :: X.outer) → hh.get? a = some o → o.data = .fields vs → a ∉ frs (X.env :: X.outer) := by
      intro hh o vs ff e dd hm
      obtain ⟨_, o2, e2, hnf⟩ := ff.mem hm
      rw [e] at e2
      cases e2
      exact hnf _ dd
    have nfr := outside fl3.2.2.1 he3 hd3
    have nL : a ≠ X.env.locals := by
      intro z
      apply nfr
      exact List.mem_filterMap.mpr ⟨X.env, List.mem_cons_self, by rw [hf, z]⟩
    have nF : a ∉ X.fs := by
      intro hm
      obtain ⟨e, he, q⟩ := List.mem_filterMap.mp hm
      exact nfr (List.mem_filterMap.mpr ⟨e, List.mem_cons_of_mem _ he, q⟩)
    have S3 := J3.suite he3 hd3 na nL nF
    have looksT : PySem.W.Looks (model X.prog X.w) h3 (typeOf (.ref a)) cls := by
      intro A Q E s k q
      exact wpAny_typeOf_ref (k _ _ he3) (by rw [hz3.1]; exact q)
    have asks : ∀ {x : Str} {np : Pos} {c : Value} {Q : Value → Shared → Prop} {E : Value → Shared → Prop}, Names X x c → Q c { s' with heap := h3 } →
        wpAny (model X.prog X.w) (X.A.mark (some (.ref a))) (eval (.Name x np) X.env) Q E { s' with heap := h3 } := by
      intro x np c Q E nm q
      obtain ⟨hg, hdbg, hm | ⟨hm, hv, hnn⟩⟩ := nm
      · exact ld_glob (X := X.suite a ((a, oe3) :: (X.pn ++ pins))) S3 hg hm q hdbg
      · exact ld_blt (X := X.suite a ((a, oe3) :: (X.pn ++ pins))) S3 hg hm hv q hnn hdbg
    suffices go : ∀ {hs' : List ExceptHandler} {l' : List (Value × Option Nat × TsX)}, HsX X hs' l' → wX X.K Wout D l' cls d σ' H' →
        wpAny (model X.prog X.w) X.A (handleBy (.ref a) X.env hs') (SP X pins D) X.xe { s' with heap := h3 } from go hh wish
    intro hs' l' hk
    induction hk with
    | nil =>
      intro wish
      apply wpAny_handleBy_nil
      obtain ⟨k1, k2, k3, oe, vs, T, oT, ts', he, hz, hd, h1, hr⟩ := id fl3
      unfold PySem.passOn
      apply wpAny_bind
      refine wpAny_field he hd h1 ?_
      rw [if_neg (by simp : ¬ ((Value.ref T == Value.none) = true))]
      have fin : wpAny (model X.prog X.w) X.A (setFlight (.ref a) X.env.frame) (fun _ s4 => wpAny (model X.prog X.w) X.A (throw (.ref a) : Sem Flow) (SP X pins D) X.xe s4) X.xe { s' with heap := h3 } := by
        rw [hf]
        refine HandSPX.setFlight_upZ fl3 fun h4 held up4 => wpAny_throw (tk _ _ ?_)
        exact ⟨a, Bg, sI, pins, σ', H', cls, d, rfl, J, nb, (up.trans up3).trans up4, .inr (.inr (by rw [hs]; exact held)), na, os, ag, wish⟩
      first
        | exact wpAny_bind (wpAny_pure (wpAny_bind fin))
        | exact wpAny_bind fin
    | @plain x c ts b0 suite np pos' hds2 l2 hc hsu r ih =>
      rintro ⟨b, hb1, yes, no⟩
      refine wpAny_handleBy_cons (codeAny_handlers_test ?_) (by intro q; cases q)
      have LM := PySem.W.exm_one (M := model X.prog X.w) (J3.kIn) looksT hb1
      refine asks hc (LM.here ?_)
      cases b with
      | false =>
        show wpAny _ X.A (handleBy (.ref a) X.env hds2) _ _ _
        exact ih (no rfl)
      | true =>
        apply codeAny_handlers_suite
        refine HandSPX.lands_againZ fl3 fun h4 fl4 up4 => ?_
        have J4 : Inv X pins σ' H' { s' with heap := h4 } := J.landed nb fl4.1 ((up.trans up3).trans up4) os ag
        obtain ⟨oe4, vs4, he4, hz4, hd4⟩ := fl4.there
        have S4 := J4.suite he4 hd4 na nL nF
        refine wpAny_mono ((hsu a oe4 cls d (X.pn ++ pins) hz4 ⟨_, hd4⟩).run [] _ _ H' _ S4 (yes rfl a na)) (fun f s6 sp => ?_) (fun _ _ z => z.elim)
        match f, sp with
        | .next, ⟨σ6, H6, S6, q6⟩ => exact ⟨_, _, S6.unsuite ok, q6⟩
        | .brk, ⟨σ6, H6, S6, q6⟩ => exact ⟨_, _, S6.unsuite ok, q6⟩
        | .cont, ⟨σ6, H6, S6, q6⟩ => exact ⟨_, _, S6.unsuite ok, q6⟩
        | .ret u, ⟨v6, σ6, H6, S6, r6, q6⟩ => exact ⟨_, _, _, S6.unsuite ok, r6, q6⟩
    | @named x n c i ts b0 suite np pos' hds2 l2 hc hN hi hln hsu r ih =>
      rintro ⟨b, hb1, yes, no⟩
      refine wpAny_handleBy_cons (codeAny_handlers_test ?_) (by intro q; cases q)
      have LM := PySem.W.exm_one (M := model X.prog X.w) (J3.kIn) looksT hb1
      refine asks hc (LM.here ?_)
      cases b with
      | false =>
        show wpAny _ X.A (handleBy (.ref a) X.env hds2) _ _ _
        exact ih (no rfl)
      | true =>
        have hloc : Loc X.env.scope n := .inl hln
        apply codeAny_handlers_suite_as
        refine HandSPX.lands_againZ fl3 fun h4 fl4 up4 => ?_
        have J4 : Inv X pins σ' H' { s' with heap := h4 } := J.landed nb fl4.1 ((up.trans up3).trans up4) os ag
        obtain ⟨oe4, vs4, he4, hz4, hd4⟩ := fl4.there
        have S4 := J4.suite he4 hd4 na nL nF
        refine store_ok (X := X.suite a ((a, oe4) :: (X.pn ++ pins))) (v := .ref a) S4 hN hi hloc rfl (fun s5 S5 => ?_) (.inr hln)
        refine wpAny_mono ((hsu a oe4 cls d (X.pn ++ pins) hz4 ⟨_, hd4⟩).run [] s5 _ H' _ S5 (yes rfl a na)) (fun f s6 sp => ?_) (fun _ _ z => z.elim)
        have away : ∀ {σ6 : L2.St} {H6 : Hp} {Q : Shared → Prop}, Inv (X.suite a ((a, oe4) :: (X.pn ++ pins))) [] σ6 H6 s6 → (∀ s7, Inv X pins (σ6.set i none) H6 s7 → Q s7) →
            wpAny (model X.prog X.w) X.A (do bindName X.env n .none; unbindBehindTheSuite X.env n pos') (fun _ s7 => Q s7) X.xe s6 := by
          intro σ6 H6 Q S6 hq
          exact gone_ok (S6.unsuite ok) hN hi hln hq
        match f, sp with
        | .next, ⟨σ6, H6, S6, q6⟩ => exact away S6 fun s7 J7 => ⟨_, _, J7, q6⟩
        | .brk, ⟨σ6, H6, S6, q6⟩ => exact away S6 fun s7 J7 => ⟨_, _, J7, q6⟩
        | .cont, ⟨σ6, H6, S6, q6⟩ => exact away S6 fun s7 J7 => ⟨_, _, J7, q6⟩
        | .ret u, ⟨v6, σ6, H6, S6, r6, q6⟩ => exact away S6 fun s7 J7 => ⟨_, _, _, J7, r6, q6⟩
end

/-! ### what a suite knows of its error -/
def Bx (K : PySem.W.Frag) (a : Addr) (cls : Value) (d : Option Addr) (C : Addr) (y : Option (Str × D)) (i : Option Nat) : Bs where
  p := fun g τ F => cls = .ref C ∧ XRep K (gsa g) F d y ∧ ∀ j, i = some j → τ[j]? = some (some (.ref a))
  mono := fun g τ F F' e h => by
    refine ⟨h.1, ?_, h.2.2⟩
    match y, h.2.1 with
    | none, q => exact q
    | some (f, z), ⟨b, v, h1, h2, h3⟩ => exact ⟨b, v, h1, e b _ h2, h3.mono e⟩
/-- isinstance(e, c), e the error of the suite -/
def rIsX (K : PySem.W.Frag) (a : Addr) (cls : Value) (d : Option Addr) : List V → Hp → VK → Prop := fun xs H Q => ∃ (Dc : Addr) (c : V) (cv : Value) (b : Bool), xs = [.ref a, c] ∧ cls = .ref Dc ∧ ExcC K Dc ∧ (∀ u, RelV c u → u = cv) ∧
  PySem.W.kitOne K (.ref Dc) cv = some b ∧ (d = none ∨ ∃ dd fs, d = some dd ∧ H dd = some (.xd fs)) ∧ Q (.bl b) H
theorem call_isX {X : Cx} {a : Addr} {oe : Obj} {cls : Value} {d : Option Addr} {pn : List (Addr × Obj)} (hz : Zc cls d oe) (hf : ∃ vs, oe.data = .fields vs) : CallR (X.suite a ((a, oe) :: pn)) (.builtin "isinstance") (rIsX X.K a cls d) := by
  intro pins s σ H xs us Q I r h
  obtain ⟨Dc, c, cv, b, rfl, rfl, T, hcv, e, hd, q⟩ := h
  obtain ⟨u1, u2, rfl, r1, r2⟩ := vals2 r
  cases r1
  have e2 := hcv _ r2
  subst e2
  obtain ⟨at_, _⟩ := I.pin (a, oe) (List.mem_append.mpr (.inl List.mem_cons_self))
  obtain ⟨vs, hv⟩ := hf
  have J : ∃ od, PySem.W.InstAt s.heap a oe Dc od := by
    rcases hd with hd | ⟨dd, fs, hd, hH⟩
    · subst hd
      obtain ⟨oc, odd, oda, osl⟩ := oe
      obtain ⟨h1, h2⟩ := hz
      dsimp only at h1 h2 hv
      subst h1 h2 hv
      exact ⟨none, at_, rfl, rfl, trivial⟩
    · subst hd
      have hx : ObjOk X.prog X.w H s.heap dd (.xd fs) := I.hok dd _ hH
      obtain ⟨mA, hns, _⟩ := hx
      obtain ⟨o, ho, _⟩ := lookIn_ns hns
      exact ⟨some o, at_, hz.1, by unfold PySem.W.notCls; rw [hv] <;> rfl, by rw [hz.2]; exact ho⟩
  obtain ⟨od, J⟩ := J
  exact PySem.W.kia_one (kit_err T od) I.kIn J e (fun z => nomatch z) fun tk => ⟨.bl b, H, I.kept (t' := tk) fun _ _ z => z, rfl, q⟩
section
variable {K : PySem.W.Frag}
/-- e.f -/
def SE.xval (a : Addr) (cls : Value) (d : Option Addr) (C : Addr) (y : Option (Str × D)) (i : Nat) (c : Addr) (f : Str) : SE K (Bx K a cls d C y (some i)) where
  t := fun _ => tXf a cls d c f (tVar i)
  f := fun _ x => match y with
    | some (f', z) => if f' = f ∧ C = c then .ok z x else .bad
    | none => .bad
  ok := fun g Φ F0 W F H τ σ x Q hB E h => by
    obtain ⟨hc, hx, hi⟩ := hB
    match y, hx, h with
    | none, _, h => exact h.elim
    | some (f', z), ⟨b, v, h1, h2, h3⟩, h =>
      by_cases q : f' = f ∧ C = c
      · have hq : QE K g Φ F0 F τ σ Q z x := by
          have h2 := h
          dsimp only at h2
          rw [if_pos q] at h2
          exact h2
        obtain ⟨rfl, rfl⟩ := q
        exact ⟨_, hi i rfl, rfl, hc, b, _, v, h1, E.ex _ _ h2, by simp [List.lookup], hq v F H (Ex.refl F) E h3⟩
      · dsimp only at h
        rw [if_neg q] at h
        exact h.elim
/-- isinstance(e, c) -/
def SE.xis (a : Addr) (cls : Value) (d : Option Addr) (C : Addr) (y : Option (Str × D)) (i : Nat) (c : V) (cv : Value) (isa : Addr → Option Bool) (h1 : ∀ u, RelV c u → u = cv)
    (h2 : ∀ C b, isa C = some b → ExcC K C ∧ PySem.W.kitOne K (.ref C) cv = some b) : SE K (Bx K a cls d C y (some i)) where
  t := fun _ => tCB (rIsX K a cls d) (tCons (tVar i) (tCons (tC c) tNil))
  f := fun _ x => match isa C with
    | some b => .ok (.bl b) x
    | none => .bad
  ok := fun g Φ F0 W F H τ σ x Q hB E h => by
    obtain ⟨hc, hx, hi⟩ := hB
    cases e : isa C with
    | none => simp only [e] at h; exact h.elim
    | some b =>
      simp only [e] at h
      obtain ⟨T, k⟩ := h2 C b e
      refine ⟨_, hi i rfl, C, c, cv, b, rfl, hc, T, h1, k, ?_, h (.bl b) F H (Ex.refl F) E .bl⟩
      match y, hx with
      | none, q => exact .inl q
      | some (f', z), ⟨dd, v, q1, q2, _⟩ => exact .inr ⟨dd, _, q1, E.ex _ _ q2⟩
/-- what a suite does with its one value -/
inductive HA where
  | asg (j : Nat) | ret
def HA.t : HA → TE → TS
  | .asg j, te => tAsg te (gName j)
  | .ret, te => tRet te
/-- a clause -/
structure Hd (K : PySem.W.Frag) where
  c : Addr
  nm : Option Nat
  e : (a : Addr) → (cls : Value) → (d : Option Addr) → (C : Addr) → (y : Option (Str × D)) → SE K (Bx K a cls d C y nm)
  te : Addr → Value → Option Addr → TE
  ef : Addr → Option (Str × D) → Sg → Option Gst → R D
  act : HA
  ht : ∀ a cls d C y, (e a cls d C y).t W0 = te a cls d
  hf : ∀ a cls d C y, (e a cls d C y).f = ef C y
def clrS (i : Option Nat) (σ : Sg) : Sg :=
  match i with
  | none => σ
  | some i => σ.set i none
def tryF (sub : Addr → Addr → Option Bool) : List (Hd K) → Addr → Option (Str × D) → Sg → Option Gst → O
  | [], C, y, σ, x => .exc C y σ x
  | h :: hs, C, y, σ, x => match sub C h.c with
    | none => .bad
    | some false => tryF sub hs C y σ x
    | some true => match h.ef C y (clrS h.nm σ) x with
      | .ok d x2 => match h.act with
        | .asg j => .nx (clrS h.nm ((clrS h.nm σ).set j (some (.dat d)))) x2
        | .ret => .rt d x2
      | _ => .bad
theorem Env.forget {g : GA} {Φ F0 F H : Hp} {τ : L2.St} {σ : Sg} {x : Option Gst} (E : Env K g Φ F0 F H τ σ x) (i : Nat) (o : Option V) : Env K g Φ F0 F H (τ.set i o) (σ.set i none) x where
  ex := E.ex
  f0 := E.f0
  fr := E.fr
  dj := E.dj
  len := by rw [List.length_set, List.length_set]; exact E.len
  get := fun j s h => by
    rcases get_set h with ⟨rfl, e, hi⟩ | ⟨c, h1⟩
    · cases e
    · obtain ⟨u, h2, h3⟩ := E.get j s h1; exact ⟨u, get_set' h2 c, h3⟩
  own := fun j s p h m t => by
    rcases get_set h with ⟨rfl, e, hi⟩ | ⟨c, h1⟩
    · cases e
    · rcases get_set t with ⟨c', _⟩ | ⟨_, t1⟩
      · exact absurd c' c
      · exact E.own j s p h1 m t1
  dis := fun j k s t u h m h' m' t1 t2 => by
    rcases get_set h with ⟨rfl, e, hi⟩ | ⟨c, h1⟩
    · cases e
    · rcases get_set h' with ⟨rfl, e, hi⟩ | ⟨c', h1'⟩
      · cases e
      · rcases get_set t1 with ⟨z, _⟩ | ⟨_, t1⟩
        · exact absurd z c
        · rcases get_set t2 with ⟨z, _⟩ | ⟨_, t2⟩
          · exact absurd z c'
          · exact E.dis j k s t u h1 m h1' m' t1 t2
  gr := E.gr
  gf := E.gf
  np := E.np
def SS.try (sub : Addr → Addr → Option Bool) (hsub : ∀ C c b, sub C c = some b → PySem.W.exmOne K (.ref C) (.ref c) = some b) (b : SS K) (hs : List (Hd K)) (len : ∀ h ∈ hs, ∀ i, h.nm = some i → i < 1000000) : SS K where
  t := fun W D τ H => b.t (wX K W D (hs.map fun h => (Value.ref h.c, h.nm, fun a cls d => h.act.t (h.te a cls d)))) D τ H
  f := fun σ x => match b.f σ x with
    | .exc C y σ1 x1 => if (hs.all fun h => match h.nm with
        | some i => decide (i < σ1.length)
        | none => true) = true then tryF sub hs C y σ1 x1 else .bad
    | o => o
  ok := fun g Φ F0 W F H τ σ x D E h => by
    have key : ∀ (hs : List (Hd K)) C y σ1 x1 F1 H1 τ1 dd, (hs.all fun h => match h.nm with
        | some i => decide (i < σ1.length)
        | none => true) = true → Ex F F1 → Env K g Φ F0 F1 H1 τ1 σ1 x1 → XRep K (gsa g) F1 dd y → PostS K g Φ F0 W F1 D (tryF sub hs C y σ1 x1) →
        wX K W D (hs.map fun h => (Value.ref h.c, h.nm, fun a cls d => h.act.t (h.te a cls d))) (.ref C) dd τ1 H1 := by
      intro hs
      induction hs with
      | nil => intro C y σ1 x1 F1 H1 τ1 dd _ e1 E1 xr hp; exact hp F1 H1 τ1 dd (Ex.refl _) E1 xr
      | cons hd hs ih =>
        intro C y σ1 x1 F1 H1 τ1 dd hl e1 E1 xr hp
        rw [List.all_cons, Bool.and_eq_true] at hl
        unfold tryF at hp
        cases es : sub C hd.c with
        | none => simp only [es] at hp; exact hp.elim
        | some k =>
          simp only [es] at hp
          refine ⟨k, hsub C hd.c k es, fun hk a ha => ?_, fun hk => ?_⟩
          · subst hk
            simp only at hp
            -- the slots within the suite
            have E2 : Env K g Φ F0 F1 H1 (slotX hd.nm a τ1) (clrS hd.nm σ1) x1 := by
              cases en : hd.nm with
              | none => exact E1
              | some i => exact E1.forget i _
            have hB : (Bx K a (.ref C) dd C y hd.nm).p g (slotX hd.nm a τ1) F1 := by
              refine ⟨rfl, xr, fun j ej => ?_⟩
              have hl1 := hl.1
              rw [ej] at hl1 ⊢
              show (τ1.set j _)[j]? = _
              rw [List.getElem?_set, if_pos rfl, if_pos (by rw [E1.len]; exact of_decide_eq_true hl1)]
            have run : ∀ Q : VK, Post K g Φ F0 W0 F1 (slotX hd.nm a τ1) (clrS hd.nm σ1) (QE K g Φ F0 F1 (slotX hd.nm a τ1) (clrS hd.nm σ1) Q) (hd.ef C y (clrS hd.nm σ1) x1) → hd.te a (.ref C) dd (slotX hd.nm a τ1) H1 Q := by
              intro Q hq
              rw [← hd.ht a (.ref C) dd C y]
              refine (hd.e a (.ref C) dd C y).ok g Φ F0 W0 F1 H1 _ _ x1 Q hB E2 ?_
              rw [hd.hf]
              exact hq
            cases ee : hd.ef C y (clrS hd.nm σ1) x1 with
            | bad => simp only [ee] at hp; exact hp.elim
            | exc _ _ _ => simp only [ee] at hp; exact hp.elim
            | ok z x2 =>
              simp only [ee] at hp
              cases ea : hd.act with
              | asg j =>
                simp only [ea] at hp
                show hd.te a (.ref C) dd _ _ _
                refine run _ ?_
                rw [ee]
                intro v F2 H2 e2 E3 rv
                have E4 := E3.set j rv
                show (endsX hd.nm D).nx _ _
                cases en : hd.nm with
                | none => rw [en] at hp E4; exact hp F2 H2 _ e2 E4
                | some i => rw [en] at hp E4; exact hp F2 H2 _ e2 (E4.forget i _)
              | ret =>
                simp only [ea] at hp
                show hd.te a (.ref C) dd _ _ _
                refine run _ ?_
                rw [ee]
                intro v F2 H2 e2 E3 rv
                have : (endsX hd.nm D).rt = D.rt := by cases hd.nm <;> rfl
                show (endsX hd.nm D).rt v H2
                rw [this]
                exact hp v F2 H2 e2 E3.fin rv
          · subst hk
            simp only at hp
            exact ih C y σ1 x1 F1 H1 τ1 dd hl.2 e1 E1 xr hp
    refine b.ok g Φ F0 _ F H τ σ x D E ?_
    cases eb : b.f σ x with
    | exc C y σ1 x1 =>
      simp only [eb] at h
      intro F1 H1 τ1 dd e1 E1 xr
      by_cases c : (hs.all fun h => match h.nm with
        | some i => decide (i < σ1.length)
        | none => true) = true
      · rw [if_pos c] at h
        exact key hs C y σ1 x1 F1 H1 τ1 dd c e1 E1 xr (h.mono e1)
      · rw [if_neg c] at h; exact h.elim
    | nx σ1 x1 => simp only [eb] at h; exact h
    | bk σ1 x1 => simp only [eb] at h; exact h
    | ct σ1 x1 => simp only [eb] at h; exact h
    | rt d x1 => simp only [eb] at h; exact h
    | bad => simp only [eb] at h; exact h
end
end Yx

/-! # a def that calls what it is handed, and x(lambda: body) -/
namespace Yx
variable [Tb]
open PySem L2 RZ PySem.Spec PyProof.Rows LamX

/-- what must follow of a call's outcome -/
def MPost (K : PySem.W.Frag) (g : GA) (F H : Hp) (Q : VK) (E : XK) : R D → Prop
  | .ok d x' => ∀ v F' H', AlG K g F H F' H' x' → Rep K (gsa g) F' v d → Q v H'
  | .exc C y x' => ∀ F' H' dd, AlG K g F H F' H' x' → XRep K (gsa g) F' dd y → E (.ref C) dd H'
  | .bad => False
/-- a function object without parameters: m is what it makes -/
structure Clo (K : PySem.W.Frag) where
  a : Addr
  c : Addr
  q : Str
  F : Hp
  sa : Addr
  tl : XK → Hp → VK → Prop
  m : Option Gst → R D
  sp : ∀ (g : GA) (E : XK) (H : Hp) (Q : VK) (F1 : Hp) (x1 : Option Gst), gsa g = sa → Ex F F1 → Ex F1 H → GRep K g F1 H x1 → MPost K g F1 H Q E (m x1) → tl E H Q
section
variable {K : PySem.W.Frag}
abbrev cbOf (c : Clo K) : Cb := ⟨c.a, c.c, c.q, c.F, c.sa⟩
/-- of m alone -/
def Clo.plain (K : PySem.W.Frag) (m : Option Gst → R D) : Clo K := ⟨0, 0, "", fun _ => none, 0, fun _ _ _ => True, m, fun _ _ _ _ _ _ _ _ _ _ _ => trivial⟩
/-- a() -/
def SE.hole (c : Clo K) (B : Bs) : @SE _ (cbOf c) K B :=
  letI := cbOf c
  { t := fun W τ H Q => τ[0]? = some (some (.ref c.a)) ∧ H c.c = some (CodeO c.c c.q) ∧ c.tl (WE W τ) H Q
    f := fun σ x => match (σ[0]? : Option (Option Sl)) with
      | some (some Sl.clo) => c.m x
      | _ => .bad
    ok := fun g Φ F0 W F H τ σ x Q _ E h => by
      match hs : (σ[0]? : Option (Option Sl)), h with
      | some (some Sl.clo), h =>
        obtain ⟨v, hv, rfl, hsa, hc, hF⟩ := E.get 0 .clo hs
        refine ⟨hv, hc, c.sp g _ H Q F x hsa hF E.ex E.gr ?_⟩
        have h : Post K g Φ F0 W F τ σ (QE K g Φ F0 F τ σ Q) (c.m x) := h
        cases em : c.m x with
        | ok d x' => rw [em] at h; exact fun v F' H' al r => h v F' H' al.f (E.alG al) r
        | exc C y x' => rw [em] at h; exact fun F' H' dd al r => h F' H' dd al.f (E.alG al) r
        | bad => rw [em] at h; exact h
      | some (some (Sl.dat _)), h => exact (show False from h).elim
      | some (some (Sl.own _)), h => exact (show False from h).elim
      | some (some (Sl.dic _)), h => exact (show False from h).elim
      | some (some (Sl.dik _)), h => exact (show False from h).elim
      | some none, h => exact (show False from h).elim
      | none, h => exact (show False from h).elim }
/-- what a def makes of what m makes -/
def lamP (N : Nat) (HS : (c : Clo K) → @SS _ (cbOf c) K) (m : Option Gst → R D) (x : Option Gst) : R D :=
  match @SS.f _ (cbOf (Clo.plain K m)) K (HS (Clo.plain K m)) (some .clo :: List.replicate (N - 1) none) x with
  | .nx _ x' => .ok .non x'
  | .rt d x' => .ok d x'
  | _ => .bad
def lamT (N : Nat) (HS : (c : Clo K) → @SS _ (cbOf c) K) (tl : XK → Hp → VK → Prop) (H : Hp) (Q : VK) : Prop :=
  ∃ (g : GA) (F : Hp) (x : Option Gst) (m : Option Gst → R D), Ex F H ∧ GRep K g F H x ∧
    (∀ (g' : GA) (E : XK) (H : Hp) (Q : VK) (F1 : Hp) (x1 : Option Gst), gsa g' = gsa g → Ex F F1 → Ex F1 H → GRep K g' F1 H x1 → MPost K g' F1 H Q E (m x1) → tl E H Q) ∧
    match lamP N HS m x with
    | .ok d x' => ∀ v F' H', AlG K g F H F' H' x' → Rep K (gsa g) F' v d → Q v H'
    | _ => False
theorem lamP_exc {N : Nat} {HS : (c : Clo K) → @SS _ (cbOf c) K} {m : Option Gst → R D} {x : Option Gst} {C : Addr} {y : Option (Str × D)} {x' : Option Gst} : lamP N HS m x ≠ .exc C y x' := by
  unfold lamP
  intro h
  split at h <;> cases h
/-- the slots that hold data -/
def datS (σ : Sg) : Sg := σ.map fun s => match s with
  | some (.dat d) => some (.dat d)
  | _ => none
theorem datS_get {σ : Sg} {i : Nat} {s : Sl} (h : (datS σ)[i]? = some (some s)) : ∃ d, s = .dat d ∧ σ[i]? = some (some (.dat d)) := by
  unfold datS at h
  rw [List.getElem?_map] at h
  match hs : (σ[i]? : Option (Option Sl)), h with
  | some (some (.dat d)), h => cases h; exact ⟨d, rfl, rfl⟩
  | some (some (.own _)), h => cases h
  | some (some (.dic _)), h => cases h
  | some (some (.dik _)), h => cases h
  | some (some .clo), h => cases h
  | some none, h => cases h
  | none, h => cases h
variable [Cb]
theorem Env.datS {g g' : GA} {Φ F0 F H F2 H2 : Hp} {τ : L2.St} {σ : Sg} {x x2 : Option Gst} (E : Env K g Φ F0 F H τ σ x) (hg : gsa g' = gsa g) (e1 : Ex F F2) (e2 : Ex F2 H2) (gr : GRep K g' F2 H2 x2) : Env K g' (frameOf g' H2) F2 F2 H2 τ (datS σ) x2 where
  ex := e2
  f0 := Ex.refl F2
  fr := frameOf_ex g' H2
  dj := fun a o _ _ h => h
  len := by unfold Yx.datS; rw [List.length_map]; exact E.len
  get := fun i s h => by
    obtain ⟨d, rfl, hd⟩ := datS_get h
    obtain ⟨v, h1, h2⟩ := E.get i _ hd
    refine ⟨v, h1, ?_⟩
    have h2 : Rep K (gsa g) F v d := h2
    show Rep K (gsa g') F2 v d
    rw [hg]
    exact h2.mono e1
  own := fun i s p h m => by
    obtain ⟨d, rfl, hd⟩ := datS_get h
    cases m
  dis := fun i j s t v h m => by
    obtain ⟨d, rfl, hd⟩ := datS_get h
    cases m
  gr := gr
  gf := fun a ha => by unfold frameOf; rw [if_pos ha]
  np := frameOf_np g' H2
/-- behind the making of a function object -/
theorem Env.made {g : GA} {Φ F0 F H H1 : Hp} {τ : L2.St} {σ : Sg} {x : Option Gst} (E : Env K g Φ F0 F H τ σ x) (eN : ExtN H H1) (T1 : Tabs Tb.tb H1) : AlG K g F H F H1 x where
  f := Ex.refl F
  fh := fun b o h => eN b o (E.ex b o h) fun ps z => E.gr.tb.nf b ps (by rw [← z]; exact h)
  h := fun b o _ hn h => eN b o h hn
  nw := fun _ _ _ _ _ n => n
  gr := ⟨E.gr.g0.mono (Ex.refl F) (fun a ha => by obtain ⟨o, _, h2, _⟩ := E.gr.g0.on a ha; exact h2) (fun a ha => by obtain ⟨o, h1, _, h3, _⟩ := E.gr.g0.on a ha; rw [h1]; exact eN a o h1 h3), ⟨T1, E.gr.tb.out, E.gr.tb.nf⟩⟩
/-- x(lambda: b) -/
def SE.lam {B : Bs} (N : Nat) (HS : (c : Clo K) → @SS _ (cbOf c) K) (b : SE K B0) : SE K B where
  t := fun W τ H Q => Tabs Tb.tb H ∧ ∀ H1, ExtN H H1 → Tabs Tb.tb H1 → lamT N HS (fun E H' Q' => b.t (fun cls d _ H => E cls d H) τ H' Q') H1 Q
  f := fun σ x => lamP N HS (fun x1 => b.f (datS σ) x1) x
  ok := fun g Φ F0 W F H τ σ x Q _ E h => by
    refine ⟨E.gr.tb.tabs, fun H1 eN T1 => ?_⟩
    have al := E.made eN T1
    refine ⟨g, F, x, fun x1 => b.f (datS σ) x1, al.fh, al.gr, fun g' E' H2 Q2 F2 x2 hg e1 e2 gr2 mp => ?_, ?_⟩
    · refine b.ok g' (frameOf g' H2) F2 _ F2 H2 τ (datS σ) x2 _ trivial (E.datS hg e1 e2 gr2) ?_
      replace mp : MPost K g' F2 H2 Q2 E' (b.f (datS σ) x2) := mp
      cases em : b.f (datS σ) x2 with
      | ok d x' => rw [em] at mp; exact fun v F3 H3 _ E3 r3 => mp v F3 H3 (E3.fin.alG gr2) r3
      | exc C y x' => rw [em] at mp; exact fun F3 H3 dd _ E3 r3 => mp F3 H3 dd (E3.fin.alG gr2) r3
      | bad => rw [em] at mp; exact mp.elim
    · have h : Post K g Φ F0 W F τ σ (QE K g Φ F0 F τ σ Q) (lamP N HS (fun x1 => b.f (datS σ) x1) x) := h
      cases em : lamP N HS (fun x1 => b.f (datS σ) x1) x with
      | ok d x' => rw [em] at h; exact fun v F' H' al2 r => h v F' H' al2.f ((E.alG al).alG al2) r
      | exc C y x' => exact absurd em lamP_exc
      | bad => rw [em] at h; exact h.elim
end
end Yx

namespace Yx
variable [Tb]
open PySem L2 RZ PySem.Spec PyProof.Rows LamX

section
variable {X : Cx} {pins : List (Addr × Obj)} {σ : L2.St} {H : Hp} {s : Shared}
/-- the context of the def that was handed the function object -/
abbrev gotCx (X : Cx) (Ng : List Str) (qg : Str) (sg : Scope) (g : Addr) (cdg : Value) (s : Shared) (H : Hp) : Cx := cxOf (L2.CX X.prog X.w) X.prog X.w X.K X.mg X.base Ng qg sg g cdg X.A X.stack s H fun _ _ _ => False
/-- a() there -/
theorem pe_actG {Ng : List Str} {qg : Str} {sg : Scope} {g f c' : Addr} {cdg pm ctv : Value} {params : Arguments} {body : Expr} {scope : Scope} {k : Nat} {a : Str} {pn : List (Addr × Obj)} {xe : Value → Shared → Prop} {W : WX} {tb : XK → TE} {p1 p2 : Pos}
    (I : Inv X pins σ H s) (L : LamS X.env.scope scope)
    (hf : s.heap.get? f = some (PySem.W.kla_obj "<lambda>" (X.env.qual ++ "<lambda>") params body scope (cloFrom X.env.cells scope.names []) pm c' ctv)) (hfn : H f = none) (hfr : f ∉ frs X.stack)
    (hbind : bindArgs (PySem.W.kla_fn "<lambda>" (X.env.qual ++ "<lambda>") params body scope (cloFrom X.env.cells scope.names []) pm (.ref c') ctv) ⟨[], []⟩ = pure [])
    (tk : Takes ((gotCx X Ng qg sg g cdg s H).tr pn xe) W) (hr : Room (k + 1) (X.A.deeper (envOfC qg sg s.heap.objs.size g cdg)))
    (hbody : ∀ (outer : List PySem.Env) (s1 : Shared) (H1 : Hp) (E : XK), PE (lamCx X (X.A.deeper (envOfC qg sg s.heap.objs.size g cdg)) outer s1 H1 E scope f c') body (tb E))
    (hN : Ng[0]? = some a) (hv : Vis sg a) (hd : (a == ("__debug__" : Str)) = false) (hcd : (a == ("__classdict__" : Str)) = false) :
    PE ((gotCx X Ng qg sg g cdg s H).tr pn xe) (.Call (.Name a p1) [] [] p2) (fun σZ HZ Q => σZ[0]? = some (some (.ref f)) ∧ HZ c' = some (CodeO c' (X.env.qual ++ "<lambda>")) ∧ tb (WE W σZ) σ HZ Q) := by
  constructor
  intro pinsZ sZ σZ HZ Q IZ want
  obtain ⟨hs, hc, ht⟩ := want
  apply wpAny_Call_Name_kw
  have name := (pe_var (X := (gotCx X Ng qg sg g cdg s H).tr pn xe) (pos := p1) (i := 0) hN hv hd hcd).run pinsZ sZ σZ HZ (fun v H1 => v = .ref f ∧ H1 = HZ) IZ ⟨.ref f, hs, rfl, rfl⟩
  refine thn name ?_
  rintro u s1 ⟨v, H1, I1, r1, rfl, rfl⟩
  obtain rfl : u = Value.ref f := r1
  have still : s1.heap.get? f = some (PySem.W.kla_obj "<lambda>" (X.env.qual ++ "<lambda>") params body scope (cloFrom X.env.cells scope.names []) pm c' ctv) :=
    I1.base.keep f _ hf hfn hfr (fun z => by cases (show f ∈ ([] : List Addr) from z))
  apply PySem.W.callWith_F0 ⟨_, _, _, _, still⟩
  have since : Un (frs X.stack) [] H H1 s.heap s1.heap := I1.base
  have code := (I1.hok c' _ hc).1
  obtain ⟨oc, vs, t, c1, c2, c3⟩ := code
  have run : codeAny (model X.prog X.w) (X.A.deeper (envOfC qg sg s.heap.objs.size g cdg)) (.call (.ref f) ⟨[], []⟩)
      (CR (L2.CX X.prog X.w) (envOfC qg sg s.heap.objs.size g cdg :: X.stack) X.prog X.w H1 s1 Q (WE W σZ)) s1 := by
    apply PySem.W.kla_callFunE hr.depth still rfl L.co L.gen rfl ⟨c', oc, vs, t, rfl, c1, c2, c3⟩
    rw [hbind]
    apply wpAny_pure
    refine wpAny_newFunctionEnv (fun y hy => (L.own y hy).2) (fun y hy => by cases hy) (fun h1 n1 sb => ?_) L.kind
    constructor
    · exact I1.nolimit.fresh _ sb
    show codeAny _ _ (.expr body (lamEnv X scope s1.heap.objs.size f c')) _ _
    have grown : ∀ b o, s1.heap.get? b = some o → h1.get? b = some o := fun b o e =>
      sb.extBut b o (fun z => absurd (Heap.lt_size e) (by rw [z]; exact Nat.lt_irrefl _)) (Heap.get?_push_of_some _ e)
    have start0 : Inv (lamCx X (X.A.deeper (envOfC qg sg s.heap.objs.size g cdg)) (envOfC qg sg s.heap.objs.size g cdg :: X.stack) s1 H1 (WE W σZ) scope f c') [] σ H1 { s1 with heap := h1, toks := s1.toks + ([] : List (Str × Value)).length } :=
      lam_start2 I L I1.env0 hr.hd since n1 grown
    apply PySem.W.kla_codeExpr
    refine wpAny_mono ((hbody _ s1 H1 (WE W σZ)).run [] _ _ H1 Q start0 ht) ?_ fun _ _ z => z
    rintro v s' ⟨w', H', J, rv, q⟩
    exact ⟨w', H', J.os, J.bare, J.base, J.hok, rv, q⟩
  apply wpAny_call
  refine codeAny_mono run ?_
  rintro (e | fl) s' got
  · exact passAt tk σZ pinsZ H1 s1 e s' I1 got
  · match fl, got with
    | .ret u, got => exact I1.after got
    | .next, got => exact False.elim got
    | .brk, got => exact False.elim got
    | .cont, got => exact False.elim got
end
/-- a def that calls what it is handed, ready -/
structure Hlp (P : Program) (w : World) (K : PySem.W.Frag) (mg : Str → Option Value) (base : Heap) (k : Nat) (x : Str) (st : Stmt) (f : Addr) (fd : FuncData) (a : Str) (N : List Str) (HS : (c : Clo K) → @SS _ (cbOf c) K) : Prop where
  F : Fun K x x st f fd
  S : FnScope N [a] (defScope st)
  g : mg x = some (.ref f)
  ke : PySem.W.keepIn K (.ref f) = true
  b : Binds K fd [a] []
  v : Vis (defScope st) a
  one : ∀ (c : Clo K) (σ : Sg) (x : Option Gst), @SS.f _ (cbOf c) K (HS c) σ x = @SS.f _ (cbOf (Clo.plain K c.m)) K (HS (Clo.plain K c.m)) σ x
  run : ∀ (c : Clo K) (cdv : Value) (A : Around) (outer : List PySem.Env) (s : Shared) (H : Hp), Room k (A.deeper (envOfC x (defScope st) s.heap.objs.size f cdv)) → A.guards = some [] →
    (∀ (W : WX) (pn : List (Addr × Obj)) (xe : Value → Shared → Prop) (p1 p2 : Pos), Takes ((cxOf (L2.CX P w) P w K mg base N x (defScope st) f cdv A outer s H fun _ _ _ => False).tr pn xe) W →
      PE ((cxOf (L2.CX P w) P w K mg base N x (defScope st) f cdv A outer s H fun _ _ _ => False).tr pn xe) (.Call (.Name a p1) [] [] p2) (@SE.t _ (cbOf c) K B0 (SE.hole c B0) W)) →
    PSs (cxOf (L2.CX P w) P w K mg base N x (defScope st) f cdv A outer s H fun _ _ _ => False) (defBody st) (@SS.t _ (cbOf c) K (HS c) fun _ _ _ _ => False)
theorem takes_lam {X : Cx} {A : Around} {outer : List PySem.Env} {s : Shared} {H : Hp} {E : XK} {scope : Scope} {f c' : Addr} : Takes (lamCx X A outer s H E scope f c') (fun cls d _ H => E cls d H) := takes_of rfl rfl rfl rfl
variable [Cb]
/-- x(lambda: body) -/
theorem pe_lamG {X : Cx} {x a : Str} {st : Stmt} {g c P : Addr} {fd : FuncData} {k : Nat} {N : List Str} {HS : (c : Clo X.K) → @SS _ (cbOf c) X.K} {B : Bs} {W : WX} {b : SE X.K B0} {params : Arguments} {body : Expr} {scope : Scope} {p lpos pos : Pos}
    {n : Nat} (h_ : Hlp X.prog X.w X.K X.mg X.base (k + 1) x st g fd a N HS) (hn : N.length = n) (hg : Gl X x) (TB : TabB X.base X.mg c P) (hcode : X.env.code = .ref c) (hmT : (P, X.env.qual ++ "<lambda>") ∈ Tb.tb) (hr : Room (k + 2) X.A) (hgu : X.A.guards = some [])
    (L : LamS X.env.scope scope) (hdef : defaultsOf params X.env = ([], [])) (hbind : ∀ (q : Str) (cl : List (Str × Addr)) (pm cv ctv : Value), bindArgs (PySem.W.kla_fn "<lambda>" q params body scope cl pm cv ctv) ⟨[], []⟩ = pure [])
    (hbody : ∀ (A : Around) (outer : List PySem.Env) (s : Shared) (H : Hp) (E : XK) (f c' : Addr), Room k (A.deeper (lamEnv X scope s.heap.objs.size f c')) → A.guards = some [] → Takes (lamCx X A outer s H E scope f c') (fun cls d _ H => E cls d H) → PE (lamCx X A outer s H E scope f c') body (b.t fun cls d _ H => E cls d H))
    (hdb : (x == ("__debug__" : Str)) = false := by decide) (hd : (a == ("__debug__" : Str)) = false := by decide) (hcd : (a == ("__classdict__" : Str)) = false := by decide) :
    PE X (.Call (.Name x p) [.Lambda params body scope lpos] [] pos) ((SE.lam (B := B) n HS b).t W) := by
  subst hn
  obtain ⟨oc, od, kV, doc, pm0, an, cdv, ct, osl, rfl, lk, hcd0⟩ := h_.F.ex
  have hu : ∀ p ∈ Tb.tb, p.1 = P → p.2 = X.env.qual ++ "<lambda>" := fun p hp e => by
    rw [Tb.one p hp _ hmT e]
  constructor
  intro pins s σ H Q I want
  obtain ⟨hT, h⟩ := want
  refine wpAny_Call_Name_kw (ld_glob I hg h_.g ?_ hdb)
  refine PySem.W.callWith_K (h₀ := X.base) I.ok.mod.kin h_.ke ?_ (by rfl) (by rfl)
  show wpAny _ _ (spliced ((false, eval (.Lambda params body scope lpos) X.env) :: backTo pos (starEach [] X.env))) _ _ s
  apply Calls.spliced_cons
  refine lam_make2 I TB hcode hmT hu hT hdef (L.has I.ok) ?_
  intro f c' pm' ctv H1 s1 I1 eN T1 hf hfn hfr hco
  refine Calls.spliced_nil ⟨I1.kIn, ?_⟩
  obtain ⟨g0, F, x0, m, eF, gr, sp, mp⟩ := h H1 eN T1
  have run : codeAny (model X.prog X.w) X.A (.call (.ref g) ⟨[.ref f], []⟩) (CR (L2.CX X.prog X.w) X.stack X.prog X.w H1 s1 Q fun _ _ _ => False) s1 := by
    refine run_ofS (N := N) (ps := [a]) (us := [.ref f]) (vs := [.ref f]) lk hcd0 h_.S hr I1.env0 (h_.b s1 [.ref f] I1.kIn rfl) (.cons rfl .nil) rfl fun hr1 => ?_
    let cl : Clo X.K := ⟨f, c', X.env.qual ++ "<lambda>", F, gsa g0, fun E H' Q' => b.t (fun cls d _ H => E cls d H) σ H' Q', m, fun g' E H Q F1 x1 e => sp g' E H Q F1 x1 e⟩
    refine ⟨_, h_.run cl cdv X.A X.stack s1 H1 hr1 hgu (fun W pn xe p1 p2 tk => ?_), ?_⟩
    · have hN0 : N[0]? = some a := by
        have e := h_.S.pre
        cases N with
        | nil => cases e
        | cons z r => simp at e; rw [e]; rfl
      exact pe_actG (tb := fun E => b.t fun cls d _ H => E cls d H) I1 L hf hfn hfr (hbind _ _ _ _ _) tk hr1 (fun outer s2 H2 E => hbody _ outer s2 H2 E f c' (hr1.deeper _) hgu takes_lam) hN0 h_.v hd hcd
    · have hlen : 1 ≤ N.length := by
        have e := congrArg List.length h_.S.pre
        rw [List.length_take] at e
        simp at e
        omega
      letI : Cb := cbOf cl
      have E0 : Env X.K g0 (frameOf g0 H1) F F H1 (L2.start N [.ref f]) (some .clo :: List.replicate (N.length - 1) none) x0 := {
        ex := eF
        f0 := Ex.refl F
        fr := frameOf_ex g0 H1
        dj := fun a o _ _ h => h
        len := by
          unfold L2.start
          simp only [List.length_append, List.length_map, List.length_replicate, List.length_cons, List.length_nil]
          omega
        get := fun i s h => by
          cases i with
          | zero =>
            simp at h
            subst h
            exact ⟨.ref f, start_get rfl, rfl, rfl, hco, Ex.refl F⟩
          | succ i =>
            simp [List.getElem?_replicate] at h
        own := fun i s p h m => by
          cases i with
          | zero => simp at h; subst h; cases m
          | succ i => simp [List.getElem?_replicate] at h
        dis := fun i j s t v h m => by
          cases i with
          | zero => simp at h; subst h; cases m
          | succ i => simp [List.getElem?_replicate] at h
        gr := gr
        gf := fun a ha => by unfold frameOf; rw [if_pos ha]
        np := frameOf_np g0 H1 }
      refine @SS.ok _ (cbOf cl) X.K (HS cl) g0 (frameOf g0 H1) F _ F H1 _ _ x0 _ E0 ?_
      rw [h_.one cl]
      unfold lamP at mp
      show @PostS _ (cbOf cl) X.K g0 (frameOf g0 H1) F _ F _ (@SS.f _ (cbOf (Clo.plain X.K m)) X.K (HS (Clo.plain X.K m)) (some .clo :: List.replicate (N.length - 1) none) x0)
      cases eo : @SS.f _ (cbOf (Clo.plain X.K m)) X.K (HS (Clo.plain X.K m)) (some .clo :: List.replicate (N.length - 1) none) x0 with
      | nx σ' x' => simp only [eo] at mp; exact fun F' H' τ' e E' => mp .non F' H' (Fin.alG gr (@Env.fin _ (cbOf cl) _ _ _ _ _ _ _ _ _ E')) .non
      | rt d x' => simp only [eo] at mp; exact fun v F' H' e fin rv => mp v F' H' (fin.alG gr) rv
      | exc C y σ' x' => simp only [eo] at mp
      | bk σ' x' => simp only [eo] at mp
      | ct σ' x' => simp only [eo] at mp
      | bad => simp only [eo] at mp
  apply wpAny_call
  refine codeAny_mono run ?_
  rintro (e | fl) s2 got
  · obtain ⟨_, _, _, _, _, _, _, _, _, _, _, _, z⟩ := (show L2.CX X.prog X.w X.stack H1 s1 (fun _ _ _ => False) e s2 from got)
    exact z.elim
  · match fl, got with
    | .ret u, got => exact I1.after got
    | .next, got => exact False.elim got
    | .brk, got => exact False.elim got
    | .cont, got => exact False.elim got
end Yx

namespace Yx
variable [Tb] [Cb]
open PySem PySem.Spec PyProof.Rows L2 RZ
/-! ### a tuple times 1 is itself -/
theorem tuple_mul_one (l : Addr) (items : Array Value) (n : Nat) (dd : Option Addr) (sl : Array (Option Value)) (u : Tok) :
    Meets (Builtin.«tuple.__mul__» ⟨[.ref l, .int 1 u], []⟩) (fun _ R s => s.heap.get? l = some { cls := .type "tuple", dict := dd, data := .seq items n, slots := sl } ∧ R (.ok (.ret (Value.ref l))) s) :=
  .of_wp fun prog w A R s h => by
    obtain ⟨hp, g, d, tk, os⟩ := s
    obtain ⟨hl, h⟩ := h
    have f1 := AutoSeq1.idx_int
    have c1 : (items.isEmpty || (1 : Int) == 1) = true := by simp
    wp_walk using wpAny_loadPart' hl
    exact ⟨_, rfl, h⟩
def rRep1 (K : PySem.W.Frag) : R2 := fun x y H Q => ∃ l vs, x = .ref l ∧ y = .int 1 ∧ SqT K H l vs ∧ Q (.ref l) H
theorem op_rep1 {X : Cx} : OpR X (binaryOp .Mult) (rRep1 X.K) := by
  intro pins s σ H x y v u Q I rx ry h
  obtain ⟨l, vs, rfl, rfl, hT, q⟩ := h
  cases rx
  obtain ⟨t, rfl⟩ := ry
  obtain ⟨its, r, ⟨⟨cls, dd, data, sl⟩, ho, hc, n, hd⟩, hs⟩ := I.tuple hT
  simp only at hc hd
  subst hc hd
  refine wpAny_binaryOp_repeat_ref (T := "tuple") (U := "int") (by decide) ⟨_, ho, rfl⟩ (fun s' => typeIs_int s' 1 t) noFill_tuple_mul F.fills_int_mul F.slot_int_rmul repeat_tuple F.slot_int_index.lookup ?_
  refine call_meets F.slot_int_rmul (typeIs_int s 1 t) F.entry_int_rmul (F.args_int_rmul_2 _ _) (int_rmul_tuple 1 t l its.toArray n dd sl) ⟨ho, rfl, ⟨_, ho, rfl⟩, ?_⟩
  exact call_meets F.slot_tuple_mul ⟨_, ho, rfl⟩ F.entry_tuple_mul (F.args_tuple_mul_2 _ _) (tuple_mul_one l its.toArray n dd sl t) ⟨ho, ⟨.ref l, H, I.tok _, rfl, q⟩⟩
end Yx

namespace Yx
variable [Tb] [Cb]
open PySem PySem.Spec PyProof.Rows L2 RZ
/-! ### a tuple times no number above 0; a list and a list -/
theorem tuple_mul_none (l : Addr) (items : Array Value) (n : Nat) (dd : Option Addr) (sl : Array (Option Value)) (k : Int) (u : Tok) (lo : ¬ (k < -(2 ^ 63) ∨ k ≥ 2 ^ 63)) (ne : items.isEmpty = false) (le : k ≤ 0) :
    Meets (Builtin.«tuple.__mul__» ⟨[.ref l, .int k u], []⟩) (fun _ R s => s.heap.get? l = some { cls := .type "tuple", dict := dd, data := .seq items n, slots := sl } ∧
      R (.ok (.ret (.ref s.heap.objs.size))) { s with heap := s.heap.push { cls := .type "tuple", data := .seq #[] } }) :=
  .of_wp fun prog w A R s h => by
    obtain ⟨hp, g, d, tk, os⟩ := s
    obtain ⟨hl, h⟩ := h
    have f1 := AutoSeq1.idx_int
    have c0 : (decide (k < -(2 ^ 63)) || decide (k ≥ 2 ^ 63)) = false := by
      simp only [Bool.or_eq_false_iff, decide_eq_false_iff_not]
      exact ⟨fun z => lo (.inl z), fun z => lo (.inr z)⟩
    have c1 : (items.isEmpty || k == 1) = false := by
      rw [ne, Bool.false_or, beq_eq_false_iff_ne]
      omega
    have c2 : (decide (k ≤ 0) || items.isEmpty) = true := by rw [decide_eq_true le, Bool.true_or]
    wp_walk using wpAny_loadPart' hl
    repeat (first
      | (refine wpAny_ite_false (decide_eq_false (by rw [c0]; decide)) ?_; wp_walk using wpAny_loadPart' hl)
      | (refine wpAny_ite_false (decide_eq_false (by rw [c1]; decide)) ?_; wp_walk using wpAny_loadPart' hl)
      | (refine wpAny_ite_true (decide_eq_true c2) ?_; wp_walk using wpAny_loadPart' hl))
    exact ⟨_, rfl, h⟩
def rRep0 (K : PySem.W.Frag) : R2 := fun x y H Q => ∃ l k vs, x = .ref l ∧ y = .int k ∧ SqT K H l vs ∧ vs ≠ [] ∧ k ≤ 0 ∧ -(2 ^ 63) ≤ k ∧ ∀ p, H p = none → Q (.ref p) (upd H p (.tup []))
theorem op_rep0 {X : Cx} : OpR X (binaryOp .Mult) (rRep0 X.K) := by
  intro pins s σ H x y v u Q I rx ry h
  obtain ⟨l, k, vs, rfl, rfl, hT, hne, h0, h1, q⟩ := h
  cases rx
  obtain ⟨t, rfl⟩ := ry
  obtain ⟨its, r, ⟨⟨cls, dd, data, sl⟩, ho, hc, n, hd⟩, hs⟩ := I.tuple hT
  simp only at hc hd
  subst hc hd
  have hi : its.toArray.isEmpty = false := by
    cases its with
    | nil => cases r; exact absurd rfl hne
    | cons a b => rfl
  refine wpAny_binaryOp_repeat_ref (T := "tuple") (U := "int") (by decide) ⟨_, ho, rfl⟩ (fun s' => typeIs_int s' k t) noFill_tuple_mul F.fills_int_mul F.slot_int_rmul repeat_tuple F.slot_int_index.lookup ?_
  refine call_meets F.slot_int_rmul (typeIs_int s k t) F.entry_int_rmul (F.args_int_rmul_2 _ _) (int_rmul_tuple k t l its.toArray n dd sl) ⟨ho, rfl, ⟨_, ho, rfl⟩, ?_⟩
  refine call_meets F.slot_tuple_mul ⟨_, ho, rfl⟩ F.entry_tuple_mul (F.args_tuple_mul_2 _ _) (tuple_mul_none l its.toArray n dd sl k t (by omega) hi h0) ⟨ho, ?_⟩
  exact ⟨.ref s.heap.objs.size, _, I.laid (t' := s.toks) (o := .tup []) (fun b ob q => Heap.get?_push_of_some _ q) (Nat.le_refl _) ⟨Nat.zero_le _, [], .nil, IsTup.new _ _⟩, rfl, q _ (I.hok.fresh (Nat.le_refl _))⟩
def rCatL (K : PySem.W.Frag) : R2 := fun x y H Q => ∃ a b xs ys, x = .ref a ∧ y = .ref b ∧ SqL K H a xs ∧ SqL K H b ys ∧ xs.length + ys.length ≤ sizeLine ∧ ∀ p, H p = none → Q (.ref p) (upd H p (.lst (xs ++ ys)))
theorem op_catL {X : Cx} : OpR X (binaryOp .Add) (rCatL X.K) := by
  intro pins s σ H x y v u Q I rx ry h
  obtain ⟨a, b, xs, ys, rfl, rfl, ha, hb, hz, q⟩ := h
  cases rx
  cases ry
  obtain ⟨its, r, ⟨⟨cls, dd, data, sl⟩, n, ho, hc, hd, hs⟩, _⟩ := I.list ha
  obtain ⟨its2, r2, ⟨⟨cls2, dd2, data2, sl2⟩, n2, ho2, hc2, hd2, hs2⟩, _⟩ := I.list hb
  simp only at hc hd hc2 hd2
  subst hc hd hc2 hd2 hs hs2
  have e : its.toArray ++ its2.toArray = (its ++ its2).toArray := by simp
  have l1 := r.length
  have l2 := r2.length
  refine concat_meets ⟨_, ho, rfl⟩ ⟨_, ho2, rfl⟩ noFill_list_add seq_list_add PySem.F.slot_list_add PySem.F.entry_list_add (PySem.F.args_list_add_2 _ _)
    (list_addW a b its.toArray its2.toArray n n2 none none sl sl2 (by rw [List.size_toArray, List.size_toArray]; omega)) ⟨ho, ho2, ?_⟩
  rw [e]
  exact ⟨.ref _, _, I.lnew (t' := s.toks) (r.append r2) (by rw [List.length_append]; omega), rfl, q _ I.fresh⟩
end Yx

namespace Yx
variable [Tb] [Cb]
open PySem L2 RZ

theorem OpR.or {X : Cx} {f : Value → Value → Sem Value} {r r' : R2} (h : OpR X f r) (h' : OpR X f r') : OpR X f (fun x y H Q => r x y H Q ∨ r' x y H Q) := by
  intro pins s σ H x y v u Q I rx ry q
  rcases q with q | q
  · exact h pins s σ H x y v u Q I rx ry q
  · exact h' pins s σ H x y v u Q I rx ry q
theorem CallR.or {X : Cx} {f : Value} {r r' : List V → Hp → VK → Prop} (h : CallR X f r) (h' : CallR X f r') : CallR X f (fun x H Q => r x H Q ∨ r' x H Q) := by
  intro pins s σ H xs us Q I rx q
  rcases q with q | q
  · exact h pins s σ H xs us Q I rx q
  · exact h' pins s σ H xs us Q I rx q

/-! ### data as the library's own -/
mutual
def D.py : D → PyData
  | .non => .none
  | .bl b => .bool b
  | .int i => .int i
  | .str x => .str x
  | .st => .none
  | .ref _ => .none
  | .tup l => .tuple (D.pys l)
  | .lst l => .list (D.pys l)
  | .dcK _ => .none
  | .dcT _ => .none
def D.pys : List D → List PyData
  | [] => []
  | d :: l => D.py d :: D.pys l
end
mutual
/-- it holds no reference -/
def D.pure : D → Bool
  | .st => false
  | .ref _ => false
  | .tup l => D.pures l
  | .lst l => D.pures l
  | .dcK _ => false
  | .dcT _ => false
  | _ => true
def D.pures : List D → Bool
  | [] => true
  | d :: l => D.pure d && D.pures l
end
section
variable {K : PySem.W.Frag} {sa : Addr} {F H : Hp}
mutual
theorem Rep.dp (e : Ex F H) {v : V} {d : D} (r : Rep K sa F v d) (h : D.pure d = true) : Dp K H v (D.py d) :=
  match r with
  | .non => .non
  | .bl => .bl _
  | .int => .int _
  | .str => .str _
  | .st => by simp [D.pure] at h
  | .ref => by simp [D.pure] at h
  | .tup s q => by rw [D.py]; exact .tup (ex_t e (SqT.of s)) (Reps.dp e q (by simpa [D.pure] using h))
  | .lst s q => by rw [D.py]; exact .lst (ex_l e s) (Reps.dp e q (by simpa [D.pure] using h))
  | .dcK _ _ => by simp [D.pure] at h
  | .dcT _ _ => by simp [D.pure] at h
theorem Reps.dp (e : Ex F H) {vs : List V} {ds : List D} (r : Reps K sa F vs ds) (h : D.pures ds = true) : DpAll K H vs (D.pys ds) :=
  match r with
  | .nil => by rw [D.pys]; exact .nil
  | .cons a b => by
    simp only [D.pures, Bool.and_eq_true] at h
    rw [D.pys]
    exact .cons (Rep.dp e a h.1) (Reps.dp e b h.2)
end
end

/-! ### numbers -/
section
variable (K : PySem.W.Frag)
def intOp (c : Int → Int → Bool) (g : Int → Int → D) (a b : D) : Option D :=
  match a, b with
  | .int i, .int j => if c i j = true then some (g i j) else none
  | _, _ => none
theorem intOp_some {c : Int → Int → Bool} {g : Int → Int → D} {a b d : D} (h : intOp c g a b = some d) : ∃ i j, a = .int i ∧ b = .int j ∧ c i j = true ∧ d = g i j := by
  unfold intOp at h
  split at h
  · split at h
    · rename_i z; cases h; exact ⟨_, _, rfl, rfl, z, rfl⟩
    · cases h
  · cases h
/-- an operator of two numbers that gives a number -/
def opN (C : Int → Int → Prop) (c : Int → Int → Bool) (hc : ∀ i j, c i j = true → C i j) (g : Int → Int → Int) : Op2 K where
  r := rI C fun i j => .int (g i j)
  f := intOp c fun i j => .int (g i j)
  ok := fun sa F H v1 v2 d1 d2 d Q ex r1 r2 e q => by
    obtain ⟨i, j, rfl, rfl, hcc, rfl⟩ := intOp_some e
    cases r1; cases r2
    exact ⟨i, j, rfl, rfl, hc i j hcc, q _ F H (Al.refl ex) .int⟩
def opN0 (g : Int → Int → Int) : Op2 K where
  r := rI0 fun i j => .int (g i j)
  f := intOp (fun _ _ => true) fun i j => .int (g i j)
  ok := fun sa F H v1 v2 d1 d2 d Q ex r1 r2 e q => by
    obtain ⟨i, j, rfl, rfl, hcc, rfl⟩ := intOp_some e
    cases r1; cases r2
    exact ⟨i, j, rfl, rfl, q _ F H (Al.refl ex) .int⟩
def opB0 (g : Int → Int → Bool) : Op2 K where
  r := rI0 fun i j => .bl (g i j)
  f := intOp (fun _ _ => true) fun i j => .bl (g i j)
  ok := fun sa F H v1 v2 d1 d2 d Q ex r1 r2 e q => by
    obtain ⟨i, j, rfl, rfl, hcc, rfl⟩ := intOp_some e
    cases r1; cases r2
    exact ⟨i, j, rfl, rfl, q _ F H (Al.refl ex) .bl⟩
/-- + of numbers, of tuples -/
def catF (a b : D) : Option D :=
  match a, b with
  | .int i, .int j => some (.int (i + j))
  | .tup xs, .tup ys => if szOk (xs.length + ys.length) = true then some (.tup (xs ++ ys)) else none
  | .lst xs, .lst ys => if szOk (xs.length + ys.length) = true then some (.lst (xs ++ ys)) else none
  | _, _ => none
def opAdd : Op2 K where
  r := fun x y H Q => (rI0 (fun i j => .int (i + j)) x y H Q ∨ rCatA K x y H Q) ∨ rCatL K x y H Q
  f := catF
  ok := fun sa F H v1 v2 d1 d2 d Q ex r1 r2 e q => by
    cases r1 with
    | int =>
      cases r2 with
      | int => cases e; exact .inl (.inl ⟨_, _, rfl, rfl, q _ F H (Al.refl ex) .int⟩)
      | _ => cases e
    | tup s1 q1 =>
      cases r2 with
      | tup s2 q2 =>
        rename_i a xs ds b ys es
        unfold catF at e
        simp only at e
        split at e
        · rename_i c
          cases e
          refine .inl (.inr ⟨a, b, xs, ys, rfl, rfl, ex_t ex (SqT.of s1), ex_t ex (SqT.of s2), by rw [q1.length, q2.length]; exact szOk_le c, fun hx => ?_, fun _ hy => ?_, fun _ _ p hp => ?_⟩)
          · subst hx
            have : ds = [] := List.eq_nil_of_length_eq_zero (by rw [← q1.length]; rfl)
            subst this
            exact q _ F H (Al.refl ex) (.tup s2 q2)
          · subst hy
            have : es = [] := List.eq_nil_of_length_eq_zero (by rw [← q2.length]; rfl)
            subst this
            rw [List.append_nil] at q
            exact q _ F H (Al.refl ex) (.tup s1 q1)
          · have al := Al.new (o := .tup (xs ++ ys)) ex hp
            exact q _ _ _ al (.tup upd_same ((q1.mono al.f).append (q2.mono al.f)))
        · cases e
      | _ => cases e
    | lst s1 q1 =>
      cases r2 with
      | lst s2 q2 =>
        rename_i a xs ds b ys es
        unfold catF at e
        simp only at e
        split at e
        · rename_i c
          cases e
          refine .inr ⟨a, b, xs, ys, rfl, rfl, ex_l ex s1, ex_l ex s2, by rw [q1.length, q2.length]; exact szOk_le c, fun p hp => ?_⟩
          have al := Al.new (o := .lst (xs ++ ys)) ex hp
          exact q _ _ _ al (.lst (SqL.of upd_same) ((q1.mono al.f).append (q2.mono al.f)))
        · cases e
      | _ => cases e
    | _ => cases r2 <;> cases e
theorem op_addX {X : Cx} : OpR X (binaryOp .Add) (opAdd X.K).r := OpR.or (OpR.or op_add op_catA) op_catL
def opSub : Op2 K := opN0 K fun i j => i - j
/-- * of numbers, of a tuple and a number -/
def mulF (a b : D) : Option D :=
  match a, b with
  | .int i, .int j => if decide (i.natAbs.log2 + j.natAbs.log2 < 1000000) = true then some (.int (i * j)) else none
  | .tup xs, .int k => if k = 1 then some (.tup xs) else if (!xs.isEmpty && decide (k ≤ 0) && decide (-(2 ^ 63) ≤ k)) = true then some (.tup []) else if (!xs.isEmpty && decide (2 ≤ k) && decide (k ≤ 1000) && decide (xs.length ≤ 1000)) = true then some (.tup (List.replicate k.toNat xs).flatten) else none
  | _, _ => none
theorem reps_flat {K : PySem.W.Frag} {sa : Addr} {F : Hp} {vs : List V} {ds : List D} (r : Reps K sa F vs ds) : ∀ n : Nat, Reps K sa F (List.replicate n vs).flatten (List.replicate n ds).flatten
  | 0 => .nil
  | n + 1 => by rw [List.replicate_succ, List.replicate_succ, List.flatten_cons, List.flatten_cons]; exact r.append (reps_flat r n)
def opMul : Op2 K where
  r := fun x y H Q => ((rI CMulW (fun i j => .int (i * j)) x y H Q ∨ rRepT K x y H Q) ∨ rRep1 K x y H Q) ∨ rRep0 K x y H Q
  f := mulF
  ok := fun sa F H v1 v2 d1 d2 d Q ex r1 r2 e q => by
    cases r1 with
    | int =>
      cases r2 with
      | int =>
        unfold mulF at e
        simp only at e
        split at e
        · rename_i c; cases e; exact .inl (.inl (.inl ⟨_, _, rfl, rfl, (by have z := of_decide_eq_true c; exact z), q _ F H (Al.refl ex) .int⟩))
        · cases e
      | _ => cases e
    | tup s1 q1 =>
      cases r2 with
      | int =>
        rename_i a xs ds k
        unfold mulF at e
        simp only at e
        split at e
        · rename_i k1
          cases e
          subst k1
          exact .inl (.inr ⟨a, xs, rfl, rfl, ex_t ex (SqT.of s1), q _ F H (Al.refl ex) (.tup s1 q1)⟩)
        split at e
        · rename_i c
          cases e
          simp only [Bool.and_eq_true, Bool.not_eq_true', decide_eq_true_eq] at c
          obtain ⟨⟨c1, c2⟩, c3⟩ := c
          refine .inr ⟨a, k, xs, rfl, rfl, ex_t ex (SqT.of s1), ?_, c2, c3, fun p hp => ?_⟩
          · intro z
            subst z
            have : ds = [] := List.eq_nil_of_length_eq_zero (by rw [← q1.length]; rfl)
            subst this
            cases c1
          · have al := Al.new (o := .tup []) ex hp
            exact q _ _ _ al (.tup upd_same .nil)
        split at e
        · rename_i c
          cases e
          simp only [Bool.and_eq_true, Bool.not_eq_true', decide_eq_true_eq] at c
          obtain ⟨⟨⟨c1, c2⟩, c3⟩, c4⟩ := c
          refine .inl (.inl (.inr ⟨a, k, xs, rfl, rfl, ex_t ex (SqT.of s1), ?_, c2, c3, by rw [q1.length]; exact c4, fun p hp => ?_⟩))
          · intro z
            subst z
            have : ds = [] := List.eq_nil_of_length_eq_zero (by rw [← q1.length]; rfl)
            subst this
            cases c1
          · have al := Al.new (o := .tup (List.replicate k.toNat xs).flatten) ex hp
            exact q _ _ _ al (.tup upd_same ((reps_flat q1 k.toNat).mono al.f))
        · cases e
      | _ => cases e
    | _ => cases r2 <;> cases e
theorem op_mulX {X : Cx} : OpR X (binaryOp .Mult) (opMul X.K).r := OpR.or (OpR.or (OpR.or op_mulW op_repT) op_rep1) op_rep0
def opDiv : Op2 K := opN K CDivW (fun _ j => decide (0 < j) && decide (j.natAbs.log2 < 9000)) (fun i j h => by simp only [Bool.and_eq_true, decide_eq_true_eq] at h; exact h) fun i j => i / j
def opMod : Op2 K := opN K (fun _ j => 0 < j) (fun _ j => decide (0 < j)) (fun i j h => of_decide_eq_true h) fun i j => i % j
def opPow : Op2 K := opN K CPow (fun i j => decide (0 ≤ j) && decide (j ≤ 1000000) && decide (i.natAbs < 2 ^ 64)) (fun i j h => by simp only [Bool.and_eq_true, decide_eq_true_eq] at h; exact ⟨h.1.1, h.1.2, h.2⟩) fun i j => i ^ j.toNat
def opLt : Op2 K := opB0 K fun i j => decide (i < j)
def opLe : Op2 K := opB0 K fun i j => decide (i ≤ j)
def opGt : Op2 K := opB0 K fun i j => decide (j < i)
def opGe : Op2 K := opB0 K fun i j => decide (j ≤ i)
def opNeg : Op1 K where
  r := rU fun i => .int (-i)
  f := fun d => match d with
    | .int i => some (.int (-i))
    | _ => none
  ok := fun sa F H v1 d1 d Q ex r1 e q => by
    cases r1 with
    | int => cases e; exact ⟨_, rfl, q _ F H (Al.refl ex) .int⟩
    | _ => cases e

/-! ### ==, !=, is, in -/
def shD (d : D) : Bool := D.pure d && SeqAt.shaped (D.py d)
theorem shD_ok {d : D} (h : shD d = true) : D.pure d = true ∧ SeqAt.shaped (D.py d) = true := by
  unfold shD at h; rw [Bool.and_eq_true] at h; exact h
def eqF (neg : Bool) (a b : D) : Option D := if (shD a && shD b) = true then some (.bl (if neg = true then !PyData.eqv (D.py a) (D.py b) else PyData.eqv (D.py a) (D.py b))) else none
theorem eqF_some {neg : Bool} {a b d : D} (h : eqF neg a b = some d) : shD a = true ∧ shD b = true ∧ d = .bl (if neg = true then !PyData.eqv (D.py a) (D.py b) else PyData.eqv (D.py a) (D.py b)) := by
  unfold eqF at h
  split at h
  · rename_i c; rw [Bool.and_eq_true] at c; cases h; exact ⟨c.1, c.2, rfl⟩
  · cases h
/-- == of strings is told of all strings, of other data by the library's own -/
def eqG (neg : Bool) (a b : D) : Option D :=
  match a, b with
  | .str i, .str j => some (.bl (if neg = true then !decide (i = j) else decide (i = j)))
  | a, b => eqF neg a b
theorem dec_vstr {i j : Str} : decide (V.str i = V.str j) = decide (i = j) := by
  by_cases c : i = j
  · subst c; simp
  · have : V.str i ≠ V.str j := fun e => c (by injection e)
    simp [c]
theorem eqG_cases {neg : Bool} {a b d : D} (h : eqG neg a b = some d) : (∃ i j, a = .str i ∧ b = .str j ∧ d = .bl (if neg = true then !decide (i = j) else decide (i = j))) ∨ eqF neg a b = some d := by
  unfold eqG at h
  split at h
  · cases h; exact .inl ⟨_, _, rfl, rfl, rfl⟩
  · exact .inr h
def opEq : Op2 K where
  r := fun x y H Q => rEqD K x y H Q ∨ rEq x y H Q
  f := eqG false
  ok := fun sa F H v1 v2 d1 d2 d Q ex r1 r2 e q => by
    rcases eqG_cases e with ⟨i, j, rfl, rfl, rfl⟩ | e
    · cases r1; cases r2
      have := q _ F H (Al.refl ex) .bl
      rw [if_neg (by decide), ← dec_vstr] at this
      exact .inr ⟨rfl, this⟩
    · obtain ⟨h1, h2, rfl⟩ := eqF_some e
      exact .inl ⟨_, _, r1.dp ex (shD_ok h1).1, r2.dp ex (shD_ok h2).1, (shD_ok h1).2, (shD_ok h2).2, q _ F H (Al.refl ex) .bl⟩
def opNe : Op2 K where
  r := fun x y H Q => rNeD K x y H Q ∨ rNe x y H Q
  f := eqG true
  ok := fun sa F H v1 v2 d1 d2 d Q ex r1 r2 e q => by
    rcases eqG_cases e with ⟨i, j, rfl, rfl, rfl⟩ | e
    · cases r1; cases r2
      have := q _ F H (Al.refl ex) .bl
      rw [if_pos rfl, ← dec_vstr] at this
      exact .inr ⟨rfl, this⟩
    · obtain ⟨h1, h2, rfl⟩ := eqF_some e
      exact .inl ⟨_, _, r1.dp ex (shD_ok h1).1, r2.dp ex (shD_ok h2).1, (shD_ok h1).2, (shD_ok h2).2, q _ F H (Al.refl ex) .bl⟩
theorem op_eqX {X : Cx} (hu : X.A.units + 64 < cLine) : OpR X (compareOp .Eq) (opEq X.K).r := OpR.or (op_eqD hu) op_eq
theorem op_neX {X : Cx} (hu : X.A.units + 64 < cLine) : OpR X (compareOp .NotEq) (opNe X.K).r := OpR.or (op_neD hu) op_ne
def isNon : D → Bool
  | .non => true
  | _ => false
theorem rep_non {sa : Addr} {F : Hp} {v : V} {d : D} (r : Rep K sa F v d) : decide (v = .non) = isNon d := by
  cases r <;> rfl
def rIsNX : R2 := fun x y H Q => y = .non ∧ Q (.bl (decide (x = .non))) H
def opIs : Op2 K where
  r := rIsNX
  f := fun a b => match b with
    | .non => some (.bl (isNon a))
    | _ => none
  ok := fun sa F H v1 v2 d1 d2 d Q ex r1 r2 e q => by
    cases r2 with
    | non => cases e; exact ⟨rfl, by rw [rep_non K r1]; exact q _ F H (Al.refl ex) .bl⟩
    | _ => cases e
theorem op_isX {X : Cx} : OpR X (compareOp .Is) rIsNX := op_isN
/-- in a list of data -/
def inF (neg : Bool) (a b : D) : Option D :=
  match b with
  | .lst l => if (shD a && shD b) = true then some (.bl (if neg = true then !(D.pys l).any (fun z => PyData.eqv z (D.py a)) else (D.pys l).any fun z => PyData.eqv z (D.py a))) else none
  | _ => none
/-! ### built-ins -/
def opLen : OpS K where
  r := fun xs H Q => ∃ p ys, xs = [.ref p] ∧ (SqL K H p ys ∨ SqT K H p ys) ∧ Q (.int ys.length) H
  f := fun _ ds => some (.int ds.length)
  ok := fun sa F H b p vs ds d Q ex s r e q => by
    cases e
    refine ⟨p, vs, rfl, ?_, by rw [r.length]; exact q _ F H (Al.refl ex) .int⟩
    cases b with
    | true => exact .inr s
    | false => exact .inl s
/-- tuple(xs), tuple(t) -/
def opTuple : OpS K where
  r := fun xs H Q => ∃ p ys, xs = [.ref p] ∧ ((SqL K H p ys ∧ ∀ l, H l = none → Q (.ref l) (upd H l (.tup ys))) ∨ (SqT K H p ys ∧ SqT K H p ys ∧ Q (.ref p) H))
  f := fun b ds => if b = true then none else some (.tup ds)
  ok := fun sa F H b p vs ds d Q ex s r e q => by
    cases b with
    | true => cases e
    | false =>
      cases e
      exact ⟨p, vs, rfl, .inl ⟨s, fun l hl => by
        have al := Al.new (o := .tup vs) ex hl
        exact q _ _ _ al (.tup upd_same (r.mono al.f))⟩⟩
theorem cr_tupleX {X : Cx} : CallR X (.type "tuple") (opTuple X.K).r := by
  intro pins s σ H xs us Q I r h
  obtain ⟨p, ys, rfl, h⟩ := h
  refine call_tuple_of pins s σ H _ us Q I r ⟨p, ys, rfl, ?_⟩
  rcases h with h | ⟨_, h1, h2⟩
  · exact .inl h
  · exact .inr ⟨h1, h2⟩
/-- tuple(t), t a tuple: itself -/
def SE.tupOf {K : PySem.W.Frag} {B : Bs} (a : SE K B) : SE K B where
  t := fun W => tCB (opTuple K).r (tCons (a.t W) tNil)
  f := fun σ x => (a.f σ x).bind fun d x1 => match d with
    | .tup ds => .ok (.tup ds) x1
    | .lst ds => .ok (.tup ds) x1
    | _ => .bad
  ok := fun g Φ F0 W F H τ σ x Q hB E h => by
    refine a.ok g Φ F0 W F H τ σ x _ hB E (Post.step h fun d x1 h1 v F1 H1 e1 E1 r1 => ?_)
    cases r1 with
    | tup s r => exact ⟨_, _, rfl, .inr ⟨ex_t E1.ex (SqT.of s), ex_t E1.ex (SqT.of s), h1 _ F1 H1 e1 E1 (.tup s r)⟩⟩
    | lst s r =>
      rename_i p vs ds
      refine ⟨_, _, rfl, .inl ⟨ex_l E1.ex s, fun l hl => ?_⟩⟩
      have al := Al.new (o := .tup vs) E1.ex hl
      exact h1 _ _ _ (e1.trans al.f) (E1.al al) (.tup upd_same (r.mono al.f))
    | _ => exact h1.elim
def opList : OpN K where
  r := fun xs H Q => ∃ p ys, xs = [.ref p] ∧ (SqL K H p ys ∨ SqT K H p ys) ∧ ∀ l, H l = none → Q (.ref l) (upd H l (.lst ys))
  f := fun _ ds => some ds
  ok := fun sa F H b p vs ds es Q ex s r e q => by
    cases e
    refine ⟨p, vs, rfl, ?_, fun l hl => q l vs _ hl rfl r⟩
    cases b with
    | true => exact .inr s
    | false => exact .inl s
/-- the numbers of a list -/
def intsD : List D → Option (List Int)
  | [] => some []
  | .int i :: l => (intsD l).map (i :: ·)
  | _ :: _ => none
theorem intsD_some : ∀ {ds : List D} {ns : List Int}, intsD ds = some ns → ds = ns.map D.int
  | [], ns, h => by cases h; rfl
  | d :: l, ns, h => by
    cases d with
    | int i =>
      unfold intsD at h
      cases e : intsD l with
      | none => rw [e] at h; cases h
      | some ms => rw [e] at h; cases h; rw [intsD_some e]; rfl
    | _ => cases h
def boolsD : List D → Option (List Bool)
  | [] => some []
  | .bl i :: l => (boolsD l).map (i :: ·)
  | _ :: _ => none
theorem boolsD_some : ∀ {ds : List D} {ns : List Bool}, boolsD ds = some ns → ds = ns.map D.bl
  | [], ns, h => by cases h; rfl
  | d :: l, ns, h => by
    cases d with
    | bl i =>
      unfold boolsD at h
      cases e : boolsD l with
      | none => rw [e] at h; cases h
      | some ms => rw [e] at h; cases h; rw [boolsD_some e]; rfl
    | _ => cases h
def rSumA (K : PySem.W.Frag) : List V → Hp → VK → Prop := fun vs H Q => ∃ (a : Addr) (ns : List Int), vs = [V.ref a] ∧ (SqL K H a (ns.map V.int) ∨ SqT K H a (ns.map V.int)) ∧ Q (.int ns.sum) H
def opSum : OpS K where
  r := rSumA K
  f := fun _ ds => (intsD ds).map fun ns => .int ns.sum
  ok := fun sa F H b p vs ds d Q ex s r e q => by
    cases en : intsD ds with
    | none => rw [en] at e; cases e
    | some ns =>
      rw [en] at e; cases e
      have := intsD_some en
      subst this
      have hv := r.ints
      subst hv
      refine ⟨p, ns, rfl, ?_, q _ F H (Al.refl ex) .int⟩
      cases b with
      | true => rw [if_pos rfl] at s; exact .inr s
      | false => rw [if_neg Bool.false_ne_true] at s; exact .inl s
def opAll : OpS K where
  r := rAll K
  f := fun b ds => if b = true then none else (boolsD ds).map fun ns => .bl (ns.all id)
  ok := fun sa F H b p vs ds d Q ex s r e q => by
    cases b with
    | true => cases e
    | false =>
      simp only [Bool.false_eq_true, if_false] at e s
      cases en : boolsD ds with
      | none => rw [en] at e; cases e
      | some ns =>
        rw [en] at e; cases e
        have := boolsD_some en
        subst this
        have hv := r.bools
        subst hv
        exact ⟨p, ns, rfl, s, q _ F H (Al.refl ex) .bl⟩
def opMax2 : OpC K where
  r := fun xs H Q => ∃ i j, xs = [.int i, .int j] ∧ Q (.int (if j > i then j else i)) H
  f := fun ds => match ds with
    | [.int i, .int j] => some (.int (if j > i then j else i))
    | _ => none
  ok := fun sa F H vs ds d Q ex r e q => by
    split at e
    · cases e
      cases r with
      | cons a r => cases r with | cons b r => cases r; cases a; cases b; exact ⟨_, _, rfl, q _ F H (Al.refl ex) .int⟩
    · cases e
def opMin2 : OpC K where
  r := fun xs H Q => ∃ i j, xs = [.int i, .int j] ∧ Q (.int (if j < i then j else i)) H
  f := fun ds => match ds with
    | [.int i, .int j] => some (.int (if j < i then j else i))
    | _ => none
  ok := fun sa F H vs ds d Q ex r e q => by
    split at e
    · cases e
      cases r with
      | cons a r => cases r with | cons b r => cases r; cases a; cases b; exact ⟨_, _, rfl, q _ F H (Al.refl ex) .int⟩
    · cases e
def opInt : OpC K where
  r := fun xs H Q => (∃ i, xs = [.int i] ∧ Q (.int i) H) ∨ ∃ k, xs = [.bl k] ∧ Q (.int (if k then 1 else 0)) H
  f := fun ds => match ds with
    | [.int i] => some (.int i)
    | _ => none
  ok := fun sa F H vs ds d Q ex r e q => by
    split at e
    · cases e
      cases r with
      | cons a r => cases r; cases a; exact .inl ⟨_, rfl, q _ F H (Al.refl ex) .int⟩
    · cases e
/-- isinstance of data: the built-in type's name -/
def tyN : D → Option String
  | .non => some "NoneType"
  | .bl _ => some "bool"
  | .int _ => some "int"
  | .str _ => some "str"
  | .tup _ => some "tuple"
  | .lst _ => some "list"
  | _ => none
/-- repr -/
def shownOk (d : D) : Bool := D.pure d && (D.py d).showable && !(D.py d).hasDict && decide ((D.py d).depth ≤ 64) && decide ((D.py d).shown.length ≤ 16777216)
def rRepr : List V → Hp → VK → Prop := fun xs H Q => ∃ x d, xs = [x] ∧ Dp K H x d ∧ d.showable = true ∧ d.hasDict = false ∧ d.depth ≤ 64 ∧ d.shown.length ≤ 16777216 ∧ Q (.str d.shown) H
def opRepr : OpC K where
  r := rRepr K
  f := fun ds => match ds with
    | [d] => if shownOk d = true then some (.str (D.py d).shown) else none
    | _ => none
  ok := fun sa F H vs ds d Q ex r e q => by
    split at e
    · split at e
      · rename_i c
        cases e
        unfold shownOk at c
        simp only [Bool.and_eq_true, Bool.not_eq_true', decide_eq_true_eq] at c
        obtain ⟨⟨⟨⟨c1, c2⟩, c3⟩, c4⟩, c5⟩ := c
        cases r with
        | cons a r => cases r; exact ⟨_, _, rfl, a.dp ex c1, c2, c3, c4, c5, q _ F H (Al.refl ex) .str⟩
      · cases e
    · cases e
end
section
open PySem.Spec PyProof.Rows
/-- repr(x), where no repr is under way -/
theorem cr_repr {X : Cx} (hu : X.A.units + 100 < cLine) (hg : X.A.guards = some []) : CallR X (.builtin "repr") (rRepr X.K) := by
  intro pins s σ H xs us Q I r h
  obtain ⟨x, d, rfl, hd, h1, h2, h3, h4, q⟩ := h
  obtain ⟨u, rfl, rx⟩ := vals1 r
  have hz : d.shown.length ≤ sizeLine := by rw [sizeLine_eq]; exact h4
  have fin : ∀ {h' : Heap} {tk : Nat} {u' : Tok}, (∀ b o, s.heap.get? b = some o → h'.get? b = some o) → EP X pins σ Q (.str d.shown u') { s with heap := h', toks := tk } :=
    fun {h' tk u'} k => ⟨.str d.shown, H, I.kept (t' := tk) k, ⟨_, rfl⟩, q⟩
  have same : ∀ b o, s.heap.get? b = some o → s.heap.get? b = some o := fun _ _ e => e
  cases hd with
  | non =>
    cases rx
    have q' : Q (.str "None") H := by simpa [PyData.shown] using q
    exact P.repr_of_none ⟨.str "None", H, I.tok _, ⟨_, rfl⟩, q'⟩
  | bl b =>
    cases rx
    have q' : Q (.str (if b then "True" else "False")) H := by simpa [PyData.shown] using q
    exact P.repr_of_bool ⟨.str (if b then "True" else "False"), H, I.tok _, ⟨_, rfl⟩, q'⟩
  | int i =>
    obtain ⟨t, rfl⟩ := rx
    have q' : Q (.str (toString i)) H := by simpa [PyData.shown] using q
    have c : i.natAbs.log2 < 1920 := by simpa [PyData.showable] using h1
    exact P.repr_of_int c ⟨.str (toString i), H, I.tok _, ⟨_, rfl⟩, q'⟩
  | str z =>
    obtain ⟨t, rfl⟩ := rx
    have q' : Q (.str (reprText z)) H := by simpa [PyData.shown] using q
    exact P.repr_of_str ⟨.str (reprText z), H, I.tok _, ⟨_, rfl⟩, q'⟩ (by simpa [PyData.shown] using hz)
  | lst hs ha =>
    cases rx
    obtain ⟨as, rd⟩ := Dp.reads I _ _ _ (Dp.lst hs ha) (show RelV (.ref _) (Value.ref _) from rfl)
    exact repr_of_reads' rd h1 (PyData.noDict_hsm h2) hg (by omega) same (fun h' u tk k => fin k) hz
  | tup hs ha =>
    cases rx
    obtain ⟨as, rd⟩ := Dp.reads I _ _ _ (Dp.tup hs ha) (show RelV (.ref _) (Value.ref _) from rfl)
    exact repr_of_reads' rd h1 (PyData.noDict_hsm h2) hg (by omega) same (fun h' u tk k => fin k) hz
end
end Yx

namespace Yx
variable [Tb] [Cb]
open PySem L2 RZ PySem.Spec PyProof.Rows

/-! ### min, max of a list or tuple of ints -/
theorem alike_ints (ns : List Int) : PySem.W.AlikeAll (ns.map PyData.int) := by
  refine ⟨fun x hx y hy => ?_, fun x hx => ?_⟩
  · obtain ⟨i, _, rfl⟩ := List.mem_map.mp hx
    obtain ⟨j, _, rfl⟩ := List.mem_map.mp hy
    simp [PySem.W.alike]
  · obtain ⟨i, _, rfl⟩ := List.mem_map.mp hx
    exact fun h => nomatch h
theorem depth_ints : ∀ ns : List Int, PyData.depthAll (ns.map PyData.int) ≤ 2
  | [] => by simp [PyData.depthAll]
  | n :: l => by
    have h := depth_ints l
    simp only [List.map_cons, PyData.depthAll, PyData.depth]
    omega
theorem sum_tup {prog : Program} {w : World} {A : Around} {E : Value → Shared → Prop} {s : Shared} {l : Addr} {its : List Value} {ns : List Int} {Q : Value → Shared → Prop} (hh : A.handled = none) (hl : s.heap.IsTuple l its.toArray) (hi : PyProof.Rows.IntsAre its ns)
    (h : ∀ h' tk t', (∀ b o, s.heap.get? b = some o → h'.get? b = some o) → Q (.int ns.sum t') { s with heap := h', toks := tk }) : wpAny (model prog w) A (call (.builtin "sum") [.ref l]) Q E s := by
  obtain ⟨xs, e⟩ := hi.allInts.items
  have hn : numsOf (intItems xs).toList = ns := by rw [← e]; exact hi.numsOf
  rw [nums_intItems] at hn
  rw [e] at hl
  have hlt : l < s.heap.objs.size := by obtain ⟨_, e, _⟩ := hl; exact Heap.lt_size e
  refine call_sum_walkG (wpAny_pyIter_tuple hl ?_)
  refine ⟨_, _, _, _, _, _, numAt xs, rfl, Walks.tuple (A := A.in1) hh _ l (Nat.ne_of_lt hlt) (intItems xs), ⟨⟨_, Heap.get?_push_size _ rfl, rfl, rfl⟩, hl.push _⟩, fun b hb => ?_, (fun _ _ => intItems_at), fun h' tk t' hk => ?_⟩
  · show b < (s.heap.push _).objs.size
    rw [Heap.size_push]
    rcases List.mem_cons.mp hb with rfl | hb
    · exact Nat.lt_succ_self _
    · rcases List.mem_cons.mp hb with rfl | hb
      · exact Nat.lt_succ_of_lt hlt
      · cases hb
  · have := h h' tk t' fun b o eb => hk b o (fun hb => absurd (Heap.lt_size eb) ((List.mem_singleton.mp hb) ▸ Nat.lt_irrefl _)) (Heap.get?_push_of_some _ eb)
    have e2 : preSum (numAt xs) (intItems xs).size = ns.sum := by
      have : (intItems xs).size = xs.size := by simp [intItems]
      rw [this, preSum_eq, List.take_of_length_le (by simp), hn]
    rw [e2]
    exact this
theorem cr_sumA {X : Cx} (hc : X.calm = true) : CallR X (.builtin "sum") (rSumA X.K) := by
  intro pins s σ H vs us Q I r h
  obtain ⟨a, ns, rfl, hs, q⟩ := h
  rcases hs with hs | hs
  · exact cr_sum hc pins s σ H _ us Q I r ⟨a, ns, rfl, hs, q⟩
  · obtain ⟨its, rv, hl, _⟩ := I.tuple hs
    rw [Vals.ref1 r]
    exact sum_tup (I.ok.hd hc) hl rv.ints fun h' tk t' hk => ⟨.int _, H, I.kept hk, ⟨_, rfl⟩, q⟩
/-! ### isinstance of data -/
def isiB (d : D) (b : String) : Option Bool :=
  match tyN d with
  | some a => kitB a b
  | none => none
theorem rd_tyx_l {K : PySem.W.Frag} {H : Hp} {a : Addr} {xs : List V} (s : SqL K H a xs) : TyX K H (.ref a) (.type "list") := by
  rcases s with s | s
  · rcases s with s | ⟨o, s⟩
    · exact .base (.lst s)
    · exact .base (.frz s)
  · obtain ⟨o, us, n, e, c, _⟩ := s
    exact .kList e c
theorem rd_tyx_t {K : PySem.W.Frag} {H : Hp} {a : Addr} {xs : List V} (s : SqT K H a xs) : TyX K H (.ref a) (.type "tuple") := by
  rcases s with s | s
  · rcases s with s | ⟨o, s⟩
    · exact .base (.tup s)
    · exact .fTuple s
  · obtain ⟨o, us, n, e, c, _⟩ := s
    exact .kTuple e c
/-- isinstance(e, T) -/
def SE.isi {K : PySem.W.Frag} {B : Bs} (a : SE K B) (b : String) : SE K B where
  t := fun W => tCB (rIsi K) (tCons (a.t W) (tCons (tC (.ty b)) tNil))
  f := fun σ x => (a.f σ x).bind fun d x1 => match isiB d b with
    | some r => .ok (.bl r) x1
    | none => .bad
  ok := fun g Φ F0 W F H τ σ x Q hB E h => by
    refine a.ok g Φ F0 W F H τ σ x _ hB E (Post.step h fun d x1 h1 v F1 H1 e1 E1 r1 => ?_)
    unfold isiB at h1
    have fin : ∀ (n : String), TyX K H1 v (.type n) → tyN d = some n → rIsi K [v, .ty b] H1 Q := fun n ty en => by
      rw [en] at h1
      simp only at h1
      cases ek : kitB n b with
      | none => rw [ek] at h1; exact h1.elim
      | some r => rw [ek] at h1; exact ⟨v, .ty b, _, _, r, rfl, .ty b, ty, kit_ty ek, h1 _ F1 H1 e1 E1 .bl⟩
    cases r1 with
    | non => exact fin _ (.base .non) rfl
    | bl => exact fin _ (.base (.bl _)) rfl
    | int => exact fin _ (.base (.int _)) rfl
    | str => exact fin _ (.base (.str _)) rfl
    | tup s r => exact fin _ (rd_tyx_t (ex_t E1.ex (SqT.of s))) rfl
    | lst s r => exact fin _ (rd_tyx_l (ex_l E1.ex s)) rfl
    | _ => simp only [tyN] at h1; exact h1.elim
end Yx

namespace Yx
variable [Tb] [Cb]
open PySem L2 RZ PySem.Spec PyProof.Rows

/-! ### zip and enumerate, at the library's level: whatever is drawn from -/
/-- an iterator over the list or tuple at l -/
structure ZE where
  it : Addr
  l : Addr
  tp : Bool
def AtI (h : Heap) (e : ZE) (k : Nat) : Prop := if e.tp = true then h.IsTupleIter e.it e.l k else h.IsListIter e.it e.l k
def Has (h : Heap) (e : ZE) (items : Array Value) : Prop := if e.tp = true then h.IsTuple e.l items else h.IsList e.l items
/-- what a maker of tuples notes of the one it gave out -/
def FO (v : Value) : Prop := v = .none ∨ ∃ T : Addr, v = rawInt T
abbrev ZipR (h : Heap) (z TI TO : Addr) (f0 : Value) (b : Bool) : Prop :=
  h.get? z = some { cls := .type "zip", dict := none, data := .fields #[f0, .bool b, .bool false, .ref TI, .ref TO], slots := #[] }
abbrev EnR (h : Heap) (e it : Addr) (i : Int) (old f0 : Value) (b : Bool) : Prop :=
  h.get? e = some { cls := .type "enumerate", dict := none, data := .fields #[f0, .bool b, .ref it, rawInt i, .none, old], slots := #[] }
section
variable {prog : Program} {w : World} {A : Around} {E : Value → Shared → Prop} {s : Shared}
theorem alive_any {a : Addr} {Q : Option Obj → Shared → Prop} (h : Q (s.heap.get? a) s) : wpAny (model prog w) A (loadIfAlive a) Q E s := fun _ _ _ => h
theorem ne_cls {h : Heap} {a b : Addr} {o o' : Obj} (ha : h.get? a = some o) (hb : h.get? b = some o') (c : o.cls ≠ o'.cls) : a ≠ b := fun e => by
  subst e
  rw [ha] at hb
  cases hb
  exact c rfl
theorem own_free {a : Addr} {cls f0 : Value} {vs : Array Value} {b : Bool} {Q : Bool → Shared → Prop} (ho : s.heap.get? a = some { cls := cls, dict := none, data := .fields vs, slots := #[] }) (h0 : vs[0]? = some f0) (h1 : vs[1]? = some (.bool b)) (hf : FO f0) (hT : Q true s)
    (hF : ∀ h' vs', (vs' = vs ∨ vs' = vs.setIfInBounds 1 (.bool true)) → h'.get? a = some { cls := cls, dict := none, data := .fields vs', slots := #[] } → Heap.SameBut a s.heap h' → Q false { s with heap := h' }) :
    wpAny (model prog w) A (Builtin.SmallTypes.ownedTupleIsFree (.ref a)) Q E s := by
  have hl : 1 < vs.size := by
    rcases Nat.lt_or_ge 1 vs.size with c | c
    · exact c
    · rw [Array.getElem?_eq_none c] at h1; cases h1
  unfold Builtin.SmallTypes.ownedTupleIsFree
  refine wpAny_bind (wpAny_field ho rfl h0 ?_)
  rcases hf with rfl | ⟨T, rfl⟩
  · exact wpAny_pure hT
  · show wpAny _ _ (loadIfAlive ((T : Int).toNat) >>= _) _ _ _
    refine wpAny_bind (alive_any ?_)
    cases hq : s.heap.get? (T : Int).toNat with
    | none => exact wpAny_pure hT
    | some q =>
      show wpAny _ _ (field (.ref a) 1 >>= _) _ _ _
      refine wpAny_bind (wpAny_field ho rfl h1 ?_)
      cases b with
      | true => exact wpAny_pure (hF s.heap vs (.inl rfl) ho (Heap.SameBut.refl _ _))
      | false => exact wpAny_bind (wpAny_setField_rec ho hl fun h' ho' sb => wpAny_pure (hF h' _ (.inr rfl) ho' sb))
theorem nextI_item {e : ZE} {k : Nat} {items : Array Value} {x : Value} {Q : Value → Shared → Prop} (hi : AtI s.heap e k) (hh : Has s.heap e items) (hx : items[k]? = some x)
    (hQ : ∀ h', AtI h' e (k + 1) → Heap.SameBut e.it s.heap h' → Q x { s with heap := h' }) : wpAny (model prog w) A (Builtin.SmallTypes.nextOf (.ref e.it)) Q E s := by
  unfold AtI at hi hQ
  unfold Has at hh
  cases c : e.tp with
  | true =>
    simp only [c, if_true] at hi hh hQ
    exact nextOf_tuple_item hi hh hx hQ
  | false =>
    simp only [c, Bool.false_eq_true, if_false] at hi hh hQ
    exact wpAny_nextOf_list_item hi hh hx hQ
theorem nextI_end {e : ZE} {k : Nat} {items : Array Value} {Q : Value → Shared → Prop} (hd : A.handled = none) (hi : AtI s.heap e k) (hh : Has s.heap e items) (hx : items[k]? = none)
    (hE : ∀ h' c, Heap.ExtBut e.it s.heap h' → (∃ o, h'.get? c = some o ∧ o.cls = .type "StopIteration") → E (.ref c) { s with heap := h' }) : wpAny (model prog w) A (Builtin.SmallTypes.nextOf (.ref e.it)) Q E s := by
  unfold AtI at hi
  unfold Has at hh
  cases c : e.tp with
  | true =>
    simp only [c, if_true] at hi hh
    exact nextOf_tuple_end hd hi hh hx hE
  | false =>
    simp only [c, Bool.false_eq_true, if_false] at hi hh
    exact wpAny_nextOf_list_end hd hi hh hx hE
theorem atI_obj {h : Heap} {e : ZE} {k : Nat} (hi : AtI h e k) : ∃ o, h.get? e.it = some o ∧ (o.cls = .type "tuple_iterator" ∨ o.cls = .type "list_iterator") ∧ ∃ vs, o.data = .fields vs := by
  unfold AtI at hi
  split at hi
  · obtain ⟨o, h1, h2, h3⟩ := hi; exact ⟨o, h1, .inl h2, _, h3⟩
  · obtain ⟨o, h1, h2, h3⟩ := hi; exact ⟨o, h1, .inr h2, _, h3⟩
theorem has_obj {h : Heap} {e : ZE} {items : Array Value} (hi : Has h e items) : ∃ o, h.get? e.l = some o ∧ (o.cls = .type "tuple" ∨ o.cls = .type "list") := by
  unfold Has at hi
  split at hi
  · obtain ⟨o, h1, h2, h3⟩ := hi; exact ⟨o, h1, .inl h2⟩
  · obtain ⟨o, h1, h2, h3⟩ := hi; exact ⟨o, h1, .inr h2⟩
theorem atI_at {h h' : Heap} {e : ZE} {k : Nat} (hi : AtI h e k) (k' : ∀ o, h.get? e.it = some o → h'.get? e.it = some o) : AtI h' e k := by
  unfold AtI at hi ⊢
  split at hi
  · rename_i c; rw [if_pos c]; obtain ⟨o, h1, h2⟩ := hi; exact ⟨o, k' o h1, h2⟩
  · rename_i c; rw [if_neg c]; obtain ⟨o, h1, h2⟩ := hi; exact ⟨o, k' o h1, h2⟩
theorem has_at {h h' : Heap} {e : ZE} {items : Array Value} (hi : Has h e items) (k' : ∀ o, h.get? e.l = some o → h'.get? e.l = some o) : Has h' e items := by
  unfold Has at hi ⊢
  split at hi
  · rename_i c; rw [if_pos c]; obtain ⟨o, h1, h2⟩ := hi; exact ⟨o, k' o h1, h2⟩
  · rename_i c; rw [if_neg c]; obtain ⟨o, h1, h2⟩ := hi; exact ⟨o, k' o h1, h2⟩

structure ZA (TI TO : Addr) (J : List ZE) : Prop where
  tt : TI ≠ TO
  l : ∀ e ∈ J, e.l ≠ TO
  nd : (J.map ZE.it).Nodup
/-- where a zip stands ahead of turn k -/
structure ZS (h : Heap) (z TI TO : Addr) (J : List ZE) (k : Nat) : Prop where
  zr : ∃ f0 b, FO f0 ∧ ZipR h z TI TO f0 b
  ti : h.get? TI = some { cls := .type "tuple", data := .seq (J.map fun e => Value.ref e.it).toArray }
  to : ∃ ws : Array Value, ws.size = J.length ∧ h.get? TO = some { cls := .type "tuple", data := .seq ws }
  its : ∀ e ∈ J, AtI h e k
/-- a walk over a list in a block -/
theorem forIn_inv {β : Type} {γ : Type} {f : γ → β → Sem (ForInStep β)} (P : Nat → β → Shared → Prop) {Q : β → Shared → Prop} : ∀ (l : List γ) (n : Nat) (init : β) (s : Shared), P n init s →
    (∀ i v b s, l[i]? = some v → P (n + i) b s → wpAny (model prog w) A (f v b) (fun r s' => ∃ b', r = .yield b' ∧ P (n + i + 1) b' s') E s) → (∀ b s, P (n + l.length) b s → Q b s) → wpAny (model prog w) A (forIn l init f) Q E s
  | [], n, init, s, h0, hs, hd => by
    rw [List.forIn_nil]
    exact wpAny_pure (hd _ _ h0)
  | v :: l, n, init, s, h0, hs, hd => by
    rw [List.forIn_cons]
    refine wpAny_bind (wpAny_mono (hs 0 v init s (by simp) h0) ?_ fun _ _ e => e)
    rintro r s' ⟨b', rfl, h1⟩
    refine forIn_inv P l (n + 1) b' s' h1 (fun i u b s2 hi hp => ?_) fun b s2 hp => hd b s2 ?_
    · have := hs (i + 1) u b s2 (by simpa using hi) (by rw [show n + (i + 1) = n + 1 + i by omega]; exact hp)
      rw [show n + (i + 1) + 1 = n + 1 + i + 1 by omega] at this
      exact this
    · rw [List.length_cons, show n + (l.length + 1) = n + 1 + l.length by omega]; exact hp
theorem pairedI {α β : Type} {R : α → β → Prop} : ∀ {as : List α} {bs : List β}, Paired R as bs → as.length = bs.length ∧ ∀ (i : Nat) a b, as[i]? = some a → bs[i]? = some b → R a b
  | _, _, .nil => ⟨rfl, fun i a b h => by simp at h⟩
  | _, _, .cons r t => by
    obtain ⟨h1, h2⟩ := pairedI t
    refine ⟨by simp [h1], fun i a b ha hb => ?_⟩
    cases i with
    | zero => simp at ha hb; subst ha hb; exact r
    | succ i => simp at ha hb; exact h2 i a b ha hb
structure ZW (h0 h : Heap) (z : Addr) (J : List ZE) (bad : Addr → Prop) (k i : Nat) : Prop where
  sz : h.objs.size = h0.objs.size
  kp : ∀ c o, c ≠ z → ¬ bad c → (∀ e ∈ J, c ≠ e.it) → h0.get? c = some o → h.get? c = some o
  its : ∀ (n : Nat) e, J[n]? = some e → AtI h e (if n < i then k + 1 else k)
theorem it_inj {J : List ZE} (nd : (J.map ZE.it).Nodup) {m n : Nat} {e e' : ZE} (h1 : J[m]? = some e) (h2 : J[n]? = some e') (h : e.it = e'.it) : m = n := by
  have a1 : (J.map ZE.it)[m]? = some e.it := by rw [List.getElem?_map, h1]; rfl
  have a2 : (J.map ZE.it)[n]? = some e.it := by rw [List.getElem?_map, h2]; simp [h]
  obtain ⟨l1, g1⟩ := List.getElem?_eq_some_iff.mp a1
  obtain ⟨l2, g2⟩ := List.getElem?_eq_some_iff.mp a2
  rcases Nat.lt_trichotomy m n with c | c | c
  · exact absurd (g1.trans g2.symm) (List.pairwise_iff_getElem.mp nd m n l1 l2 c)
  · exact c
  · exact absurd (g2.trans g1.symm) (List.pairwise_iff_getElem.mp nd n m l2 l1 c)
theorem ZW.step {h0 h h' : Heap} {z : Addr} {J : List ZE} {bad : Addr → Prop} {k i : Nat} {e : ZE} (W : ZW h0 h z J bad k i) (nd : (J.map ZE.it).Nodup) (hi : J[i]? = some e) (a : AtI h' e (k + 1)) (sb : Heap.SameBut e.it h h') : ZW h0 h' z J bad k (i + 1) where
  sz := sb.1.trans W.sz
  kp := fun c o c1 c2 c3 g => (sb.2 c (c3 e (List.mem_of_getElem? hi))).trans (W.kp c o c1 c2 c3 g)
  its := fun n e' hn => by
    by_cases c : n = i
    · subst c
      rw [hi] at hn; cases hn
      rw [if_pos (Nat.lt_succ_self _)]; exact a
    · have q := W.its n e' hn
      have ne : e'.it ≠ e.it := fun z => c (it_inj nd hn hi z)
      have e1 : (if n < i + 1 then k + 1 else k) = (if n < i then k + 1 else k) := by
        by_cases d : n < i
        · rw [if_pos d, if_pos (by omega)]
        · rw [if_neg d, if_neg (by omega)]
      rw [e1]
      exact atI_at q fun o g => (sb.2 _ ne).trans g
theorem ZW.other {h0 h h' : Heap} {z : Addr} {J : List ZE} {bad : Addr → Prop} {k i : Nat} (W : ZW h0 h z J bad k i) {a : Addr} (sb : Heap.SameBut a h h') (ha : a = z ∨ bad a) (hn : ∀ e ∈ J, e.it ≠ a) : ZW h0 h' z J bad k i where
  sz := sb.1.trans W.sz
  kp := fun c o c1 c2 c3 g => (sb.2 c (fun q => by subst q; rcases ha with ha | ha; exact c1 ha; exact c2 ha)).trans (W.kp c o c1 c2 c3 g)
  its := fun n e' hn' => atI_at (W.its n e' hn') fun o g => (sb.2 _ (hn e' (List.mem_of_getElem? hn'))).trans g
theorem ne_it {h : Heap} {c : Addr} {o : Obj} {e : ZE} {k : Nat} (hi : AtI h e k) (hc : h.get? c = some o) (h1 : o.cls ≠ .type "tuple_iterator") (h2 : o.cls ≠ .type "list_iterator") : e.it ≠ c := by
  obtain ⟨o', g, q, _⟩ := atI_obj hi
  refine ne_cls g hc ?_
  rcases q with q | q
  · rw [q]; exact fun z => h1 z.symm
  · rw [q]; exact fun z => h2 z.symm
theorem has_ne {h : Heap} {e e' : ZE} {k : Nat} {items : Array Value} (hh : Has h e items) (hi : AtI h e' k) : e.l ≠ e'.it := by
  obtain ⟨o, g, q⟩ := has_obj hh
  obtain ⟨o', g', q', _⟩ := atI_obj hi
  refine ne_cls g g' ?_
  rcases q with q | q <;> rcases q' with q' | q' <;> rw [q, q'] <;> decide
theorem zip_item {z TI TO : Addr} {J : List ZE} {k : Nat} {xs : List Value} {Q : Value → Shared → Prop} (ap : ZA TI TO J) (st : ZS s.heap z TI TO J k) (h0 : J ≠ []) (h9 : J.length ≤ 9)
    (hx : Paired (fun e x => ∃ items : Array Value, Has s.heap e items ∧ items[k]? = some x) J xs)
    (hQ : ∀ h', ZS h' z TI TO J (k + 1) → h'.get? s.heap.objs.size = some { cls := .type "tuple", data := .seq xs.toArray } → h'.objs.size = s.heap.objs.size + 1 →
      (∀ c o, c ≠ z → c ≠ TO → (∀ e ∈ J, c ≠ e.it) → s.heap.get? c = some o → h'.get? c = some o) → Q (.ref s.heap.objs.size) { s with heap := h' }) :
    wpAny (model prog w) A (Builtin.«zip.__next__» ⟨[.ref z], []⟩) (fun fin s' => ∃ v, fin = .done (.ret v) ∧ Q v s') E s := by
  obtain ⟨⟨f0, b, hf, hz⟩, hTI, ⟨ws, hws, hTO⟩, hits⟩ := st
  obtain ⟨hlen, hxs⟩ := pairedI hx
  have TIz : TI ≠ z := ne_cls hTI hz (show Value.type "tuple" ≠ Value.type "zip" by decide)
  have TOz : TO ≠ z := ne_cls hTO hz (show Value.type "tuple" ≠ Value.type "zip" by decide)
  have itz : ∀ e ∈ J, e.it ≠ z := fun e he => ne_it (hits e he) hz (show Value.type "zip" ≠ Value.type "tuple_iterator" by decide) (show Value.type "zip" ≠ Value.type "list_iterator" by decide)
  have itTI : ∀ e ∈ J, e.it ≠ TI := fun e he => ne_it (hits e he) hTI (show Value.type "tuple" ≠ Value.type "tuple_iterator" by decide) (show Value.type "tuple" ≠ Value.type "list_iterator" by decide)
  have itTO : ∀ e ∈ J, e.it ≠ TO := fun e he => ne_it (hits e he) hTO (show Value.type "tuple" ≠ Value.type "tuple_iterator" by decide) (show Value.type "tuple" ≠ Value.type "list_iterator" by decide)
  have lz : ∀ e ∈ J, ∀ items, Has s.heap e items → e.l ≠ z := fun e he items hh => by
    obtain ⟨o, g, q⟩ := has_obj hh
    refine ne_cls g hz ?_
    rcases q with q | q <;> rw [q]
    · exact (show Value.type "tuple" ≠ Value.type "zip" by decide)
    · exact (show Value.type "list" ≠ Value.type "zip" by decide)
  show wpAny _ _ (field (.ref z) 2 >>= _) _ _ _
  refine wpAny_bind (wpAny_field hz rfl (x := .bool false) rfl ?_)
  show wpAny _ _ (field (.ref z) 3 >>= _) _ _ _
  refine wpAny_bind (wpAny_field hz rfl (x := .ref TI) rfl ?_)
  refine wpAny_bind (wpAny_seqItems hTI rfl ?_)
  have hne : (J.map fun e => Value.ref e.it).toArray.isEmpty = false := by
    cases J with
    | nil => exact absurd rfl h0
    | cons _ _ => simp
  simp only [hne, Bool.false_eq_true, if_false]
  show wpAny _ _ (Builtin.SmallTypes.ownedTupleIsFree (.ref z) >>= _) _ _ _
  refine wpAny_bind (own_free hz rfl rfl hf ?_ fun h1 vs1 hvs hz1 hs1 => ?_)
  · simp only [if_true]
    refine wpAny_bind (wpAny_rule ?_)
    refine wpAny_bind (wpAny_field hz rfl (x := .ref TO) rfl ?_)
    refine wpAny_bind (wpAny_setField_rec hz (by simp) fun h1 hz1 hs1 => ?_)
    replace hz1 : ZipR h1 z TI TO .ellipsis b := hz1
    refine wpAny_bind (forIn_inv (fun i b' s' => b' = (none, ()) ∧ ∃ h', s' = { s with heap := h' } ∧ ZW s.heap h' z J (· = TO) k i ∧ ZipR h' z TI TO .ellipsis b ∧ ∃ ws : Array Value, ws.size = J.length ∧ (∀ n x, n < i → xs[n]? = some x → ws[n]? = some x) ∧ h'.get? TO = some { cls := .type "tuple", data := .seq ws }) _ 0 _ _ ?_ ?_ ?_)
    · refine ⟨rfl, h1, rfl, ⟨hs1.1, fun c o c1 _ _ g => hs1.extBut _ _ c1 g, fun n e hn => ?_⟩, hz1, ws, hws, fun n x hn => absurd hn (Nat.not_lt_zero _), hs1.extBut _ _ TOz hTO⟩
      rw [if_neg (Nat.not_lt_zero _)]
      have he := List.mem_of_getElem? hn
      exact atI_at (hits e he) fun o g => hs1.extBut _ _ (itz e he) g
    · rintro i v b' s' hi ⟨rfl, h', rfl, Wz, hz', ws', hw1, hw2, hTO'⟩
      rw [Nat.zero_add] at *
      have hi' : ∃ e, J[i]? = some e ∧ v = (Value.ref e.it, i) := by
        rw [List.getElem?_zipIdx, List.getElem?_map] at hi
        cases hj : J[i]? with
        | none => rw [hj] at hi; cases hi
        | some e => rw [hj] at hi; simp at hi; exact ⟨e, rfl, hi.symm⟩
      obtain ⟨e, he, rfl⟩ := hi'
      have hm := List.mem_of_getElem? he
      have hil : i < xs.length := by rw [← hlen]; exact (List.getElem?_eq_some_iff.mp he).1
      have hx1 : xs[i]? = some xs[i] := List.getElem?_eq_getElem hil
      obtain ⟨items, hh, hitem⟩ := hxs i e _ he hx1
      have ha : AtI h' e k := by have q := Wz.its i e he; rw [if_neg (Nat.lt_irrefl _)] at q; exact q
      have hh' : Has h' e items := has_at hh fun o g => Wz.kp _ o (lz e hm items hh) (ap.l e hm) (fun e' he' => has_ne hh (hits e' he')) g
      refine wpAny_bind (wpAny_onRaise ?_)
      show wpAny _ _ (Builtin.SmallTypes.nextOf (.ref e.it) >>= _) _ _ _
      refine wpAny_bind (nextI_item (s := { s with heap := h' }) ha hh' hitem fun h2 ha2 hs2 => wpAny_pure ?_)
      have W2 := Wz.step ap.nd he ha2 hs2
      have hTO2 := hs2.extBut _ _ (Ne.symm (itTO e hm)) hTO'
      have hz2 : ZipR h2 z TI TO .ellipsis b := hs2.extBut _ _ (Ne.symm (itz e hm)) hz'
      refine wpAny_bind (wpAny_seqItems hTO2 rfl ?_)
      refine wpAny_bind (wpAny_updateSeq hTO2 rfl ?_ (by rw [hw1, sizeLine_eq]; omega) (by rw [Array.size_setIfInBounds, hw1, sizeLine_eq]; omega))
      refine wpAny_bind (wpAny_letGo (wpAny_pure ⟨_, rfl, rfl, _, rfl, W2.other (a := TO) (Heap.SameBut.update ..) (.inr rfl) itTO, (Heap.SameBut.update ..).extBut _ _ (Ne.symm TOz) hz2, ws'.setIfInBounds i xs[i], ?_, fun n x hn hx => ?_, ?_⟩))
      · rw [Array.size_setIfInBounds]; exact hw1
      · rw [Array.getElem?_setIfInBounds]
        by_cases c : i = n
        · subst c; rw [if_pos rfl, if_pos (by rw [hw1, hlen]; exact hil)]; rw [hx1] at hx; exact hx
        · rw [if_neg c]; exact hw2 n x (by omega) hx
      · rw [Heap.get?_update_self _ hTO2 rfl]; simp [Obj.mapSeq]
    · rintro b' s' ⟨rfl, h', rfl, Wz, hz', ws', hw1, hw2, hTO'⟩
      rw [Nat.zero_add, List.length_zipIdx, List.length_map] at *
      have hws : ws'.toList = xs := by
        refine List.ext_getElem? fun n => ?_
        by_cases c : n < xs.length
        · have hx1 : xs[n]? = some xs[n] := List.getElem?_eq_getElem c
          have q := hw2 n _ (by omega) hx1
          rw [hx1, ← q]; simp
        · rw [List.getElem?_eq_none (l := ws'.toList) (by rw [Array.length_toList]; omega), List.getElem?_eq_none (l := xs) (by omega)]
      refine wpAny_bind (wpAny_seqItems hTO' rfl ?_)
      show wpAny _ _ (newTuple ws'.toList >>= _) _ _ _
      rw [hws]
      refine wpAny_bind (wpAny_newTuple ?_ (by rw [← hlen, sizeLine_eq]; omega))
      generalize hh2 : h'.push { cls := .type "tuple", data := .seq xs.toArray } = h2
      have up2 : ∀ c o, h'.get? c = some o → h2.get? c = some o := fun c o g => by rw [← hh2]; exact Heap.get?_push_of_some _ g
      have gT : h2.get? h'.objs.size = some { cls := .type "tuple", data := .seq xs.toArray } := by rw [← hh2]; exact Heap.get?_push_size _ rfl
      have s2 : h2.objs.size = s.heap.objs.size + 1 := by rw [← hh2, Heap.size_push, Wz.sz]
      have hz2 : ZipR h2 z TI TO .ellipsis b := up2 _ _ hz'
      have zlt : z < h'.objs.size := Heap.lt_size hz'
      show wpAny _ _ (Builtin.SmallTypes.ownedTupleHandOut (.ref z) (.ref h'.objs.size) >>= _) _ _ _
      refine wpAny_bind ?_
      unfold Builtin.SmallTypes.ownedTupleHandOut
      refine wpAny_bind (wpAny_setField_rec hz2 (by simp) fun h3 hz3 hs3 => ?_)
      replace hz3 : ZipR h3 z TI TO (rawInt h'.objs.size) b := hz3
      refine wpAny_setField_rec hz3 (by simp) fun h4 hz4 hs4 => ?_
      replace hz4 : ZipR h4 z TI TO (rawInt h'.objs.size) false := hz4
      have up : ∀ c o, c ≠ z → h'.get? c = some o → h4.get? c = some o := fun c o c1 g => hs4.extBut _ _ c1 (hs3.extBut _ _ c1 (up2 _ _ g))
      refine wpAny_pure ⟨_, rfl, ?_⟩
      have gT4 : h4.get? h'.objs.size = some { cls := .type "tuple", data := .seq xs.toArray } := hs4.extBut _ _ (Nat.ne_of_gt zlt) (hs3.extBut _ _ (Nat.ne_of_gt zlt) gT)
      rw [Wz.sz] at gT4 hz4 ⊢
      refine hQ h4 ⟨⟨_, _, .inr ⟨_, rfl⟩, hz4⟩, ?_, ⟨ws', hw1, up _ _ TOz hTO'⟩, fun e he => ?_⟩ gT4 (by rw [hs4.1, hs3.1, s2]) fun c o c1 c2 c3 g => up c o c1 (Wz.kp c o c1 c2 c3 g)
      · exact up _ _ TIz (Wz.kp _ _ TIz ap.tt (fun e he => Ne.symm (itTI e he)) hTI)
      · obtain ⟨n, hn⟩ := List.getElem?_of_mem he
        have q := Wz.its n e hn
        rw [if_pos (List.getElem?_eq_some_iff.mp hn).1] at q
        exact atI_at q fun o g => up _ o (itz e he) g
  · simp only [Bool.false_eq_true, if_false]
    rw [← Array.forIn_toList]
    have hz1' : ∃ b1, ZipR h1 z TI TO f0 b1 := by
      rcases hvs with rfl | rfl
      · exact ⟨b, hz1⟩
      · exact ⟨true, hz1⟩
    obtain ⟨b1, hz1'⟩ := hz1'
    refine wpAny_bind (forIn_inv (fun i b' s' => b' = (none, (xs.take i).toArray) ∧ ∃ h', s' = { s with heap := h' } ∧ ZW s.heap h' z J (fun _ => False) k i ∧ ZipR h' z TI TO f0 b1) _ 0 _ _ ?_ ?_ ?_)
    · refine ⟨rfl, h1, rfl, ⟨hs1.1, fun c o c1 _ _ g => hs1.extBut _ _ c1 g, fun n e hn => ?_⟩, hz1'⟩
      rw [if_neg (Nat.not_lt_zero _)]
      have he := List.mem_of_getElem? hn
      exact atI_at (hits e he) fun o g => hs1.extBut _ _ (itz e he) g
    · rintro i v b' s' hi ⟨rfl, h', rfl, Wz, hz'⟩
      rw [Nat.zero_add] at *
      have hi' : ∃ e, J[i]? = some e ∧ v = Value.ref e.it := by
        simp only [List.getElem?_map] at hi
        cases hj : J[i]? with
        | none => rw [hj] at hi; cases hi
        | some e => rw [hj] at hi; simp at hi; exact ⟨e, rfl, hi.symm⟩
      obtain ⟨e, he, rfl⟩ := hi'
      have hm := List.mem_of_getElem? he
      have hil : i < xs.length := by rw [← hlen]; exact (List.getElem?_eq_some_iff.mp he).1
      have hx1 : xs[i]? = some xs[i] := List.getElem?_eq_getElem hil
      obtain ⟨items, hh, hitem⟩ := hxs i e _ he hx1
      have ha : AtI h' e k := by have q := Wz.its i e he; rw [if_neg (Nat.lt_irrefl _)] at q; exact q
      have hh' : Has h' e items := has_at hh fun o g => Wz.kp _ o (lz e hm items hh) (fun z => z) (fun e' he' => has_ne hh (hits e' he')) g
      refine wpAny_bind (wpAny_holding ?_)
      show wpAny _ _ (Builtin.SmallTypes.nextOf (.ref e.it) >>= _) _ _ _
      refine wpAny_bind (nextI_item (s := { s with heap := h' }) ha hh' hitem fun h2 ha2 hs2 => wpAny_pure (wpAny_pure ⟨_, rfl, ?_, h2, rfl, Wz.step ap.nd he ha2 hs2, hs2.extBut _ _ (Ne.symm (itz e hm)) hz'⟩))
      rw [List.take_succ, hx1]
      simp
    · rintro b' s' ⟨rfl, h', rfl, Wz, hz'⟩
      have hl : 0 + (J.map fun e => Value.ref e.it).toArray.toList.length = xs.length := by simp [hlen]
      rw [hl] at Wz ⊢
      rw [List.take_length]
      show wpAny _ _ (newTuple xs >>= _) _ _ _
      refine wpAny_bind (wpAny_newTuple ?_ (by rw [← hlen, sizeLine_eq]; omega))
      generalize hh2 : h'.push { cls := .type "tuple", data := .seq xs.toArray } = h2
      have up : ∀ c o, h'.get? c = some o → h2.get? c = some o := fun c o g => by rw [← hh2]; exact Heap.get?_push_of_some _ g
      have gT : h2.get? h'.objs.size = some { cls := .type "tuple", data := .seq xs.toArray } := by rw [← hh2]; exact Heap.get?_push_size _ rfl
      have s2 : h2.objs.size = s.heap.objs.size + 1 := by rw [← hh2, Heap.size_push, Wz.sz]
      refine wpAny_pure ⟨_, rfl, ?_⟩
      rw [Wz.sz] at gT ⊢
      refine hQ h2 ⟨⟨_, _, hf, up _ _ hz'⟩, up _ _ (Wz.kp _ _ TIz (fun z => z) (fun e he => Ne.symm (itTI e he)) hTI), ⟨ws, hws, up _ _ (Wz.kp _ _ TOz (fun z => z) (fun e he => Ne.symm (itTO e he)) hTO)⟩, fun e he => ?_⟩ gT s2 fun c o c1 c2 c3 g => up c o (Wz.kp c o c1 (fun z => z) c3 g)
      obtain ⟨n, hn⟩ := List.getElem?_of_mem he
      have q := Wz.its n e hn
      rw [if_pos (by rw [← hlen]; exact (List.getElem?_eq_some_iff.mp hn).1)] at q
      exact atI_at q fun o g => up _ o g
theorem has_uniq {h : Heap} {e : ZE} {a b : Array Value} (h1 : Has h e a) (h2 : Has h e b) : a = b := by
  unfold Has at h1 h2
  split at h1
  · rename_i c
    rw [if_pos c] at h2
    obtain ⟨o, g1, _, n, d1⟩ := h1
    obtain ⟨o', g2, _, n', d2⟩ := h2
    rw [g1] at g2; cases g2
    rw [d1] at d2; cases d2; rfl
  · rename_i c
    rw [if_neg c] at h2
    obtain ⟨o, g1, _, n, d1⟩ := h1
    obtain ⟨o', g2, _, n', d2⟩ := h2
    rw [g1] at g2; cases g2
    rw [d1] at d2; cases d2; rfl
theorem zip_end {z TI TO : Addr} {J : List ZE} {k : Nat} {Q : PySem.Fin → Shared → Prop} (hd : A.handled = none) (ap : ZA TI TO J) (st : ZS s.heap z TI TO J k) (h0 : J ≠ []) (h9 : J.length ≤ 9)
    (hx : ∀ e ∈ J, ∃ items : Array Value, Has s.heap e items) (hn : ∃ e ∈ J, ∃ items : Array Value, Has s.heap e items ∧ items[k]? = none)
    (hE : ∀ h' x, (∀ c o, c ≠ z → c ≠ TO → (∀ e ∈ J, c ≠ e.it) → s.heap.get? c = some o → h'.get? c = some o) → (∃ o, h'.get? x = some o ∧ o.cls = .type "StopIteration") → E (.ref x) { s with heap := h' }) :
    wpAny (model prog w) A (Builtin.«zip.__next__» ⟨[.ref z], []⟩) Q E s := by
  obtain ⟨⟨f0, b, hf, hz⟩, hTI, ⟨ws, hws, hTO⟩, hits⟩ := st
  have TIz : TI ≠ z := ne_cls hTI hz (show Value.type "tuple" ≠ Value.type "zip" by decide)
  have TOz : TO ≠ z := ne_cls hTO hz (show Value.type "tuple" ≠ Value.type "zip" by decide)
  have itz : ∀ e ∈ J, e.it ≠ z := fun e he => ne_it (hits e he) hz (show Value.type "zip" ≠ Value.type "tuple_iterator" by decide) (show Value.type "zip" ≠ Value.type "list_iterator" by decide)
  have itTO : ∀ e ∈ J, e.it ≠ TO := fun e he => ne_it (hits e he) hTO (show Value.type "tuple" ≠ Value.type "tuple_iterator" by decide) (show Value.type "tuple" ≠ Value.type "list_iterator" by decide)
  have lz : ∀ e ∈ J, ∀ items, Has s.heap e items → e.l ≠ z := fun e he items hh => by
    obtain ⟨o, g, q⟩ := has_obj hh
    refine ne_cls g hz ?_
    rcases q with q | q <;> rw [q]
    · exact (show Value.type "tuple" ≠ Value.type "zip" by decide)
    · exact (show Value.type "list" ≠ Value.type "zip" by decide)
  have never : ∀ {i : Nat}, (∀ n e, n < i → J[n]? = some e → ∃ items x, Has s.heap e items ∧ (items : Array Value)[k]? = some x) → i = J.length → False := fun hall hi => by
    obtain ⟨e, he, items, hh, hnone⟩ := hn
    obtain ⟨n, hn'⟩ := List.getElem?_of_mem he
    obtain ⟨items', x, hh', hsome⟩ := hall n e (by rw [hi]; exact (List.getElem?_eq_some_iff.mp hn').1) hn'
    rw [has_uniq hh hh', hsome] at hnone
    cases hnone
  show wpAny _ _ (field (.ref z) 2 >>= _) _ _ _
  refine wpAny_bind (wpAny_field hz rfl (x := .bool false) rfl ?_)
  show wpAny _ _ (field (.ref z) 3 >>= _) _ _ _
  refine wpAny_bind (wpAny_field hz rfl (x := .ref TI) rfl ?_)
  refine wpAny_bind (wpAny_seqItems hTI rfl ?_)
  have hne : (J.map fun e => Value.ref e.it).toArray.isEmpty = false := by
    cases J with
    | nil => exact absurd rfl h0
    | cons _ _ => simp
  simp only [hne, Bool.false_eq_true, if_false]
  show wpAny _ _ (Builtin.SmallTypes.ownedTupleIsFree (.ref z) >>= _) _ _ _
  refine wpAny_bind (own_free hz rfl rfl hf ?_ fun h1 vs1 hvs hz1 hs1 => ?_)
  · simp only [if_true]
    refine wpAny_bind (wpAny_rule ?_)
    refine wpAny_bind (wpAny_field hz rfl (x := .ref TO) rfl ?_)
    refine wpAny_bind (wpAny_setField_rec hz (by simp) fun h1 hz1 hs1 => ?_)
    replace hz1 : ZipR h1 z TI TO .ellipsis b := hz1
    refine wpAny_bind (forIn_inv (fun i b' s' => b' = (none, ()) ∧ ∃ h', s' = { s with heap := h' } ∧ ZW s.heap h' z J (· = TO) k i ∧ ZipR h' z TI TO .ellipsis b ∧ (∃ ws : Array Value, ws.size = J.length ∧ h'.get? TO = some { cls := .type "tuple", data := .seq ws }) ∧ (∀ n e, n < i → J[n]? = some e → ∃ items x, Has s.heap e items ∧ (items : Array Value)[k]? = some x)) _ 0 _ _ ?_ ?_ ?_)
    · refine ⟨rfl, h1, rfl, ⟨hs1.1, fun c o c1 _ _ g => hs1.extBut _ _ c1 g, fun n e hn => ?_⟩, hz1, ⟨ws, hws, hs1.extBut _ _ TOz hTO⟩, fun n e hn => absurd hn (Nat.not_lt_zero _)⟩
      rw [if_neg (Nat.not_lt_zero _)]
      have he := List.mem_of_getElem? hn
      exact atI_at (hits e he) fun o g => hs1.extBut _ _ (itz e he) g
    · rintro i v b' s' hi ⟨rfl, h', rfl, Wz, hz', ⟨ws', hw1, hTO'⟩, hall⟩
      rw [Nat.zero_add] at Wz hall ⊢
      have hi' : ∃ e, J[i]? = some e ∧ v = (Value.ref e.it, i) := by
        rw [List.getElem?_zipIdx, List.getElem?_map] at hi
        cases hj : J[i]? with
        | none => rw [hj] at hi; cases hi
        | some e => rw [hj] at hi; simp at hi; exact ⟨e, rfl, hi.symm⟩
      obtain ⟨e, he, rfl⟩ := hi'
      have hm := List.mem_of_getElem? he
      obtain ⟨items, hh⟩ := hx e hm
      have ha : AtI h' e k := by have q := Wz.its i e he; rw [if_neg (Nat.lt_irrefl _)] at q; exact q
      have hh' : Has h' e items := has_at hh fun o g => Wz.kp _ o (lz e hm items hh) (ap.l e hm) (fun e' he' => has_ne hh (hits e' he')) g
      refine wpAny_bind (wpAny_onRaise ?_)
      show wpAny _ _ (Builtin.SmallTypes.nextOf (.ref e.it) >>= _) _ _ _
      cases hk : items[k]? with
      | none =>
        refine wpAny_bind (nextI_end (s := { s with heap := h' }) hd ha hh' hk fun h2 x hs2 hx2 => ?_)
        obtain ⟨ox, hox, hcx⟩ := hx2
        have hz2 : ZipR h2 z TI TO .ellipsis b := hs2 _ _ (Ne.symm (itz e hm)) hz'
        have hxz : x ≠ z := ne_cls hox hz2 (by rw [hcx]; exact (show Value.type "StopIteration" ≠ Value.type "zip" by decide))
        exact wpAny_setField_rec hz2 (by simp) fun h3 _ hs3 => hE h3 x (fun c o c1 c2 c3 g => hs3.extBut _ _ c1 (hs2 _ _ (c3 e hm) (Wz.kp c o c1 c2 c3 g))) ⟨ox, hs3.extBut _ _ hxz hox, hcx⟩
      | some x =>
        refine wpAny_bind (nextI_item (s := { s with heap := h' }) ha hh' hk fun h2 ha2 hs2 => wpAny_pure ?_)
        have W2 := Wz.step ap.nd he ha2 hs2
        have hTO2 := hs2.extBut _ _ (Ne.symm (itTO e hm)) hTO'
        have hz2 : ZipR h2 z TI TO .ellipsis b := hs2.extBut _ _ (Ne.symm (itz e hm)) hz'
        refine wpAny_bind (wpAny_seqItems hTO2 rfl ?_)
        refine wpAny_bind (wpAny_updateSeq hTO2 rfl ?_ (by rw [hw1, sizeLine_eq]; omega) (by rw [Array.size_setIfInBounds, hw1, sizeLine_eq]; omega))
        refine wpAny_bind (wpAny_letGo (wpAny_pure ⟨_, rfl, rfl, _, rfl, W2.other (a := TO) (Heap.SameBut.update ..) (.inr rfl) itTO, (Heap.SameBut.update ..).extBut _ _ (Ne.symm TOz) hz2, ⟨ws'.setIfInBounds i x, ?_, ?_⟩, fun n e' hn' he' => ?_⟩))
        · rw [Array.size_setIfInBounds]; exact hw1
        · rw [Heap.get?_update_self _ hTO2 rfl]; simp [Obj.mapSeq]
        · by_cases c : n = i
          · subst c; rw [he] at he'; cases he'; exact ⟨items, x, hh, hk⟩
          · exact hall n e' (by omega) he'
    · rintro b' s' ⟨rfl, h', rfl, Wz, hz', _, hall⟩
      exact (never hall (by simp)).elim
  · simp only [Bool.false_eq_true, if_false]
    rw [← Array.forIn_toList]
    refine wpAny_bind (forIn_inv (fun i b' s' => b'.1 = none ∧ ∃ h', s' = { s with heap := h' } ∧ ZW s.heap h' z J (fun _ => False) k i ∧ (∀ n e, n < i → J[n]? = some e → ∃ items x, Has s.heap e items ∧ (items : Array Value)[k]? = some x)) _ 0 _ _ ?_ ?_ ?_)
    · refine ⟨rfl, h1, rfl, ⟨hs1.1, fun c o c1 _ _ g => hs1.extBut _ _ c1 g, fun n e hn => ?_⟩, fun n e hn => absurd hn (Nat.not_lt_zero _)⟩
      rw [if_neg (Nat.not_lt_zero _)]
      have he := List.mem_of_getElem? hn
      exact atI_at (hits e he) fun o g => hs1.extBut _ _ (itz e he) g
    · rintro i v ⟨b1, b2⟩ s' hi ⟨hb, h', rfl, Wz, hall⟩
      cases hb
      rw [Nat.zero_add] at Wz hall ⊢
      have hi' : ∃ e, J[i]? = some e ∧ v = Value.ref e.it := by
        simp only [List.getElem?_map] at hi
        cases hj : J[i]? with
        | none => rw [hj] at hi; cases hi
        | some e => rw [hj] at hi; simp at hi; exact ⟨e, rfl, hi.symm⟩
      obtain ⟨e, he, rfl⟩ := hi'
      have hm := List.mem_of_getElem? he
      obtain ⟨items, hh⟩ := hx e hm
      have ha : AtI h' e k := by have q := Wz.its i e he; rw [if_neg (Nat.lt_irrefl _)] at q; exact q
      have hh' : Has h' e items := has_at hh fun o g => Wz.kp _ o (lz e hm items hh) (fun z => z) (fun e' he' => has_ne hh (hits e' he')) g
      refine wpAny_bind (wpAny_holding ?_)
      show wpAny _ _ (Builtin.SmallTypes.nextOf (.ref e.it) >>= _) _ _ _
      cases hk : items[k]? with
      | none => exact wpAny_bind (nextI_end (s := { s with heap := h' }) hd ha hh' hk fun h2 x hs2 hx2 => hE h2 x (fun c o c1 c2 c3 g => hs2 _ _ (c3 e hm) (Wz.kp c o c1 (fun z => z) c3 g)) hx2)
      | some x =>
        refine wpAny_bind (nextI_item (s := { s with heap := h' }) ha hh' hk fun h2 ha2 hs2 => wpAny_pure (wpAny_pure ⟨_, rfl, rfl, h2, rfl, Wz.step ap.nd he ha2 hs2, fun n e' hn' he' => ?_⟩))
        by_cases c : n = i
        · subst c; rw [he] at he'; cases he'; exact ⟨items, x, hh, hk⟩
        · exact hall n e' (by omega) he'
    · rintro ⟨b1, b2⟩ s' ⟨hb, h', rfl, Wz, hall⟩
      exact (never hall (by simp)).elim

/-! next(zip) as a for or an enumerate draws -/
/-- next(x), the end as the end -/
theorem pyNext_of {z : Addr} {n id : String} {Q : Option Value → Shared → Prop} (hT : s.TypeIs (.ref z) n) (hs : Slot n (Str.ofString "__next__") id)
    (hc : wpAny (model prog w) A (call (.builtin id) [.ref z]) (fun v s' => Q (some v) s') (fun e s' => ∃ x o, e = .ref x ∧ s'.heap.get? x = some o ∧ o.cls = .type "StopIteration" ∧ Q none s') s) : wpAny (model prog w) A (pyNext (.ref z)) Q E s := by
  unfold pyNext
  refine wpAny_bind (wpAny_attempt (wpAny_callSpecial?_slot (name := Str.ofString "__next__") hT hs (wpAny_mono hc (fun v s' h => wpAny_pure h) ?_)))
  rintro e s' ⟨x, o, rfl, ho, hc, q⟩
  refine wpAny_bind (wpAny_isInstance (T := "StopIteration") (b := true) ⟨o, ho, hc⟩ isSubtype_stop ?_)
  exact wpAny_pure q
/-- where an enumerate stands -/
def EnS (h : Heap) (e it : Addr) (i : Nat) : Prop := ∃ f0 b old, FO f0 ∧ EnR h e it (i : Int) old f0 b
/-- the step ahead of the store -/
theorem letGo_any {tg : Expr} {a : Addr} {n : String} {vs : Array Value} {u : Value} {Q : Unit → Shared → Prop} (ho : s.heap.get? a = some { cls := .type n, dict := none, data := .fields vs, slots := #[] }) (h0 : 0 < vs.size)
    (hs : Q () s) (hQ : ∀ h', h'.get? a = some { cls := .type n, dict := none, data := .fields (vs.setIfInBounds 0 .none), slots := #[] } → Heap.SameBut a s.heap h' → Q () { s with heap := h' }) :
    wpAny (model prog w) A (letOwnedTupleGo tg (.ref a) u) Q E s := by
  unfold letOwnedTupleGo
  cases tg <;> first
    | exact wpAny_pure hs
    | (cases u <;> first
        | exact wpAny_pure hs
        | (refine wpAny_bind (wpAny_load ho ?_)
           show wpAny (model prog w) A (if (["enumerate", "zip", "dict_itemiterator", "dict_reverseitemiterator", "odict_iterator", "itertools.zip_longest", "itertools.pairwise"].contains n && vs[0]? == some (rawInt _)) = true then _ else _) Q E s
           split
           · refine wpAny_bind (wpAny_rule ?_)
             show wpAny _ _ (setField (.ref a) 0 .none) Q E s
             exact wpAny_setField_rec ho h0 fun h' ho' sb => hQ h' ho' sb
           · exact wpAny_pure hs))
end
end Yx

namespace Yx
variable [Tb] [Cb]
open PySem L2 RZ PySem.Spec PyProof.Rows
section
variable {prog : Program} {w : World} {A : Around} {E : Value → Shared → Prop} {s : Shared}
def itN (tp : Bool) : String := if tp = true then "tuple_iterator" else "list_iterator"
abbrev itO (l : Addr) (tp : Bool) : Obj := { cls := .type (itN tp), data := .fields #[.ref l, .int 0 0] }
theorem pyIterG {e : ZE} {items : Array Value} {Q : Value → Shared → Prop} (hl : Has s.heap e items) (hQ : Q (.ref s.heap.objs.size) { s with heap := s.heap.push (itO e.l e.tp) }) : wpAny (model prog w) A (pyIter (.ref e.l)) Q E s := by
  unfold Has at hl
  unfold itO itN at hQ
  cases c : e.tp with
  | true => simp only [c, if_true] at hl hQ; exact wpAny_pyIter_tuple hl hQ
  | false => simp only [c, Bool.false_eq_true, if_false] at hl hQ; exact wpAny_pyIter_list hl hQ
theorem has_push {h : Heap} {e : ZE} {items : Array Value} (hl : Has h e items) (o : Obj) : Has (h.push o) e items := has_at hl fun _ g => Heap.get?_push_of_some _ g
theorem atI_new {h : Heap} {l : Addr} {tp : Bool} (g : h.get? a = some (itO l tp)) : AtI h ⟨a, l, tp⟩ 0 := by
  unfold AtI
  cases tp with
  | true => exact ⟨_, g, rfl, rfl⟩
  | false => exact ⟨_, g, rfl, rfl⟩
/-- what zip(a, b) lays -/
abbrev z2H (h : Heap) (a b : ZE) : Heap :=
  ((((h.push (itO a.l a.tp)).push (itO b.l b.tp)).push { cls := .type "tuple", data := .seq #[.ref h.objs.size, .ref (h.push (itO a.l a.tp)).objs.size] }).push { cls := .type "tuple", data := .seq #[.none, .none] }).push
    { cls := .type "zip", data := .fields #[.none, .bool false, .bool false, .ref ((h.push (itO a.l a.tp)).push (itO b.l b.tp)).objs.size, .ref (((h.push (itO a.l a.tp)).push (itO b.l b.tp)).push { cls := .type "tuple", data := .seq #[.ref h.objs.size, .ref (h.push (itO a.l a.tp)).objs.size] }).objs.size] }
theorem meets_z2 (a b : ZE) (xs ys : Array Value) :
    Meets (Builtin.«zip.__new__» ⟨[.type "zip", .ref a.l, .ref b.l], []⟩) (fun _ R s => Has s.heap a xs ∧ Has s.heap b ys ∧
      R (.ok (.ret (.ref ((((s.heap.push (itO a.l a.tp)).push (itO b.l b.tp)).push { cls := .type "tuple", data := .seq #[.ref s.heap.objs.size, .ref (s.heap.push (itO a.l a.tp)).objs.size] }).push { cls := .type "tuple", data := .seq #[.none, .none] }).objs.size))) { s with heap := z2H s.heap a b }) :=
  .of_wp fun prog w A R s h => by
    obtain ⟨hp, g, d, tk, os⟩ := s; obtain ⟨hl1, hl2, h⟩ := h
    have hsub := sub_zip
    have hL1 : Has (Shared.heap ⟨hp, g, d, tk, os⟩) a xs := hl1
    have hL2 : Has (Shared.heap ⟨hp.push (itO a.l a.tp), g, d, tk, os⟩) b ys := has_push hl2 _
    wp_walk using pyIterG hL1, pyIterG hL2
    exact ⟨_, rfl, h⟩
theorem call_z2 {a b : ZE} {xs ys : Array Value} {Q : Value → Shared → Prop} (h1 : Has s.heap a xs) (h2 : Has s.heap b ys)
    (h : ∀ h' z TI TO J, ZS h' z TI TO J 0 → ZA TI TO J → IsZip h' z TI TO .none → J.map ZE.l = [a.l, b.l] → J.map ZE.tp = [a.tp, b.tp] → (∀ c, c ∈ z :: TI :: TO :: J.map ZE.it → s.heap.objs.size ≤ c) → (∀ c o, s.heap.get? c = some o → h'.get? c = some o) → Q (.ref z) { s with heap := h' }) :
    wpAny (model prog w) A (call (.type "zip") [.ref a.l, .ref b.l]) Q E s := by
  refine callType_new F.called_zip (by decide) (F.typeCall_zip_2 _ _) (F.newCall_zip_2 _ _) (fun obj => F.args_object_init_3 obj _ _) F.entry_zip_new (meets_z2 a b xs ys) ⟨h1, h2, ?_⟩
  generalize e1 : s.heap.push (itO a.l a.tp) = k1
  generalize e2 : k1.push (itO b.l b.tp) = k2
  have z1 : k1.objs.size = s.heap.objs.size + 1 := by rw [← e1, Heap.size_push]
  have z2 : k2.objs.size = s.heap.objs.size + 2 := by rw [← e2, Heap.size_push, z1]
  have u1 : ∀ c o, s.heap.get? c = some o → k1.get? c = some o := fun c o g => by rw [← e1]; exact Heap.get?_push_of_some _ g
  have u2 : ∀ c o, k1.get? c = some o → k2.get? c = some o := fun c o g => by rw [← e2]; exact Heap.get?_push_of_some _ g
  have g1 : k1.get? s.heap.objs.size = some (itO a.l a.tp) := by rw [← e1]; exact Heap.get?_push_size _ rfl
  have g2 : k2.get? (s.heap.objs.size + 1) = some (itO b.l b.tp) := by rw [← z1, ← e2]; exact Heap.get?_push_size _ rfl
  generalize e3 : k2.push { cls := .type "tuple", data := .seq #[.ref s.heap.objs.size, .ref k1.objs.size] } = k3
  have z3 : k3.objs.size = s.heap.objs.size + 3 := by rw [← e3, Heap.size_push, z2]
  have u3 : ∀ c o, k2.get? c = some o → k3.get? c = some o := fun c o g => by rw [← e3]; exact Heap.get?_push_of_some _ g
  have g3 : k3.get? (s.heap.objs.size + 2) = some { cls := .type "tuple", data := .seq #[.ref s.heap.objs.size, .ref k1.objs.size] } := by rw [← z2, ← e3]; exact Heap.get?_push_size _ rfl
  generalize e4 : k3.push { cls := .type "tuple", data := .seq #[.none, .none] } = k4
  have z4 : k4.objs.size = s.heap.objs.size + 4 := by rw [← e4, Heap.size_push, z3]
  have u4 : ∀ c o, k3.get? c = some o → k4.get? c = some o := fun c o g => by rw [← e4]; exact Heap.get?_push_of_some _ g
  have g4 : k4.get? (s.heap.objs.size + 3) = some { cls := .type "tuple", data := .seq #[.none, .none] } := by rw [← z3, ← e4]; exact Heap.get?_push_size _ rfl
  generalize e5 : k4.push { cls := .type "zip", data := .fields #[.none, .bool false, .bool false, .ref k2.objs.size, .ref k3.objs.size] } = k5
  have u5 : ∀ c o, k4.get? c = some o → k5.get? c = some o := fun c o g => by rw [← e5]; exact Heap.get?_push_of_some _ g
  have g5 : k5.get? (s.heap.objs.size + 4) = some { cls := .type "zip", data := .fields #[.none, .bool false, .bool false, .ref k2.objs.size, .ref k3.objs.size] } := by rw [← z4, ← e5]; exact Heap.get?_push_size _ rfl
  have la : a.l < s.heap.objs.size := by obtain ⟨o, g, _⟩ := has_obj h1; exact Heap.lt_size g
  have lb : b.l < s.heap.objs.size := by obtain ⟨o, g, _⟩ := has_obj h2; exact Heap.lt_size g
  rw [z1] at g3
  rw [z2, z3] at g5
  have fin := h k5 (s.heap.objs.size + 4) (s.heap.objs.size + 2) (s.heap.objs.size + 3) [⟨s.heap.objs.size, a.l, a.tp⟩, ⟨s.heap.objs.size + 1, b.l, b.tp⟩]
    ⟨⟨.none, false, .inl rfl, g5⟩, u5 _ _ (u4 _ _ g3), ⟨_, rfl, u5 _ _ g4⟩, fun e he => ?_⟩ ⟨(by show @Ne Nat _ _; omega), fun e he => ?_, ?_⟩ g5 rfl rfl (fun c hc => ?_) fun c o g => u5 _ _ (u4 _ _ (u3 _ _ (u2 _ _ (u1 _ _ g))))
  · show _ ∧ _
    subst e1 e2 e3 e4 e5
    rw [z4]
    exact ⟨⟨_, g5, rfl⟩, fin⟩
  · rcases List.mem_cons.mp he with q | q
    · rw [q]; exact atI_new (u5 _ _ (u4 _ _ (u3 _ _ (u2 _ _ g1))))
    · rcases List.mem_cons.mp q with q | q
      · rw [q]; exact atI_new (u5 _ _ (u4 _ _ (u3 _ _ g2)))
      · cases q
  · rcases List.mem_cons.mp he with q | q
    · rw [q]; exact Nat.ne_of_lt (Nat.lt_of_lt_of_le la (Nat.le_add_right _ _))
    · rcases List.mem_cons.mp q with q | q
      · rw [q]; exact Nat.ne_of_lt (Nat.lt_of_lt_of_le lb (Nat.le_add_right _ _))
      · cases q
  · simp
  · simp only [List.map_cons, List.map_nil, List.mem_cons, List.not_mem_nil, or_false] at hc
    rcases hc with q | q | q | q | q <;> rw [q] <;> first | exact Nat.le_add_right _ _ | exact Nat.le_refl _
theorem pyIter_zipG {z TI TO : Addr} {J : List ZE} {k : Nat} {Q : Value → Shared → Prop} (st : ZS s.heap z TI TO J k) (h : Q (.ref z) s) : wpAny (model prog w) A (pyIter (.ref z)) Q E s := by
  obtain ⟨f0, b, _, hz⟩ := st.zr
  have hT : s.TypeIs (.ref z) "zip" := ⟨_, hz, rfl⟩
  refine wpAny_pyIter_slot hT F.slot_zip_iter (wpAny_call_entry F.slot_zip_iter hT F.entry_zip_iter ?_ (F.args_zip_iter_1 _))
  show wpAny _ _ (ret (.ref z)) _ _ s
  exact wpAny_pure ⟨_, rfl, "zip", _, hT, F.slot_zip_next.lookup, h⟩
end
end Yx

namespace Yx
variable [Tb] [Cb]
open PySem L2 RZ PySem.Spec PyProof.Rows

def HasV (K : PySem.W.Frag) (H : Hp) (e : ZE) (xs : List V) : Prop := if e.tp = true then SqT K H e.l xs else SqL K H e.l xs
section
variable {X : Cx} {pins : List (Addr × Obj)} {σ : L2.St} {H : Hp} {s : Shared}
theorem hasV_of (I : Inv X pins σ H s) {e : ZE} {xs : List V} (h : HasV X.K H e xs) : ∃ its : List Value, Vals xs its ∧ Has s.heap e its.toArray := by
  unfold HasV at h
  unfold Has
  cases c : e.tp with
  | true =>
    simp only [c, if_true] at h ⊢
    obtain ⟨its, r, p, _⟩ := I.tuple h
    exact ⟨its, r, p⟩
  | false =>
    simp only [c, Bool.false_eq_true, if_false] at h ⊢
    obtain ⟨its, r, p, _⟩ := I.list h
    exact ⟨its, r, p.isList⟩
theorem hasV_inj (I : Inv X pins σ H s) {e : ZE} {xs ys : List V} (h : HasV X.K H e xs) (h' : HasV X.K H e ys) : xs = ys := by
  unfold HasV at h h'
  split at h
  · rename_i c; rw [if_pos c] at h'; exact I.tuple_inj h h'
  · rename_i c; rw [if_neg c] at h'; exact I.list_inj h h'
/-- the i-th of each -/
abbrev Row (K : PySem.W.Frag) (H : Hp) (i : Nat) : List ZE → List V → Prop := Paired fun e x => ∃ xs, HasV K H e xs ∧ xs[i]? = some x
theorem row_of (I : Inv X pins σ H s) {i : Nat} : ∀ {J : List ZE} {xs : List V}, Row X.K H i J xs → ∃ us : List Value, Vals xs us ∧ Paired (fun e u => ∃ items : Array Value, Has s.heap e items ∧ items[i]? = some u) J us
  | _, _, .nil => ⟨[], .nil, .nil⟩
  | _, _, .cons ⟨ys, h1, h2⟩ t => by
    obtain ⟨us, r, p⟩ := row_of I t
    obtain ⟨its, rv, hh⟩ := hasV_of I h1
    obtain ⟨u, hu, ru⟩ := rv.get h2
    exact ⟨u :: us, .cons ru r, .cons ⟨_, hh, by simpa using hu⟩ p⟩
theorem row_uniq (I : Inv X pins σ H s) {i : Nat} : ∀ {J : List ZE} {xs : List V}, Row X.K H i J xs → Paired (fun e x => ∀ ys, HasV X.K H e ys → ys[i]? = some x) J xs
  | _, _, .nil => .nil
  | _, _, .cons ⟨ys, h1, h2⟩ t => .cons (fun zs hz => by rw [hasV_inj I hz h1]; exact h2) (row_uniq I t)
end
/-- the rows of what is walked side by side, each a new tuple -/
def ItzG (K : PySem.W.Frag) (J : List ZE) : It :=
  ⟨fun i H => ∃ xs, Row K H i J xs,
   fun i H v H' => ∃ T xs, v = .ref T ∧ H T = none ∧ H' = upd H T (.tup xs) ∧ Paired (fun e x => ∀ ys, HasV K H e ys → ys[i]? = some x) J xs,
   fun i H => (∀ e ∈ J, ∃ xs, HasV K H e xs) ∧ ∃ e ∈ J, ∃ xs, HasV K H e xs ∧ xs.length ≤ i⟩
theorem ZS.letgo {h h' : Heap} {z TI TO : Addr} {J : List ZE} {k : Nat} (st : ZS h z TI TO J k) (hz : ∃ f0 b, FO f0 ∧ ZipR h' z TI TO f0 b) (sb : ∀ c o, c ≠ z → h.get? c = some o → h'.get? c = some o) : ZS h' z TI TO J k := by
  obtain ⟨⟨f0, b, hf, hz0⟩, hTI, ⟨ws, hws, hTO⟩, hits⟩ := st
  have TIz : TI ≠ z := ne_cls hTI hz0 (show Value.type "tuple" ≠ Value.type "zip" by decide)
  have TOz : TO ≠ z := ne_cls hTO hz0 (show Value.type "tuple" ≠ Value.type "zip" by decide)
  have itz : ∀ e ∈ J, e.it ≠ z := fun e he => ne_it (hits e he) hz0 (show Value.type "zip" ≠ Value.type "tuple_iterator" by decide) (show Value.type "zip" ≠ Value.type "list_iterator" by decide)
  exact ⟨hz, sb _ _ TIz hTI, ⟨ws, hws, sb _ _ TOz hTO⟩, fun e he => atI_at (hits e he) fun o g => sb _ o (itz e he) g⟩
theorem ZS.obj {h : Heap} {z TI TO : Addr} {J : List ZE} {k : Nat} (st : ZS h z TI TO J k) : ∀ b ∈ z :: TI :: TO :: J.map ZE.it, ∃ o, h.get? b = some o ∧ ∀ v, o.data ≠ .cell v := by
  intro b hb
  obtain ⟨⟨f0, b0, hf, hz0⟩, hTI, ⟨ws, hws, hTO⟩, hits⟩ := st
  rcases List.mem_cons.mp hb with q | hb
  · rw [q]; exact ⟨_, hz0, fun v q => nomatch q⟩
  rcases List.mem_cons.mp hb with q | hb
  · rw [q]; exact ⟨_, hTI, fun v q => nomatch q⟩
  rcases List.mem_cons.mp hb with q | hb
  · rw [q]; exact ⟨_, hTO, fun v q => nomatch q⟩
  obtain ⟨e, he, rfl⟩ := List.mem_map.mp hb
  obtain ⟨o, g, _, vs, d⟩ := atI_obj (hits e he)
  exact ⟨o, g, fun v q => by rw [d] at q; cases q⟩
theorem ZS.keep {h h' : Heap} {z TI TO : Addr} {J : List ZE} {k : Nat} (st : ZS h z TI TO J k) (kp : ∀ b ∈ z :: TI :: TO :: J.map ZE.it, ∀ o, h.get? b = some o → h'.get? b = some o) : ZS h' z TI TO J k := by
  obtain ⟨⟨f0, b0, hf, hz0⟩, hTI, ⟨ws, hws, hTO⟩, hits⟩ := st
  exact ⟨⟨f0, b0, hf, kp z (by simp) _ hz0⟩, kp TI (by simp) _ hTI, ⟨ws, hws, kp TO (by simp) _ hTO⟩, fun e he => atI_at (hits e he) fun o g => kp _ (by simp; exact .inr (.inr (.inr ⟨e, he, rfl⟩))) o g⟩
theorem turn_zipG {P : Program} {w : World} {K : PySem.W.Frag} {tg : Expr} {z TI TO : Addr} {J : List ZE} (ap : ZA TI TO J) (h0 : J ≠ []) (h9 : J.length ≤ 9) :
    Turn P w K tg (ItzG K J) (z :: TI :: TO :: J.map ZE.it) z (fun i h => ZS h z TI TO J i) where
  mem := by simp
  obj := fun i h st => st.obj
  keep := fun i h h' st k => st.keep k
  item := by
    intro X hP hw hK hc i pins s σ H E I hf st hg
    subst hP hw hK
    obtain ⟨xs, hrow⟩ := hg
    obtain ⟨us, rv, hp⟩ := row_of I hrow
    have hT : s.TypeIs (.ref z) "zip" := by obtain ⟨f0, b, _, hz⟩ := st.zr; exact ⟨_, hz, rfl⟩
    have hzl : z < s.heap.objs.size := by obtain ⟨f0, b, _, hz⟩ := st.zr; exact Heap.lt_size hz
    refine pyNext_of hT F.slot_zip_next (wpAny_call_entry F.slot_zip_next hT F.entry_zip_next (zip_item ap st h0 h9 hp fun h1 st1 hT1 hsz1 hk1 => ?_) (F.args_zip_next_1 _))
    refine ⟨_, rfl, ?_⟩
    have fin : ∀ h2, ZS h2 z TI TO J (i + 1) → (∀ c o, c ≠ z → h1.get? c = some o → h2.get? c = some o) → ∃ x H', Inv X pins σ H' { s with heap := h2 } ∧ RelV x (.ref s.heap.objs.size) ∧ (ItzG X.K J).yld i H x H' ∧ ZS h2 z TI TO J (i + 1) ∧ ∀ b ∈ z :: TI :: TO :: J.map ZE.it, H' b = none := fun h2 st2 hk2 => by
      have hl : xs.length = us.length := rv.length
      have hJ := (pairedI hp).1
      have new : ObjOk X.prog X.w (upd H s.heap.objs.size (.tup xs)) h2 s.heap.objs.size (.tup xs) :=
        ⟨by rw [hl, ← hJ, sizeLine_eq]; omega, us, rv, ⟨_, hk2 _ _ (Nat.ne_of_gt hzl) hT1, rfl, _, rfl⟩⟩
      have I1 : Inv X pins σ (upd H s.heap.objs.size (.tup xs)) { s with heap := h2 } :=
        I.turnedNew (t' := s.toks) (ch := z :: TI :: TO :: J.map ZE.it) (fun c o hb q => hk2 c o (fun q' => hb (by simp [q'])) (hk1 c o (fun q' => hb (by simp [q'])) (fun q' => hb (by simp [q'])) (fun e he q' => hb (by simp; exact .inr (.inr (.inr ⟨e, he, q'.symm⟩)))) q)) hf (Nat.le_refl _) new
      refine ⟨.ref s.heap.objs.size, _, I1, rfl, ⟨_, xs, rfl, I.hok.fresh (Nat.le_refl _), rfl, row_uniq I hrow⟩, st2, fun c hcm => ?_⟩
      obtain ⟨o, g, _⟩ := st.obj c hcm
      rw [upd_ne (Nat.ne_of_lt (Heap.lt_size g))]
      exact (hf c hcm).1
    obtain ⟨f1, b1, hf1, hz1⟩ := st1.zr
    refine letGo_any (s := { s with heap := h1 }) hz1 (by simp) (fin h1 st1 fun _ _ _ g => g) fun h2 hz2 sb2 => fin h2 (st1.letgo ⟨.none, b1, .inl rfl, hz2⟩ fun c o c1 g => sb2.extBut _ _ c1 g) fun c o c1 g => sb2.extBut _ _ c1 g
  done := by
    intro X hP hw hK hc i pins s σ H E I hf st hg
    subst hP hw hK
    obtain ⟨hall, e0, he0, xs0, hv0, hle⟩ := hg
    have hT : s.TypeIs (.ref z) "zip" := by obtain ⟨f0, b, _, hz⟩ := st.zr; exact ⟨_, hz, rfl⟩
    refine pyNext_of hT F.slot_zip_next (wpAny_call_entry F.slot_zip_next hT F.entry_zip_next (zip_end (I.ok.hd hc) ap st h0 h9 (fun e he => ?_) ?_ fun h1 x hk hx => ?_) (F.args_zip_next_1 _))
    · obtain ⟨xs, hv⟩ := hall e he
      obtain ⟨its, _, hh⟩ := hasV_of I hv
      exact ⟨_, hh⟩
    · obtain ⟨its, rv, hh⟩ := hasV_of I hv0
      have := rv.length
      exact ⟨e0, he0, _, hh, by simp; omega⟩
    · obtain ⟨o, ho, hcx⟩ := hx
      exact ⟨x, o, rfl, ho, hcx, rfl, I.turnedL (t' := s.toks) (ch := z :: TI :: TO :: J.map ZE.it) (fun c o hb q => hk c o (fun q' => hb (by simp [q'])) (fun q' => hb (by simp [q'])) (fun e he q' => hb (by simp; exact .inr (.inr (.inr ⟨e, he, q'.symm⟩)))) q) hf⟩
  self := fun A i s Q E st h => pyIter_zipG st h

/-! ### enumerate -/
def ItE (K : PySem.W.Frag) (z : ZE) : It :=
  ⟨fun i H => ∃ xs x, HasV K H z xs ∧ xs[i]? = some x,
   fun i H v H' => ∃ T x, v = .ref T ∧ H T = none ∧ H' = upd H T (.tup [.int (i : Nat), x]) ∧ ∀ xs, HasV K H z xs → xs[i]? = some x,
   fun i H => ∃ xs, HasV K H z xs ∧ xs.length ≤ i⟩
theorem EnS.ob {h : Heap} {e it : Addr} {i : Nat} (st : EnS h e it i) : ∃ o, h.get? e = some o ∧ o.cls = .type "enumerate" ∧ ∃ vs, o.data = .fields vs := by
  obtain ⟨f0, b, old, _, he⟩ := st
  exact ⟨_, he, rfl, _, rfl⟩
theorem EnS.at {h h' : Heap} {e it : Addr} {i : Nat} (st : EnS h e it i) (k : ∀ o, h.get? e = some o → h'.get? e = some o) : EnS h' e it i := by
  obtain ⟨f0, b, old, hf, he⟩ := st
  exact ⟨f0, b, old, hf, k _ he⟩
/-- of a zip: each row a new tuple, within a new pair -/
def ItEZ (K : PySem.W.Frag) (J : List ZE) : It :=
  ⟨fun i H => ∃ xs, Row K H i J xs,
   fun i H v H' => ∃ T T2 xs, v = .ref T2 ∧ H T = none ∧ H T2 = none ∧ T ≠ T2 ∧ H' = upd (upd H T (.tup xs)) T2 (.tup [.int (i : Nat), .ref T]) ∧ Paired (fun e x => ∀ ys, HasV K H e ys → ys[i]? = some x) J xs,
   fun i H => (∀ e ∈ J, ∃ xs, HasV K H e xs) ∧ ∃ e ∈ J, ∃ xs, HasV K H e xs ∧ xs.length ≤ i⟩
end Yx

namespace Yx
variable [Tb] [Cb]
open PySem L2 RZ PySem.Spec PyProof.Rows

def iZipG (K : PySem.W.Frag) (ta : TA) : TI := fun σ H R => ta σ H fun vs H1 => ∃ (a b : Addr) (pa pb : Bool) (xs ys : List V), vs = [.ref a, .ref b] ∧ HasV K H1 ⟨0, a, pa⟩ xs ∧ HasV K H1 ⟨0, b, pb⟩ ys ∧
  ∀ i j, R (ItzG K [⟨i, a, pa⟩, ⟨j, b, pb⟩]) H1
def iEnumI (K : PySem.W.Frag) (ta : TA) : TI := fun σ H R => ta σ H fun vs H1 => ∃ (a : Addr) (pa : Bool) (xs : List V), vs = [.ref a] ∧ HasV K H1 ⟨0, a, pa⟩ xs ∧ ∀ i, R (ItE K ⟨i, a, pa⟩) H1
def iEnumZ (K : PySem.W.Frag) (ta : TA) : TI := fun σ H R => ta σ H fun vs H1 => ∃ (a b : Addr) (pa pb : Bool) (xs ys : List V), vs = [.ref a, .ref b] ∧ HasV K H1 ⟨0, a, pa⟩ xs ∧ HasV K H1 ⟨0, b, pb⟩ ys ∧
  ∀ i j, R (ItEZ K [⟨i, a, pa⟩, ⟨j, b, pb⟩]) H1
theorem two_of {J : List ZE} {a b : Addr} {pa pb : Bool} (h1 : J.map ZE.l = [a, b]) (h2 : J.map ZE.tp = [pa, pb]) : ∃ i j, J = [⟨i, a, pa⟩, ⟨j, b, pb⟩] := by
  match J, h1, h2 with
  | [x, y], h1, h2 =>
    simp only [List.map_cons, List.map_nil, List.cons.injEq, and_true] at h1 h2
    obtain ⟨rfl, rfl⟩ := h1
    obtain ⟨rfl, rfl⟩ := h2
    exact ⟨x.it, y.it, rfl⟩
section
variable {X : Cx} {tg : Expr} {e e2 : Expr} {ta : TA} {p pos p2 pos2 : Pos}
theorem pi_zipG (hg : Gl X "zip") (hm : X.mg "zip" = none) (ha : PA X [e, e2] ta)
    (hs : starEach [e, e2] X.env = (false, eval e X.env) :: starEach [e2] X.env := by rfl) (hpl : (backTo pos (starEach [e2] X.env)).any (·.1) = false := by rfl) :
    PI X tg (.Call (.Name "zip" p) [e, e2] [] pos) (iZipG X.K ta) := by
  refine ⟨fun pins s σ H R I h => ?_⟩
  refine Call_ (ld_blt I hg hm PyProof.Rows.boot_zip (PyProof.Rows.callWith_type1 (thn (ha.run pos pins s σ H _ I h) fun us s1 ⟨vs, H1, I1, r1, q1⟩ => ?_) hs hpl))
  obtain ⟨a, b, pa, pb, xs, ys, rfl, hx, hy, q⟩ := q1
  cases r1 with
  | cons r rr =>
    cases rr with
    | cons r' rr =>
      cases rr
      cases r
      cases r'
      obtain ⟨its, _, h1⟩ := hasV_of I1 hx
      obtain ⟨its2, _, h2⟩ := hasV_of I1 hy
      refine call_z2 h1 h2 fun h' z TI TO J st ap hz jl jt hf hk => wpAny_pyIter_zip hz ?_
      obtain ⟨i, j, rfl⟩ := two_of jl jt
      have I2 : Inv X pins σ H1 { s1 with heap := h' } := I1.kept (t' := s1.toks) hk
      exact ⟨z, _, _, _, H1, rfl, I2, turn_zipG ap (by simp) (by simp), st, fun c hc => I1.fpOk (hf c hc) (I1.hok.fresh (hf c hc)), q i j⟩
end

/-! ### as sources -/
section
variable {K : PySem.W.Frag} {B : Bs} {sa : Addr} {F : Hp}
theorem hasV_mono {F H : Hp} (e : Ex F H) {z : ZE} {xs : List V} (h : HasV K F z xs) : HasV K H z xs := by
  unfold HasV at h ⊢
  split at h
  · rename_i c; rw [if_pos c]; exact ex_t e h
  · rename_i c; rw [if_neg c]; exact ex_l e h
theorem walk_z2 {i j a b : Addr} {pa pb : Bool} {xs ys : List V} {ds es : List D} (h1 : HasV K F ⟨0, a, pa⟩ xs) (r1 : Reps K sa F xs ds) (h2 : HasV K F ⟨0, b, pb⟩ ys) (r2 : Reps K sa F ys es) :
    WalkD K sa (ItzG K [⟨i, a, pa⟩, ⟨j, b, pb⟩]) F (zipD ds es) := by
  refine walk_pair (n := (zipD ds es).length) (xs := fun i => xs[i]?) (ys := fun i => ys[i]?) rfl ⟨fun k H hk e => ?_, fun H e => ?_, fun k H v H' hk e y => ?_⟩ (fun i v h => r1.getV h) fun i v h => r2.getV h
  · unfold zipD at hk
    rw [List.length_map, List.length_zip, ← r1.length, ← r2.length] at hk
    exact ⟨[xs[k]'(by omega), ys[k]'(by omega)], .cons ⟨xs, hasV_mono e h1, by simp⟩ (.cons ⟨ys, hasV_mono e h2, by simp⟩ .nil)⟩
  · refine ⟨fun z hz => ?_, ?_⟩
    · rcases List.mem_cons.mp hz with q | hz
      · rw [q]; exact ⟨xs, hasV_mono e h1⟩
      · rcases List.mem_cons.mp hz with q | hz
        · rw [q]; exact ⟨ys, hasV_mono e h2⟩
        · cases hz
    · have hl : (zipD ds es).length = min xs.length ys.length := by unfold zipD; rw [List.length_map, List.length_zip, r1.length, r2.length]
      by_cases c : xs.length ≤ ys.length
      · exact ⟨⟨i, a, pa⟩, by simp, xs, hasV_mono e h1, by omega⟩
      · exact ⟨⟨j, b, pb⟩, by simp, ys, hasV_mono e h2, by omega⟩
  · obtain ⟨T, rs, h3, h4, h5, h6⟩ := y
    cases h6 with
    | cons g1 t =>
      cases t with
      | cons g2 t =>
        cases t
        exact ⟨T, _, _, h3, h4, h5, g1 xs (hasV_mono e h1), g2 ys (hasV_mono e h2)⟩
theorem walk_eI {i a : Addr} {pa : Bool} {xs : List V} {ds : List D} (h1 : HasV K F ⟨0, a, pa⟩ xs) (r1 : Reps K sa F xs ds) : WalkD K sa (ItE K ⟨i, a, pa⟩) F (zipD (rngD 0 ds.length) ds) := by
  have hl : (zipD (rngD 0 ds.length) ds).length = xs.length := by simp [zipD, rngD, r1.length]
  refine walk_pair hl (xs := fun k => if k < xs.length then some (.int (k : Nat)) else none) (ys := fun i => xs[i]?) ⟨fun k H hk e => ?_, fun H e => ?_, fun k H v H' hk e y => ?_⟩ (fun k v h => ?_) fun i v h => r1.getV h
  · exact ⟨xs, xs[k], hasV_mono e h1, by simp [hk]⟩
  · exact ⟨xs, hasV_mono e h1, Nat.le_refl _⟩
  · obtain ⟨T, x, h3, h4, h5, h6⟩ := y
    exact ⟨T, .int (k : Nat), x, h3, h4, h5, by simp only; rw [if_pos hk], h6 xs (hasV_mono e h1)⟩
  · replace h : (if k < xs.length then some (V.int (k : Nat)) else none) = some v := h
    split at h
    · rename_i c; cases h
      rw [r1.length] at c
      exact ⟨.int (k : Nat), by simp [rngD, c], .int⟩
    · cases h
theorem walk_eZ {i j a b : Addr} {pa pb : Bool} {xs ys : List V} {ds es : List D} (h1 : HasV K F ⟨0, a, pa⟩ xs) (r1 : Reps K sa F xs ds) (h2 : HasV K F ⟨0, b, pb⟩ ys) (r2 : Reps K sa F ys es) :
    WalkD K sa (ItEZ K [⟨i, a, pa⟩, ⟨j, b, pb⟩]) F (zipD (rngD 0 (zipD ds es).length) (zipD ds es)) := by
  have hl : (zipD ds es).length = min xs.length ys.length := by unfold zipD; rw [List.length_map, List.length_zip, r1.length, r2.length]
  have hl2 : (zipD (rngD 0 (zipD ds es).length) (zipD ds es)).length = (zipD ds es).length := by
    have e1 : (rngD 0 (zipD ds es).length).length = (zipD ds es).length := by simp [rngD]
    show ((rngD 0 (zipD ds es).length).zip (zipD ds es) |>.map _).length = _
    rw [List.length_map, List.length_zip, e1, Nat.min_self]
  refine ⟨fun k H v H' => ∃ T T2 x y, v = .ref T2 ∧ H T = none ∧ H T2 = none ∧ T ≠ T2 ∧ H' = upd (upd H T (.tup [x, y])) T2 (.tup [.int (k : Nat), .ref T]) ∧ xs[k]? = some x ∧ ys[k]? = some y, ⟨fun k H hk e => ?_, fun H e => ?_, fun k H v H' hk e y => ?_⟩, ?_⟩
  · rw [hl2, hl] at hk
    exact ⟨[xs[k]'(by omega), ys[k]'(by omega)], .cons ⟨xs, hasV_mono e h1, by simp⟩ (.cons ⟨ys, hasV_mono e h2, by simp⟩ .nil)⟩
  · refine ⟨fun z hz => ?_, ?_⟩
    · rcases List.mem_cons.mp hz with q | hz
      · rw [q]; exact ⟨xs, hasV_mono e h1⟩
      · rcases List.mem_cons.mp hz with q | hz
        · rw [q]; exact ⟨ys, hasV_mono e h2⟩
        · cases hz
    · by_cases c : xs.length ≤ ys.length
      · exact ⟨⟨i, a, pa⟩, by simp, xs, hasV_mono e h1, by omega⟩
      · exact ⟨⟨j, b, pb⟩, by simp, ys, hasV_mono e h2, by omega⟩
  · obtain ⟨T, T2, rs, h3, h4, h5, h6, h7, h8⟩ := y
    cases h8 with
    | cons g1 t =>
      cases t with
      | cons g2 t =>
        cases t
        exact ⟨T, T2, _, _, h3, h4, h5, h6, h7, g1 xs (hasV_mono e h1), g2 ys (hasV_mono e h2)⟩
  · rintro k H v H' hk e ⟨T, T2, x, y, rfl, hT, hT2, hne, rfl, gx, gy⟩ F1 e1 e2
    obtain ⟨d1, k1, q1⟩ := r1.getV gx
    obtain ⟨d2, k2, q2⟩ := r2.getV gy
    have al := Al.new (o := .tup [x, y]) e2 hT
    have hT2' : upd H T (.tup [x, y]) T2 = none := by rw [upd_ne (Ne.symm hne)]; exact hT2
    have al2 := Al.new (o := .tup [.int (k : Nat), .ref T]) al.fh hT2'
    have g12 := zipD_get k1 k2
    have hk' : k < (zipD ds es).length := by rw [hl2] at hk; exact hk
    have gi : (rngD 0 (zipD ds es).length)[k]? = some (.int (k : Nat)) := by simp [rngD, hk']
    refine ⟨_, _, al.trans al2, zipD_get gi g12, .tup upd_same (.cons .int (.cons (Rep.mono al2.f (.tup upd_same (.cons (q1.mono (e1.trans al.f)) (.cons (q2.mono (e1.trans al.f)) .nil)))) .nil))⟩
theorem hasV_rep {e : Ex F H} {v : V} {d : D} {ds : List D} (r : Rep K sa F v d) (h : d = .tup ds ∨ d = .lst ds) : ∃ a pa xs, v = .ref a ∧ HasV K F ⟨0, a, pa⟩ xs ∧ Reps K sa F xs ds := by
  cases r with
  | tup s r => rcases h with h | h <;> cases h; exact ⟨_, true, _, rfl, SqT.of s, r⟩
  | lst s r => rcases h with h | h <;> cases h; exact ⟨_, false, _, rfl, s, r⟩
  | _ => rcases h with h | h <;> cases h
def seqD : D → Option (List D)
  | .tup ds => some ds
  | .lst ds => some ds
  | _ => none
theorem seqD_some {d : D} {ds : List D} (h : seqD d = some ds) : d = .tup ds ∨ d = .lst ds := by
  cases d <;> simp [seqD] at h <;> subst h <;> simp
def twoF (a b : Sg → Option Gst → R D) (k : List D → List D → List D) (σ : Sg) (x : Option Gst) : R (List D) :=
  (a σ x).bind fun d x1 => (b σ x1).bind fun e x2 => match seqD d, seqD e with
    | some ds, some es => .ok (k ds es) x2
    | _, _ => .bad
theorem two_ok (a b : SE K B) (k : List D → List D → List D) (J : ZE → ZE → It) (hJ : ∀ (sa : Addr) (F : Hp) (i j a b : Addr) (pa pb : Bool) (xs ys : List V) (ds es : List D), HasV K F ⟨0, a, pa⟩ xs → Reps K sa F xs ds → HasV K F ⟨0, b, pb⟩ ys → Reps K sa F ys es → WalkD K sa (J ⟨i, a, pa⟩ ⟨j, b, pb⟩) F (k ds es)) :
    ∀ g Φ F0 W F H τ σ x Q, B.p g τ F → Env K g Φ F0 F H τ σ x → Post K g Φ F0 W F τ σ (QI K g Φ F0 F τ σ Q) (twoF a.f b.f k σ x) →
    tCons (a.t W) (tCons (b.t W) tNil) τ H fun vs H1 => ∃ (a b : Addr) (pa pb : Bool) (xs ys : List V), vs = [.ref a, .ref b] ∧ HasV K H1 ⟨0, a, pa⟩ xs ∧ HasV K H1 ⟨0, b, pb⟩ ys ∧ ∀ i j, Q (J ⟨i, a, pa⟩ ⟨j, b, pb⟩) H1 := by
  intro g Φ F0 W F H τ σ x Q hB E h
  refine a.ok g Φ F0 W F H τ σ x _ hB E (Post.step h fun d x1 h1 v F1 H1 e1 E1 r1 => ?_)
  refine b.ok g Φ F0 W F1 H1 τ σ x1 _ (B.mono _ _ _ _ e1 hB) E1 (Post.mono e1 (Post.step h1 fun d2 x2 h2 => h2) fun d2 x2 h2 v2 F2 H2 e2 E2 r2 => ?_)
  have r1' := r1.mono e2
  cases hd : seqD d with
  | none => simp only [hd] at h2; exact h2.elim
  | some ds =>
    cases he : seqD d2 with
    | none => simp only [hd, he] at h2; exact h2.elim
    | some es =>
      simp only [hd, he] at h2
      obtain ⟨p, pa, xs, rfl, hx, rx⟩ := hasV_rep (e := E2.ex) r1' (seqD_some hd)
      obtain ⟨q, pb, ys, rfl, hy, ry⟩ := hasV_rep (e := E2.ex) r2 (seqD_some he)
      exact ⟨p, q, pa, pb, xs, ys, rfl, hasV_mono E2.ex hx, hasV_mono E2.ex hy, fun i j => h2 _ F2 H2 (e1.trans e2) E2 (hJ _ _ _ _ _ _ _ _ _ _ _ _ hx rx hy ry)⟩
/-- zip(a, b), lists or tuples -/
def SI.zipG (a b : SE K B) : SI K B where
  t := fun W => iZipG K (tCons (a.t W) (tCons (b.t W) tNil))
  f := twoF a.f b.f zipD
  ok := two_ok a b zipD (fun z z' => ItzG K [z, z']) fun _ _ _ _ _ _ _ _ _ _ _ _ h1 r1 h2 r2 => walk_z2 h1 r1 h2 r2
/-- enumerate(zip(a, b)) -/
def SI.enumZ (a b : SE K B) : SI K B where
  t := fun W => iEnumZ K (tCons (a.t W) (tCons (b.t W) tNil))
  f := twoF a.f b.f fun ds es => zipD (rngD 0 (zipD ds es).length) (zipD ds es)
  ok := two_ok a b _ (fun z z' => ItEZ K [z, z']) fun _ _ _ _ _ _ _ _ _ _ _ _ h1 r1 h2 r2 => walk_eZ h1 r1 h2 r2
/-- enumerate(a), a list or a tuple -/
def SI.enum (a : SE K B) : SI K B where
  t := fun W => iEnumI K (tCons (a.t W) tNil)
  f := fun σ x => (a.f σ x).bind fun d x1 => match seqD d with
    | some ds => .ok (zipD (rngD 0 ds.length) ds) x1
    | none => .bad
  ok := fun g Φ F0 W F H τ σ x Q hB E h => by
    refine a.ok g Φ F0 W F H τ σ x _ hB E (Post.step h fun d x1 h1 v F1 H1 e1 E1 r1 => ?_)
    cases hd : seqD d with
    | none => simp only [hd] at h1; exact h1.elim
    | some ds =>
      simp only [hd] at h1
      obtain ⟨p, pa, xs, rfl, hx, rx⟩ := hasV_rep (e := E1.ex) r1 (seqD_some hd)
      exact ⟨p, pa, xs, rfl, hasV_mono E1.ex hx, fun i => h1 _ F1 H1 e1 E1 (walk_eI hx rx)⟩
end
end Yx

namespace Yx
variable [Tb] [Cb]
open PySem L2 RZ PySem.Spec PyProof.Rows
/-! ### zip of three -/
section
variable {prog : Program} {w : World} {A : Around} {E : Value → Shared → Prop} {s : Shared}
end
def iZip3G (K : PySem.W.Frag) (ta : TA) : TI := fun σ H R => ta σ H fun vs H1 => ∃ (a b c : Addr) (pa pb pc : Bool) (xs ys zs : List V), vs = [.ref a, .ref b, .ref c] ∧ HasV K H1 ⟨0, a, pa⟩ xs ∧ HasV K H1 ⟨0, b, pb⟩ ys ∧ HasV K H1 ⟨0, c, pc⟩ zs ∧
  ∀ i j l, R (ItzG K [⟨i, a, pa⟩, ⟨j, b, pb⟩, ⟨l, c, pc⟩]) H1
/-- rows of three -/
def zip3D : List D → List D → List D → List D
  | a :: as, b :: bs, c :: cs => .tup [a, b, c] :: zip3D as bs cs
  | _, _, _ => []
theorem zip3D_length : ∀ as bs cs : List D, (zip3D as bs cs).length = min as.length (min bs.length cs.length)
  | [], _, _ => by simp [zip3D]
  | _ :: _, [], _ => by simp [zip3D]
  | _ :: _, _ :: _, [] => by simp [zip3D]
  | a :: as, b :: bs, c :: cs => by
    show (zip3D as bs cs).length + 1 = _
    rw [zip3D_length as bs cs]
    simp only [List.length_cons]
    omega
theorem zip3D_get : ∀ {as bs cs : List D} {i : Nat} {a b c : D}, as[i]? = some a → bs[i]? = some b → cs[i]? = some c → (zip3D as bs cs)[i]? = some (.tup [a, b, c])
  | [], _, _, _, _, _, _, h, _, _ => by simp at h
  | _ :: _, [], _, _, _, _, _, _, h, _ => by simp at h
  | _ :: _, _ :: _, [], _, _, _, _, _, _, h => by simp at h
  | x :: as, y :: bs, z :: cs, 0, a, b, c, h1, h2, h3 => by
    simp at h1 h2 h3
    subst h1 h2 h3
    rfl
  | x :: as, y :: bs, z :: cs, i + 1, a, b, c, h1, h2, h3 => by
    simp at h1 h2 h3
    show (zip3D as bs cs)[i]? = _
    exact zip3D_get h1 h2 h3
section
variable {K : PySem.W.Frag} {B : Bs} {sa : Addr} {F : Hp}
theorem walk_z3 {i j l a b c : Addr} {pa pb pc : Bool} {xs ys zs : List V} {ds es fs : List D} (h1 : HasV K F ⟨0, a, pa⟩ xs) (r1 : Reps K sa F xs ds) (h2 : HasV K F ⟨0, b, pb⟩ ys) (r2 : Reps K sa F ys es) (h3 : HasV K F ⟨0, c, pc⟩ zs) (r3 : Reps K sa F zs fs) :
    WalkD K sa (ItzG K [⟨i, a, pa⟩, ⟨j, b, pb⟩, ⟨l, c, pc⟩]) F (zip3D ds es fs) := by
  have hl : (zip3D ds es fs).length = min xs.length (min ys.length zs.length) := by rw [zip3D_length, r1.length, r2.length, r3.length]
  refine ⟨fun k H v H' => ∃ T x y z, v = .ref T ∧ H T = none ∧ H' = upd H T (.tup [x, y, z]) ∧ xs[k]? = some x ∧ ys[k]? = some y ∧ zs[k]? = some z, ⟨fun k H hk e => ?_, fun H e => ?_, fun k H v H' hk e y => ?_⟩, ?_⟩
  · rw [hl] at hk
    exact ⟨[xs[k]'(by omega), ys[k]'(by omega), zs[k]'(by omega)], .cons ⟨xs, hasV_mono e h1, by simp⟩ (.cons ⟨ys, hasV_mono e h2, by simp⟩ (.cons ⟨zs, hasV_mono e h3, by simp⟩ .nil))⟩
  · refine ⟨fun z hz => ?_, ?_⟩
    · rcases List.mem_cons.mp hz with q | hz
      · rw [q]; exact ⟨xs, hasV_mono e h1⟩
      · rcases List.mem_cons.mp hz with q | hz
        · rw [q]; exact ⟨ys, hasV_mono e h2⟩
        · rcases List.mem_cons.mp hz with q | hz
          · rw [q]; exact ⟨zs, hasV_mono e h3⟩
          · cases hz
    · by_cases c1 : xs.length ≤ min ys.length zs.length
      · exact ⟨⟨i, a, pa⟩, by simp, xs, hasV_mono e h1, by omega⟩
      · by_cases c2 : ys.length ≤ zs.length
        · exact ⟨⟨j, b, pb⟩, by simp, ys, hasV_mono e h2, by omega⟩
        · exact ⟨⟨l, c, pc⟩, by simp, zs, hasV_mono e h3, by omega⟩
  · obtain ⟨T, rs, k1, k2, k3, k4⟩ := y
    cases k4 with
    | cons g1 t =>
      cases t with
      | cons g2 t =>
        cases t with
        | cons g3 t =>
          cases t
          exact ⟨T, _, _, _, k1, k2, k3, g1 xs (hasV_mono e h1), g2 ys (hasV_mono e h2), g3 zs (hasV_mono e h3)⟩
  · rintro k H v H' hk e ⟨T, x, y, z, rfl, hT, rfl, gx, gy, gz⟩ F1 e1 e2
    obtain ⟨d1, k1, q1⟩ := r1.getV gx
    obtain ⟨d2, k2, q2⟩ := r2.getV gy
    obtain ⟨d3, k3, q3⟩ := r3.getV gz
    have al := Al.new (o := .tup [x, y, z]) e2 hT
    exact ⟨_, _, al, zip3D_get k1 k2 k3, .tup upd_same (.cons (q1.mono (e1.trans al.f)) (.cons (q2.mono (e1.trans al.f)) (.cons (q3.mono (e1.trans al.f)) .nil)))⟩
/-- zip(a, b, c) -/
def SI.zip3G (a b c : SE K B) : SI K B where
  t := fun W => iZip3G K (tCons (a.t W) (tCons (b.t W) (tCons (c.t W) tNil)))
  f := fun σ x => (a.f σ x).bind fun d x1 => (b.f σ x1).bind fun e x2 => (c.f σ x2).bind fun u x3 => match seqD d, seqD e, seqD u with
    | some ds, some es, some us => .ok (zip3D ds es us) x3
    | _, _, _ => .bad
  ok := fun g Φ F0 W F H τ σ x Q hB E h => by
    refine a.ok g Φ F0 W F H τ σ x _ hB E (Post.step h fun d x1 h1 v F1 H1 e1 E1 r1 => ?_)
    refine b.ok g Φ F0 W F1 H1 τ σ x1 _ (B.mono _ _ _ _ e1 hB) E1 (Post.mono e1 (Post.step h1 fun d2 x2 h2 => h2) fun d2 x2 h2 v2 F2 H2 e2 E2 r2 => ?_)
    refine c.ok g Φ F0 W F2 H2 τ σ x2 _ (B.mono _ _ _ _ (e1.trans e2) hB) E2 (Post.mono (e1.trans e2) (Post.step h2 fun d3 x3 h3 => h3) fun d3 x3 h3 v3 F3 H3 e3 E3 r3 => ?_)
    cases hd : seqD d with
    | none => simp only [hd] at h3; exact h3.elim
    | some ds =>
      cases he : seqD d2 with
      | none => simp only [hd, he] at h3; exact h3.elim
      | some es =>
        cases hu : seqD d3 with
        | none => simp only [hd, he, hu] at h3; exact h3.elim
        | some us =>
          simp only [hd, he, hu] at h3
          obtain ⟨p, pa, xs, rfl, hx, rx⟩ := hasV_rep (e := E3.ex) (r1.mono (e2.trans e3)) (seqD_some hd)
          obtain ⟨q, pb, ys, rfl, hy, ry⟩ := hasV_rep (e := E3.ex) (r2.mono e3) (seqD_some he)
          obtain ⟨r, pc, zs, rfl, hz, rz⟩ := hasV_rep (e := E3.ex) r3 (seqD_some hu)
          exact ⟨p, q, r, pa, pb, pc, xs, ys, zs, rfl, hasV_mono E3.ex hx, hasV_mono E3.ex hy, hasV_mono E3.ex hz, fun i j l => h3 _ F3 H3 ((e1.trans e2).trans e3) E3 (walk_z3 hx rx hy ry hz rz)⟩
end
end Yx

namespace Yx
variable [Tb] [Cb]
open PySem L2 RZ

/-! ### the drawing state: {'cells': .., 'lefts': .., 'at': ..} -/
section
variable {K : PySem.W.Frag} {B : Bs} {g : GA} {Φ F0 F H : Hp} {τ : St} {σ : Sg} {x : Option Gst}
theorem Env.gset {a : Addr} {o : HO} {x' : Option Gst} (E : Env K g Φ F0 F H τ σ x) (ha : a ∈ gfp g) (gr' : GRep K g F (upd H a o) x') : Env K g Φ F0 F (upd H a o) τ σ x' where
  ex := E.ex.mut (E.gr.on a ha).2
  f0 := E.f0
  fr := E.fr.mut (E.gf a ha)
  dj := E.dj
  len := E.len
  get := fun i s h => by
    obtain ⟨v, h1, h2⟩ := E.get i s h
    refine ⟨v, h1, ?_⟩
    cases s with
    | dat d => exact h2
    | own ds =>
      obtain ⟨q, vs, rfl, b2, b3, b4⟩ := h2
      exact ⟨q, vs, rfl, by rw [upd_ne (fun z => (E.own i _ q h rfl h1).2 (by rw [z]; exact ha))]; exact b2, b3, b4⟩
    | dic ds =>
      obtain ⟨q, vs, rfl, b2, b3, b4⟩ := h2
      exact ⟨q, vs, rfl, by rw [upd_ne (fun z => (E.own i _ q h rfl h1).2 (by rw [z]; exact ha))]; exact b2, b3, b4⟩
    | dik ds =>
      obtain ⟨q, vs, rfl, b2, b3, b4⟩ := h2
      exact ⟨q, vs, rfl, by rw [upd_ne (fun z => (E.own i _ q h rfl h1).2 (by rw [z]; exact ha))]; exact b2, b3, b4⟩
    | clo =>
      have hne : Cb.cc ≠ a := fun z => E.gr.code h2.2.2.1 (by rw [z]; exact ha)
      exact ⟨h2.1, h2.2.1, by rw [upd_ne hne]; exact h2.2.2.1, h2.2.2.2⟩
  own := E.own
  dis := E.dis
  gr := gr'
  gf := E.gf
  np := E.np
theorem GRep.some_of {s : Gst} (h : GRep K g F H (some s)) : ∃ a l c, g = (a, some (l, c)) ∧ H a = some (.dK [(.inr kCells, .ref c), (.inr kLefts, .ref l), (.inr kAt, .int s.at_)]) ∧ SqL K F c (s.cells.map V.int) ∧ H l = some (.lst (s.lefts.map V.int)) ∧ F a = none ∧ F l = none := by
  obtain ⟨a, g2⟩ := g
  cases g2 with
  | none => exact h.g0.elim
  | some p =>
    obtain ⟨l, c⟩ := p
    obtain ⟨h1, h2, h3, h4, h5⟩ := h.g0
    exact ⟨a, l, c, rfl, h1, h2, h3, h4, h5⟩
abbrev dkS (c l : Addr) (n : Int) : List (L2.Key × V) := [(.inr kCells, .ref c), (.inr kLefts, .ref l), (.inr kAt, .int n)]
theorem get_at (c l : Addr) (n : Int) : valV (dkS c l n) (.inr kAt : L2.Key) = some (.int n) := by
  rw [valV_neg (show ¬ (Sum.inr kCells : L2.Key) = .inr kAt by decide +kernel), valV_neg (show ¬ (Sum.inr kLefts : L2.Key) = .inr kAt by decide +kernel), valV_pos rfl]
theorem get_cells (c l : Addr) (n : Int) : valV (dkS c l n) (.inr kCells : L2.Key) = some (.ref c) := valV_pos rfl
theorem get_lefts (c l : Addr) (n : Int) : valV (dkS c l n) (.inr kLefts : L2.Key) = some (.ref l) := by
  rw [valV_neg (show ¬ (Sum.inr kCells : L2.Key) = .inr kLefts by decide +kernel), valV_pos rfl]
theorem put_at (c l : Addr) (n m : Int) : putK (dkS c l n) (.inr kAt : L2.Key) (.int m) = dkS c l m := by
  unfold putK
  rw [if_pos (by simp)]
  have h1 : ¬ (Sum.inr kCells : L2.Key) = .inr kAt := by decide +kernel
  have h2 : ¬ (Sum.inr kLefts : L2.Key) = .inr kAt := by decide +kernel
  simp [dkS, h1, h2]
theorem sget_st {i : Nat} (E : Env K g Φ F0 F H τ σ x) (h : sget σ i = some .st) : τ[i]? = some (some (.ref (gsa g))) := by
  obtain ⟨v, h1, h2⟩ := E.get i _ (sget_some h)
  cases h2
  exact h1
def isSt (o : Option D) : Bool :=
  match o with
  | some .st => true
  | _ => false
theorem isSt_some {o : Option D} (h : isSt o = true) : o = some .st := by
  cases o with
  | none => cases h
  | some d => cases d <;> first | rfl | cases h
/-- state['at'] -/
def SE.stAt (i : Nat) : SE K B where
  t := fun _ => tDGet (tVar i) (tC (.str kAt))
  f := fun σ x => match x with
    | some s => if isSt (sget σ i) = true then .ok (.int s.at_) x else .bad
    | none => .bad
  ok := fun g Φ F0 W F H τ σ x Q _ E h => by
    cases x with
    | none => exact h.elim
    | some s =>
      simp only at h
      by_cases c : isSt (sget σ i) = true
      · rw [if_pos c] at h
        have hv := sget_st E (isSt_some c)
        obtain ⟨a, l, cc, rfl, h1, h2, h3, h4, h5⟩ := E.gr.some_of
        refine ⟨_, hv, a, .int s.at_, rfl, ?_, h _ F H (Ex.refl F) E .int⟩
        have q := DGet.k (k := .inr kAt) h1
        rw [get_at] at q
        exact q
      · rw [if_neg c] at h; exact h.elim
/-- state['cells'] -/
def SE.stCells (i : Nat) : SE K B where
  t := fun _ => tDGet (tVar i) (tC (.str kCells))
  f := fun σ x => match x with
    | some s => if isSt (sget σ i) = true then .ok (.lst (s.cells.map D.int)) x else .bad
    | none => .bad
  ok := fun g Φ F0 W F H τ σ x Q _ E h => by
    cases x with
    | none => exact h.elim
    | some s =>
      simp only at h
      by_cases c : isSt (sget σ i) = true
      · rw [if_pos c] at h
        have hv := sget_st E (isSt_some c)
        obtain ⟨a, l, cc, rfl, h1, h2, h3, h4, h5⟩ := E.gr.some_of
        refine ⟨_, hv, a, .ref cc, rfl, ?_, h _ F H (Ex.refl F) E (.lst h2 (Reps.ofInts _))⟩
        have q := DGet.k (k := .inr kCells) h1
        rw [get_cells] at q
        exact q
      · rw [if_neg c] at h; exact h.elim
/-- state['lefts'][e] -/
def SE.stLeft (i : Nat) (e : SE K B) : SE K B where
  t := fun W => tOp (rIxQ K) (tDGet (tVar i) (tC (.str kLefts))) (e.t W)
  f := fun σ x => match x with
    | some _ => if isSt (sget σ i) = true then (e.f σ x).bind fun d x1 => match d, x1 with
      | .int k, some s => R.ofo ((atI s.lefts k).map D.int) x1
      | _, _ => .bad else .bad
    | none => .bad
  ok := fun g Φ F0 W F H τ σ x Q hB E h => by
    cases x with
    | none => exact h.elim
    | some s =>
      simp only at h
      by_cases c : isSt (sget σ i) = true
      · rw [if_pos c] at h
        have hv := sget_st E (isSt_some c)
        obtain ⟨a, l, cc, rfl, h1, h2, h3, h4, h5⟩ := E.gr.some_of
        have q := DGet.k (k := .inr kLefts) h1
        rw [get_lefts] at q
        refine ⟨_, hv, a, .ref l, rfl, q, ?_⟩
        refine e.ok _ Φ F0 W F H τ σ _ _ hB E (Post.step h fun d x1 g1 v F1 H1 e1 E1 r1 => ?_)
        cases r1 with
        | int =>
          rename_i kk
          cases x1 with
          | none => exact g1.elim
          | some s1 =>
            simp only at g1
            obtain ⟨d, ed, q1⟩ := ofo_bad g1
            obtain ⟨n, en, rfl⟩ := Option.map_eq_some_iff.mp ed
            obtain ⟨a', l', cc', eg, k1, k2, k3, k4, k5⟩ := E1.gr.some_of
            cases eg
            refine .inl ⟨_, _, _, .int n, rfl, rfl, SqL.of k3, ?_, q1 _ F1 H1 e1 E1 .int⟩
            unfold atI at en ⊢
            rw [List.length_map]
            cases ej : ixN s1.lefts.length kk with
            | none => rw [ej] at en; cases en
            | some j =>
              rw [ej] at en
              show (s1.lefts.map V.int)[j]? = _
              rw [List.getElem?_map]
              have en' : s1.lefts[j]? = some n := en
              rw [en']; rfl
        | _ => exact g1.elim
      · rw [if_neg c] at h; exact h.elim
/-- state['at'] = e -/
def SS.stAt (i : Nat) (e : SE K B0) : SS K where
  t := fun W => sDPut (tVar i) (tC (.str kAt)) (e.t W)
  f := fun σ x => (e.f σ x).toO σ fun d x1 => match d, x1 with
    | .int n, some s => if isSt (sget σ i) = true then .nx σ (some { s with at_ := n }) else .bad
    | _, _ => .bad
  ok := fun g Φ F0 W F H τ σ x D E h => by
    refine e.ok g Φ F0 W F H τ σ x _ trivial E (PostS.stepR h fun d x1 h1 v F1 H1 e1 E1 r1 => ?_)
    cases r1 with
    | int =>
      rename_i n
      cases x1 with
      | none => exact h1.elim
      | some s =>
        simp only at h1
        by_cases c : isSt (sget σ i) = true
        · rw [if_pos c] at h1
          have hv := sget_st E1 (isSt_some c)
          obtain ⟨a, l, cc, rfl, k1, k2, k3, k4, k5⟩ := E1.gr.some_of
          refine ⟨_, hv, a, _, rfl, DPut.k (k := .inr kAt) k1 (by show 3 < sizeLine; rw [sizeLine_eq]; omega), ?_⟩
          rw [put_at]
          have hla : l ≠ a := fun z => by rw [z, k1] at k3; cases k3
          exact h1 F1 _ τ e1 (E1.gset (gfp_l (by simp [gfp0])) ⟨⟨upd_same, k2, by rw [upd_ne hla]; exact k3, k4, k5⟩, E1.gr.tb.upd k1 (fun _ z => by cases z) (fun _ _ z => by unfold LamX.CodeO at z; cases z)⟩)
        · rw [if_neg c] at h1; exact h1.elim
    | _ => exact h1.elim
/-- state['lefts'][ei] = e -/
def SS.stLeft (i : Nat) (ei e : SE K B0) : SS K where
  t := fun W => tAsg (e.t W) (gSub (tDGet (tVar i) (tC (.str kLefts))) (ei.t W) rSetL)
  f := fun σ x => (e.f σ x).toO σ fun d x1 => match d, x1 with
    | .int n, some _ => if isSt (sget σ i) = true then (ei.f σ x1).toO σ fun k x2 => match k, x2 with
      | .int k, some s => match ixN s.lefts.length k with
        | some j => .nx σ (some { s with lefts := s.lefts.set j n })
        | none => .bad
      | _, _ => .bad else .bad
    | _, _ => .bad
  ok := fun g Φ F0 W F H τ σ x D E h => by
    refine e.ok g Φ F0 W F H τ σ x _ trivial E (PostS.stepR h fun d x1 h1 v F1 H1 e1 E1 r1 => ?_)
    cases r1 with
    | int =>
      rename_i n
      cases x1 with
      | none => exact h1.elim
      | some s0 =>
        simp only at h1
        by_cases c : isSt (sget σ i) = true
        · rw [if_pos c] at h1
          have hv := sget_st E1 (isSt_some c)
          obtain ⟨a, l, cc, rfl, k1, k2, k3, k4, k5⟩ := E1.gr.some_of
          have q := DGet.k (k := .inr kLefts) k1
          rw [get_lefts] at q
          refine ⟨_, hv, a, .ref l, rfl, q, ?_⟩
          refine ei.ok _ Φ F0 W F1 H1 τ σ _ _ trivial E1 (Post.mono e1 (PostS.stepR (τ := τ) h1 fun k x2 h2 => h2) fun k x2 h2 w F2 H2 e2 E2 r2 => ?_)
          cases r2 with
          | int =>
            rename_i k
            cases x2 with
            | none => exact h2.elim
            | some s =>
              simp only at h2
              cases ej : ixN s.lefts.length k with
              | none => simp only [ej] at h2; exact h2.elim
              | some j =>
                simp only [ej] at h2
                obtain ⟨a', l', cc', eg, g1, g2, g3, g4, g5⟩ := E2.gr.some_of
                cases eg
                refine ⟨l, _, k, j, rfl, rfl, g3, by rw [List.length_map]; exact ej, ?_⟩
                have hal : a ≠ l := fun z => by rw [← z, g1] at g3; cases g3
                refine h2 F2 _ τ (e1.trans e2) (E2.gset (gfp_l (by simp [gfp0])) ⟨⟨by rw [upd_ne hal]; exact g1, g2, ?_, g4, g5⟩, E2.gr.tb.upd g3 (fun _ z => by cases z) (fun _ _ z => by unfold LamX.CodeO at z; cases z)⟩)
                rw [upd_same, ← List.map_set]
          | _ => exact h2.elim
        · rw [if_neg c] at h1; exact h1.elim
    | _ => exact h1.elim
end

/-! ### a dict of one's own with tuples of numbers as keys -/
section
variable {K : PySem.W.Frag} {B : Bs}
theorem kI_inj {a b : List Int} (h : kI a = kI b) : a = b := by
  unfold kI at h
  exact (List.map_inj_right (fun x y => Sum.inl.inj)).mp h
def dputF (l : List (List Int × D)) (k : List Int) (d : D) : List (List Int × D) :=
  if (l.any fun kv => decide (kv.1 = k)) = true then l.map (fun kv => if kv.1 = k then (kv.1, d) else kv) else l ++ [(k, d)]
def dgetF (l : List (List Int × D)) (k : List Int) : Option D := (l.find? fun kv => decide (kv.1 = k)).map (·.2)
theorem krep_any {sa : Addr} {F : Hp} {a : List (List L2.Key × V)} {b : List (List Int × D)} (h : KRep K sa F a b) (k : List Int) : (a.any fun kv => decide (kv.1 = kI k)) = (b.any fun kv => decide (kv.1 = k)) := by
  induction h using KRep.ind with
  | nil => rfl
  | @cons k' v d a b r t ih =>
    rw [List.any_cons, List.any_cons, ih]
    congr 1
    by_cases c : k' = k
    · subst c; simp
    · have c' : ¬ kI k' = kI k := fun z => c (kI_inj z)
      simp [c, c']
theorem krep_map {sa : Addr} {F : Hp} {a : List (List L2.Key × V)} {b : List (List Int × D)} (h : KRep K sa F a b) (k : List Int) {v : V} {d : D} (r : Rep K sa F v d) :
    KRep K sa F (a.map fun kv => if kv.1 = kI k then (kv.1, v) else kv) (b.map fun kv => if kv.1 = k then (kv.1, d) else kv) := by
  induction h using KRep.ind with
  | nil => exact .nil
  | @cons k' v' d' a b r' t ih =>
    rw [List.map_cons, List.map_cons]
    by_cases c : k' = k
    · subst c
      rw [if_pos rfl, if_pos rfl]
      exact .cons r ih
    · have c' : ¬ kI k' = kI k := fun z => c (kI_inj z)
      rw [if_neg c', if_neg c]
      exact .cons r' ih
theorem krep_snoc {sa : Addr} {F : Hp} {a : List (List L2.Key × V)} {b : List (List Int × D)} (h : KRep K sa F a b) (k : List Int) {v : V} {d : D} (r : Rep K sa F v d) : KRep K sa F (a ++ [(kI k, v)]) (b ++ [(k, d)]) := by
  induction h using KRep.ind with
  | nil => exact .cons r .nil
  | cons r' t ih => exact .cons r' ih
theorem krep_put {sa : Addr} {F : Hp} {a : List (List L2.Key × V)} {b : List (List Int × D)} (h : KRep K sa F a b) (k : List Int) {v : V} {d : D} (r : Rep K sa F v d) : KRep K sa F (putK a (kI k) v) (dputF b k d) := by
  unfold putK dputF
  rw [krep_any h k]
  by_cases c : (b.any fun kv => decide (kv.1 = k)) = true
  · rw [if_pos c, if_pos c]; exact krep_map h k r
  · rw [if_neg c, if_neg c]; exact krep_snoc h k r
theorem krep_get {sa : Addr} {F : Hp} {a : List (List L2.Key × V)} {b : List (List Int × D)} (h : KRep K sa F a b) (k : List Int) :
    (∃ v d, valV a (kI k) = some v ∧ dgetF b k = some d ∧ Rep K sa F v d) ∨ (valV a (kI k) = none ∧ dgetF b k = none) := by
  induction h using KRep.ind with
  | nil => exact .inr ⟨rfl, rfl⟩
  | @cons k' v' d' a b r' t ih =>
    by_cases c : k' = k
    · subst c
      refine .inl ⟨v', d', valV_pos rfl, ?_, r'⟩
      simp [dgetF]
    · have c' : ¬ kI k' = kI k := fun z => c (kI_inj z)
      have e1 : valV ((kI k', v') :: a) (kI k) = valV a (kI k) := valV_neg c'
      have e2 : dgetF ((k', d') :: b) k = dgetF b k := by simp [dgetF, List.find?_cons, c]
      rw [e1, e2]; exact ih
def sdic (σ : Sg) (i : Nat) : Option (List (List Int × D)) :=
  match σ[i]? with
  | some (some (.dic d)) => some d
  | _ => none
theorem sdic_some {σ : Sg} {i : Nat} {d : List (List Int × D)} (h : sdic σ i = some d) : σ[i]? = some (some (.dic d)) := by
  unfold sdic at h
  split at h
  · rename_i d' e; cases h; exact e
  · cases h
/-- a key -/
def keyD : D → Option (List Int)
  | .tup l => intsD l
  | _ => none
theorem key_rep {sa : Addr} {F H : Hp} {v : V} {d : D} {k : List Int} (e : Ex F H) (r : Rep K sa F v d) (h : keyD d = some k) : ∃ b, v = .ref b ∧ H b = some (.tup ((kI k).map L2.kV)) := by
  cases r with
  | tup s r =>
    have e1 := intsD_some (show intsD _ = some k from h)
    subst e1
    have := r.ints
    subst this
    refine ⟨_, rfl, ?_⟩
    have e2 : (kI k).map L2.kV = k.map V.int := by unfold kI; rw [List.map_map]; rfl
    rw [e2]
    exact e _ _ s
  | _ => cases h
/-- e in the dict of slot i, e not in it -/
def SE.inDic (i : Nat) (e : SE K B) (no : Bool) : SE K B where
  t := fun W => if no = true then tDNotIn (e.t W) (tVar i) else tDIn (e.t W) (tVar i)
  f := fun σ x => match sdic σ i with
    | none => .bad
    | some l => (e.f σ x).bind fun d x1 => match keyD d with
      | some k => .ok (.bl (if no = true then !(dgetF l k).isSome else (dgetF l k).isSome)) x1
      | none => .bad
  ok := fun g Φ F0 W F H τ σ x Q hB E h => by
    cases es : sdic σ i with
    | none => simp only [es] at h; exact h.elim
    | some l =>
      simp only [es] at h
      have key : e.t W τ H fun y H1 => ∃ u, τ[i]? = some (some u) ∧ ∃ a o, u = .ref a ∧ DGet H1 a y o ∧ Q (.bl (if no = true then !o.isSome else o.isSome)) H1 := by
        refine e.ok g Φ F0 W F H τ σ x _ hB E (Post.step h fun d x1 h1 v F1 H1 e1 E1 r1 => ?_)
        cases ek : keyD d with
        | none => simp only [ek] at h1; exact h1.elim
        | some k =>
          simp only [ek] at h1
          obtain ⟨u, g1, p, kv, rfl, g2, g3, g4⟩ := E1.get i _ (sdic_some es)
          obtain ⟨b, rfl, hb⟩ := key_rep E1.ex r1 ek
          refine ⟨_, g1, p, _, rfl, DGet.t g2 hb, ?_⟩
          rcases krep_get g3 k with ⟨v, d', q1, q2, _⟩ | ⟨q1, q2⟩
          · rw [q1]; rw [q2] at h1; exact h1 _ F1 H1 e1 E1 .bl
          · rw [q1]; rw [q2] at h1; exact h1 _ F1 H1 e1 E1 .bl
      cases no with
      | true => simp only [if_true] at key ⊢; exact key
      | false => simp only [Bool.false_eq_true, if_false] at key ⊢; exact key
/-- d[k] = e -/
def SS.dput (i : Nat) (ek e : SE K B0) : SS K where
  t := fun W => sDPut (tVar i) (ek.t W) (e.t W)
  f := fun σ x => match sdic σ i with
    | none => .bad
    | some l => (e.f σ x).toO σ fun d x1 => (ek.f σ x1).toO σ fun kd x2 => match keyD kd with
      | some k => if decide (l.length < 16777216) = true then .nx (σ.set i (some (.dic (dputF l k d)))) x2 else .bad
      | none => .bad
  ok := fun g Φ F0 W F H τ σ x D E h => by
    cases es : sdic σ i with
    | none => simp only [es] at h; exact h.elim
    | some l =>
      simp only [es] at h
      refine e.ok g Φ F0 W F H τ σ x _ trivial E (PostS.stepR h fun d x1 h1 v F1 H1 e1 E1 r1 => ?_)
      obtain ⟨u, g1, p, kv, rfl, _, _, _⟩ := E1.get i _ (sdic_some es)
      refine ⟨_, g1, ?_⟩
      refine ek.ok g Φ F0 W F1 H1 τ σ x1 _ trivial E1 (Post.mono e1 (PostS.stepR (τ := τ) h1 fun k x2 h2 => h2) fun kd x2 h2 w F2 H2 e2 E2 r2 => ?_)
      cases ey : keyD kd with
      | none => simp only [ey] at h2; exact h2.elim
      | some k =>
        simp only [ey] at h2
        by_cases c : decide (l.length < 16777216) = true
        · rw [if_pos c] at h2
          obtain ⟨u', g1', p', kv', rfl, k2, k3, k4⟩ := E2.get i _ (sdic_some es)
          rw [g1] at g1'; cases g1'
          obtain ⟨b, rfl, hb⟩ := key_rep E2.ex r2 ey
          have hl : kv'.length = l.length := by
            have key : ∀ {a : List (List L2.Key × V)} {b : List (List Int × Yx.D)}, KRep K (gsa g) F2 a b → a.length = b.length := by
              intro a b r
              induction r using KRep.ind with
              | nil => rfl
              | cons _ _ ih => simp [ih]
            exact key k3
          refine ⟨p, _, rfl, DPut.t k2 hb (by rw [hl, sizeLine_eq]; exact of_decide_eq_true c), ?_⟩
          exact h2 F2 _ τ (e1.trans e2) (E2.write i (sdic_some es) g1 rfl rfl k4 ⟨p, _, rfl, upd_same, krep_put k3 k (r1.mono e2), k4⟩)
        · rw [if_neg c] at h2; exact h2.elim
end
/-- {k: v}, k a tuple of numbers -/
def tDispT1 (tk tv : TE) : TE := fun σ H Q => ∀ p, H p = none → tPairs [(tk, tv)] σ (upd H p (.dT [])) fun ps H2 => ∃ x y b ks, ps = [(x, y)] ∧ H2 p = some (.dT []) ∧ x = .ref b ∧ H2 b = some (.tup (ks.map L2.kV)) ∧ Q (.ref p) (upd H2 p (.dT [(ks, y)]))
end Yx

namespace Yx
variable [Tb] [Cb]
open PySem L2 RZ

/-! ### a, b = e1, e2 and a, b, c = e1, e2, e3, things of one's own among them -/
section
variable {K : PySem.W.Frag} {B : Bs} {g : GA} {Φ F0 F H : Hp} {τ : L2.St} {σ : Sg} {x : Option Gst}
theorem Env.poke {p : Addr} {u o : HO} (E : Env K g Φ F0 F H τ σ x) (hu : H p = some u) (hk : ∀ c q, u ≠ LamX.CodeO c q) (fr : Fresh g Φ F τ σ p) : Env K g Φ F0 F (upd H p o) τ σ x where
  ex := E.ex.mut fr.f
  f0 := E.f0
  fr := E.fr.mut fr.ph
  dj := E.dj
  len := E.len
  get := fun i s h => by
    obtain ⟨v, h1, h2⟩ := E.get i s h
    refine ⟨v, h1, ?_⟩
    cases s with
    | dat d => exact h2
    | own ds =>
      obtain ⟨q, vs, rfl, b2, b3, b4⟩ := h2
      exact ⟨q, vs, rfl, by rw [upd_ne (fun z => fr.o i _ h rfl (by rw [h1, z]))]; exact b2, b3, b4⟩
    | dic ds =>
      obtain ⟨q, vs, rfl, b2, b3, b4⟩ := h2
      exact ⟨q, vs, rfl, by rw [upd_ne (fun z => fr.o i _ h rfl (by rw [h1, z]))]; exact b2, b3, b4⟩
    | dik ds =>
      obtain ⟨q, vs, rfl, b2, b3, b4⟩ := h2
      exact ⟨q, vs, rfl, by rw [upd_ne (fun z => fr.o i _ h rfl (by rw [h1, z]))]; exact b2, b3, b4⟩
    | clo => exact ⟨h2.1, h2.2.1, code_upd hu hk _ _ h2.2.2.1, h2.2.2.2⟩
  own := E.own
  dis := E.dis
  gr := E.gr.mono (Ex.refl F) (fun a ha => (E.gr.on a ha).2) (fun a ha => upd_ne (fun z => fr.g (by rw [← z]; exact ha))) (code_upd hu hk) E.gr.tb.nf
  gf := E.gf
  np := E.np
/-- what was made: data, or things of one's own, apart from each other -/
inductive PRep (K : PySem.W.Frag) (g : GA) (F H : Hp) (τ : L2.St) (σ : Sg) : Hp → List V → List Sl → Prop
  | nil {Φ : Hp} : PRep K g F H τ σ Φ [] []
  | dat {Φ : Hp} {v : V} {d : D} {vs : List V} {ss : List Sl} : Rep K (gsa g) F v d → PRep K g F H τ σ Φ vs ss → PRep K g F H τ σ Φ (v :: vs) (.dat d :: ss)
  | own {Φ : Hp} {p : Addr} {o : HO} {s : Sl} {vs : List V} {ss : List Sl} : s.mut = true → H p = some o → SlRep K (gsa g) F H (.ref p) s → Fresh g Φ F τ σ p → PRep K g F H τ σ (upd Φ p o) vs ss → PRep K g F H τ σ Φ (.ref p :: vs) (s :: ss)
def QX (K : PySem.W.Frag) (g : GA) (Φ F0 F : Hp) (τ : L2.St) (σ : Sg) (Q : List V → Hp → Prop) (ss : List Sl) (x : Option Gst) : Prop :=
  ∀ vs F' H', Ex F F' → Env K g Φ F0 F' H' τ σ x → PRep K g F' H' τ σ Φ vs ss → Q vs H'
theorem Post.frame {Φ' : Hp} {α : Type} {W : WX} {q q' : α → Option Gst → Prop} {r : R α} (e : Ex Φ Φ') (h : Post K g Φ F0 W F τ σ q r) (hq : ∀ a x, q a x → q' a x) : Post K g Φ' F0 W F τ σ q' r := by
  cases r with
  | ok a x => exact hq a x h
  | exc C y x => exact fun F' H' dd e1 E r => h F' H' dd e1 (E.drop e) r
  | bad => exact h
end
structure SX (K : PySem.W.Frag) where
  t : WX → TA
  f : Sg → Option Gst → R (List Sl)
  ok : ∀ g Φ F0 W F H τ σ x Q, Env K g Φ F0 F H τ σ x → Post K g Φ F0 W F τ σ (QX K g Φ F0 F τ σ Q) (f σ x) → t W τ H Q
section
variable {K : PySem.W.Frag}
def SX.nil : SX K where
  t := fun _ => tNil
  f := fun _ x => .ok [] x
  ok := fun g Φ F0 W F H τ σ x Q E q => q [] F H (Ex.refl F) E .nil
def SX.cons (a : SE K B0) (r : SX K) : SX K where
  t := fun W => tCons (a.t W) (r.t W)
  f := fun σ x => (a.f σ x).bind fun d x1 => (r.f σ x1).bind fun ss x2 => .ok (.dat d :: ss) x2
  ok := fun g Φ F0 W F H τ σ x Q E h => by
    refine a.ok g Φ F0 W F H τ σ x _ trivial E (Post.step h fun d x1 h1 v F1 H1 e1 E1 r1 => ?_)
    refine r.ok g Φ F0 W F1 H1 τ σ x1 _ E1 (Post.mono e1 (Post.step h1 fun d2 x2 h2 => h2) fun ss x2 h2 vs F2 H2 e2 E2 r2 => ?_)
    exact h2 (v :: vs) F2 H2 (e1.trans e2) E2 (.dat (r1.mono e2) r2)
/-- behind a thing of one's own -/
theorem own_then (r : SX K) {g : GA} {Φ F0 F F1 H1 : Hp} {W : WX} {τ : L2.St} {σ : Sg} {x1 : Option Gst} {p : Addr} {o : HO} {s : Sl} {Q : List V → Hp → Prop} (m : s.mut = true) (e1 : Ex F F1) (E1 : Env K g Φ F0 F1 H1 τ σ x1) (hp : H1 p = some o) (fr : Fresh g Φ F1 τ σ p)
    (keep : ∀ F2 H2, Ex F1 F2 → H2 p = some o → F2 p = none → SlRep K (gsa g) F2 H2 (.ref p) s)
    (h : Post K g Φ F0 W F τ σ (QX K g Φ F0 F τ σ Q) ((r.f σ x1).bind fun ss x2 => .ok (s :: ss) x2)) : r.t W τ H1 fun vs H2 => Q (.ref p :: vs) H2 := by
  have ef : Ex Φ (upd Φ p o) := Ex.new fr.ph
  have ntp : nTup o := by
    intro vs z
    subst z
    have f0 : F1 p = none := fr.f
    have q := keep F1 H1 (Ex.refl F1) hp f0
    obtain ⟨_, u, e1', e2', _⟩ := q.at m
    cases e1'
    cases s with
    | dat d => cases m
    | own ds => obtain ⟨_, _, z1, z2, _⟩ := q; cases z1; rw [hp] at z2; cases z2
    | dic ds => obtain ⟨_, _, z1, z2, _⟩ := q; cases z1; rw [hp] at z2; cases z2
    | dik ds => obtain ⟨_, _, z1, z2, _⟩ := q; cases z1; rw [hp] at z2; cases z2
    | clo => cases m
  have nt : ∀ ps, o ≠ .tbl ps := by
    obtain ⟨q, u, e2, e3, e4, _⟩ := (keep F1 H1 (Ex.refl F1) hp fr.f).kind m
    cases e2
    rw [hp] at e3; cases e3
    exact e4
  have E1' := E1.lift hp fr nt
  refine r.ok g (upd Φ p o) F0 W F1 H1 τ σ x1 _ E1' ?_
  have h' : Post K g Φ F0 W F1 τ σ (fun ss x2 => QX K g Φ F0 F τ σ Q (s :: ss) x2) (r.f σ x1) := Post.mono e1 (Post.step h fun ss x2 h2 => h2) fun ss x2 h2 => h2
  refine Post.frame ef h' fun ss x2 h2 vs F2 H2 e2 E2 r2 => ?_
  have hp2 : H2 p = some o := E2.fr p o upd_same
  have hf0 : F0 p = none := E1.f0.back fr.f
  have hF2 : F2 p = none := E2.dj p o ntp upd_same hf0
  exact h2 (.ref p :: vs) F2 H2 (e1.trans e2) (E2.drop ef) (.own m hp2 (keep F2 H2 e2 hp2 hF2) ⟨hF2, fr.ph, fr.g, fr.o⟩ r2)
def SX.consN (a : SN K B0) (r : SX K) : SX K where
  t := fun W => tCons (a.t W) (r.t W)
  f := fun σ x => (a.f σ x).bind fun ds x1 => (r.f σ x1).bind fun ss x2 => .ok (.own ds :: ss) x2
  ok := fun g Φ F0 W F H τ σ x Q E h => by
    refine a.ok g Φ F0 W F H τ σ x _ trivial E (Post.step h fun ds x1 h1 p vs F1 H1 e1 E1 hp fr r1 => ?_)
    exact own_then r (s := .own ds) rfl e1 E1 hp fr (fun F2 H2 e2 h2 f2 => ⟨p, vs, rfl, h2, r1.mono e2, f2⟩) h1
/-- {k: v} that will change, ahead of the rest -/
def SX.consD (k v : SE K B0) (r : SX K) : SX K where
  t := fun W => tCons (tDispT1 (k.t W) (v.t W)) (r.t W)
  f := fun σ x => (k.f σ x).bind fun kd x1 => (v.f σ x1).bind fun d x2 => match keyD kd with
    | some kk => (r.f σ x2).bind fun ss x3 => .ok (.dic [(kk, d)] :: ss) x3
    | none => .bad
  ok := fun g Φ F0 W F H τ σ x Q E h => by
    intro p hp
    have fr := E.fresh hp
    have ef : Ex Φ (upd Φ p (.dT [])) := Ex.new fr.ph
    have E0 := (E.al (Al.newO (o := .dT []) E.ex hp)).lift upd_same fr
    refine k.ok g (upd Φ p (.dT [])) F0 W F _ τ σ x _ trivial E0 ?_
    refine Post.frame (q := fun kd x1 => Post K g Φ F0 W F τ σ (QX K g Φ F0 F τ σ Q) ((v.f σ x1).bind fun d x2 => match keyD kd with
      | some kk => (r.f σ x2).bind fun ss x3 => .ok (.dic [(kk, d)] :: ss) x3
      | none => .bad)) ef (Post.step h fun kd x1 h1 => h1) fun kd x1 h1 vk F1 H1 e1 E1 r1 => ?_
    refine v.ok g (upd Φ p (.dT [])) F0 W F1 H1 τ σ x1 _ trivial E1 ?_
    refine Post.frame ef (Post.mono (q1 := fun d x2 => Post K g Φ F0 W F τ σ (QX K g Φ F0 F τ σ Q) (match keyD kd with
      | some kk => (r.f σ x2).bind fun ss x3 => .ok (.dic [(kk, d)] :: ss) x3
      | none => .bad)) e1 (Post.step h1 fun d x2 h2 => h2) fun _ _ z => z) fun d x2 h2 vv F2 H2 e2 E2 r2 => ?_
    cases ek : keyD kd with
    | none => simp only [ek] at h2; exact h2.elim
    | some kk =>
      simp only [ek] at h2
      obtain ⟨b, rfl, hb⟩ := key_rep E2.ex (r1.mono e2) ek
      have hp2 : H2 p = some (.dT []) := E2.fr p _ upd_same
      have hf0 : F0 p = none := E.f0.back fr.f
      have hF2 : F2 p = none := E2.dj p _ (by intro _ z; cases z) upd_same hf0
      have E2' := E2.drop ef
      have fr2 : Fresh g Φ F2 τ σ p := ⟨hF2, fr.ph, fr.g, fr.o⟩
      refine ⟨_, vv, b, kI kk, rfl, hp2, rfl, hb, ?_⟩
      exact own_then r (s := .dic [(kk, d)]) rfl (e1.trans e2) (E2'.poke hp2 (fun _ _ z => by unfold LamX.CodeO at z; cases z) fr2) upd_same fr2 (fun F3 H3 e3 h3 f3 => ⟨p, _, rfl, h3, .cons (r2.mono e3) .nil, f3⟩) h2
end
section
variable {K : PySem.W.Frag} {g : GA} {Φ F0 F H : Hp} {τ : L2.St} {σ : Sg} {x : Option Gst}
/-- the slots, one behind the other -/
def setAll {α : Type} (l : List (Option α)) : List Nat → List α → List (Option α)
  | i :: is, a :: as => setAll (l.set i (some a)) is as
  | _, _ => l
theorem Fresh.set {Φ' : Hp} {i : Nat} {v : V} {s : Sl} {q : Addr} (fr : Fresh g Φ' F τ σ q) (h : s.mut = true → v ≠ .ref q) : Fresh g Φ' F (τ.set i (some v)) (σ.set i (some s)) q where
  f := fr.f
  ph := fr.ph
  g := fr.g
  o := fun j t h1 h2 h3 => by
    rcases get_set h1 with ⟨rfl, e, hi⟩ | ⟨c, h1'⟩
    · cases e
      rcases get_set h3 with ⟨_, e, _⟩ | ⟨c, _⟩
      · cases e; exact h h2 rfl
      · exact c rfl
    · rcases get_set h3 with ⟨c', _⟩ | ⟨_, h3'⟩
      · exact c c'
      · exact fr.o j t h1' h2 h3'
theorem PRep.set {i : Nat} {v : V} {s : Sl} : ∀ {Φ' : Hp} {vs : List V} {ss : List Sl}, PRep K g F H τ σ Φ' vs ss → (s.mut = true → ∃ p o, v = .ref p ∧ Φ' p = some o) → PRep K g F H (τ.set i (some v)) (σ.set i (some s)) Φ' vs ss
  | _, _, _, .nil, _ => .nil
  | _, _, _, .dat r t, hd => .dat r (PRep.set t hd)
  | _, _, _, .own (p := p) (o := o) m hp r fr t, hd => by
    refine .own m hp r (fr.set fun hm e => ?_) (PRep.set t fun hm => ?_)
    · obtain ⟨q, o', e1, e2⟩ := hd hm
      rw [e1] at e; cases e
      rw [fr.ph] at e2; cases e2
    · obtain ⟨q, o', e1, e2⟩ := hd hm
      by_cases c : q = p
      · subst c; rw [fr.ph] at e2; cases e2
      · exact ⟨q, o', e1, by rw [upd_ne c]; exact e2⟩
theorem par_env : ∀ {Φ' : Hp} {vs : List V} {ss : List Sl} {τ : L2.St} {σ : Sg} (is : List Nat), Ex Φ Φ' → Env K g Φ F0 F H τ σ x → PRep K g F H τ σ Φ' vs ss → Env K g Φ F0 F H (setAll τ is vs) (setAll σ is ss) x
  | _, _, _, _, _, [], _, E, p => by cases p <;> exact E
  | _, _, _, _, _, i :: is, _, E, .nil => E
  | _, _, _, _, _, i :: is, ex, E, .dat r t => par_env is ex (E.set i r) (t.set fun m => nomatch m)
  | _, _, _, _, _, i :: is, ex, E, .own (p := p) (o := o) m hp r fr t => by
    have fr' : Fresh g Φ F _ _ p := ⟨fr.f, ex.back fr.ph, fr.g, fr.o⟩
    exact par_env is (ex.trans (Ex.new fr.ph)) (E.setO i m fr' r) (t.set fun _ => ⟨p, o, rfl, upd_same⟩)
def SS.par2 (i j : Nat) (a : SX K) : SS K where
  t := fun W => tPar i j (a.t W)
  f := fun σ x => (a.f σ x).toO σ fun ss x1 => if ss.length = 2 then .nx (setAll σ [i, j] ss) x1 else .bad
  ok := fun g Φ F0 W F H τ σ x D E h => by
    refine a.ok g Φ F0 W F H τ σ x _ E (PostS.stepR h fun ss x1 h1 vs F1 H1 e1 E1 r1 => ?_)
    by_cases c : ss.length = 2
    · rw [if_pos c] at h1
      have E2 := par_env [i, j] (Ex.refl Φ) E1 r1
      have hl : vs.length = ss.length := by
        have key : ∀ {Φ' : Hp} {vs : List V} {ss : List Sl}, PRep K g F1 H1 τ σ Φ' vs ss → vs.length = ss.length := by
          intro Φ' vs ss r
          induction r with
          | nil => rfl
          | dat _ _ ih => simp [ih]
          | own _ _ _ _ _ ih => simp [ih]
        exact key r1
      match vs, hl with
      | [v, w], _ => exact ⟨v, w, rfl, h1 F1 H1 _ e1 E2⟩
      | [], hl => rw [c] at hl; cases hl
      | [_], hl => rw [c] at hl; cases hl
      | _ :: _ :: _ :: _, hl => rw [c] at hl; simp at hl
    · rw [if_neg c] at h1; exact h1.elim
def SS.par3 (i j l : Nat) (a : SX K) : SS K where
  t := fun W => tPar3 i j l (a.t W)
  f := fun σ x => (a.f σ x).toO σ fun ss x1 => if ss.length = 3 then .nx (setAll σ [i, j, l] ss) x1 else .bad
  ok := fun g Φ F0 W F H τ σ x D E h => by
    refine a.ok g Φ F0 W F H τ σ x _ E (PostS.stepR h fun ss x1 h1 vs F1 H1 e1 E1 r1 => ?_)
    by_cases c : ss.length = 3
    · rw [if_pos c] at h1
      have E2 := par_env [i, j, l] (Ex.refl Φ) E1 r1
      have hl : vs.length = ss.length := by
        have key : ∀ {Φ' : Hp} {vs : List V} {ss : List Sl}, PRep K g F1 H1 τ σ Φ' vs ss → vs.length = ss.length := by
          intro Φ' vs ss r
          induction r with
          | nil => rfl
          | dat _ _ ih => simp [ih]
          | own _ _ _ _ _ ih => simp [ih]
        exact key r1
      match vs, hl with
      | [u, v, w], _ => exact ⟨u, v, w, rfl, h1 F1 H1 _ e1 E2⟩
      | [], hl => rw [c] at hl; cases hl
      | [_], hl => rw [c] at hl; cases hl
      | [_, _], hl => rw [c] at hl; cases hl
      | _ :: _ :: _ :: _ :: _, hl => rw [c] at hl; simp at hl
    · rw [if_neg c] at h1; exact h1.elim
end
end Yx

namespace Yx
variable [Tb] [Cb]
open PySem L2 RZ PyProof.Rows

/-! ### t[lo:hi:-1] of a tuple -/
def rvIx (lo hi : Option Int) (n : Nat) : Int × Nat := ((Builtin.Slice.sliceAdjust lo hi (-1) (n : Int)).1, Builtin.Slice.slicePlaces (Builtin.Slice.sliceAdjust lo hi (-1) (n : Int)).1 (Builtin.Slice.sliceAdjust lo hi (-1) (n : Int)).2 (-1))
def cutR {α : Type} (xs : List α) (lo hi : Option Int) : List α := (List.range (rvIx lo hi xs.length).2).filterMap fun (k : Nat) => xs[((rvIx lo hi xs.length).1 + (k : Int) * (-1)).toNat]?
section
variable {prog : Program} {w : World} {A : Around} {E : Value → Shared → Prop} {s : Shared}
theorem part_of {v : Value} {o : Option Int} {Q : Option Int → Shared → Prop} (p : IsPart v o) (h : Q o s) : wpAny (model prog w) A (Builtin.Slice.slicePartIndex v) Q E s := HT.slicePart_ p h
theorem applied_rev {sl : Addr} {vl vu vs : Value} {lo hi : Option Int} {n : Nat} {Q : Int × Int × Nat → Shared → Prop} (hs : s.heap.IsSliceOf sl vl vu vs) (pl : IsPart vl lo) (pu : IsPart vu hi) (ps : IsPart vs (some (-1)))
    (h : Q ((rvIx lo hi n).1, -1, (rvIx lo hi n).2) s) : wpAny (model prog w) A (Builtin.Slice.sliceApplied (.ref sl) (pure (n : Int))) Q E s := by
  obtain ⟨os, hos, hcs, hds⟩ := id hs
  unfold Builtin.Slice.sliceApplied Builtin.Slice.sliceFields
  refine wpAny_bind (wpAny_bind (wpAny_field hos hds (x := vl) rfl (wpAny_bind (wpAny_field hos hds (x := vu) rfl (wpAny_bind (wpAny_field hos hds (x := vs) rfl (wpAny_pure ?_)))))))
  refine wpAny_bind (part_of ps ?_)
  show wpAny _ _ (if ((-1 : Int) == 0) = true then _ else _) _ _ s
  rw [if_neg (by decide)]
  exact wpAny_bind (part_of pl (wpAny_bind (part_of pu (wpAny_bind (wpAny_pure (wpAny_pure h))))))
theorem getItem_tuple_rev {t sl : Addr} {items : Array Value} {vl vu vs : Value} {lo hi : Option Int} {Q : Value → Shared → Prop} (ht : IsTup s.heap t items) (hs : s.heap.IsSliceOf sl vl vu vs) (pl : IsPart vl lo) (pu : IsPart vu hi) (ps : IsPart vs (some (-1)))
    (hsz : (cutR items.toList lo hi).length ≤ sizeLine)
    (h : Q (.ref s.heap.objs.size) { s with heap := s.heap.push { cls := .type "tuple", data := .seq (cutR items.toList lo hi).toArray } }) : wpAny (model prog w) A (getItem (.ref t) (.ref sl)) Q E s := by
  obtain ⟨os, hos, hcs, hds⟩ := id hs
  have hTs : s.TypeIs (.ref sl) "slice" := ⟨os, hos, hcs⟩
  have htT : s.TypeIs (.ref t) "tuple" := by obtain ⟨o, ho, hc, _⟩ := ht; exact ⟨o, ho, hc⟩
  unfold getItem
  try with_reducible refine wpAny_holding ?_
  first | refine wpAny_bind (wpAny_pure ?_) | skip
  refine wpAny_bind (wpAny_sequenceKey htT (by decide) ?_)
  refine wpAny_bind (wpAny_callSpecial?_slot (name := Str.ofString "__getitem__") htT PyProof.Rows.slot_tuple_getitem
    (wpAny_call_entry PyProof.Rows.slot_tuple_getitem htT PyProof.Rows.entry_tuple_getitem ?_ (PyProof.Rows.args_tuple_getitem _ _)))
  show wpAny _ _ (Builtin.Tuple.tupleItemsOf (.ref t) >>= _) _ _ s
  refine wpAny_bind (PyProof.Rows.tupleItemsOf_ ht ?_)
  refine wpAny_bind (wpAny_typeOf hTs ?_)
  rw [if_pos (by decide)]
  refine wpAny_bind (applied_rev hs pl pu ps ?_)
  show wpAny _ _ (if ((rvIx lo hi items.size).1 == 0 && (-1 : Int) == 1 && (rvIx lo hi items.size).2 == items.size) = true then _ else _) _ _ s
  rw [if_neg (by simp)]
  have e : ((List.range (rvIx lo hi items.size).2).filterMap fun (k : Nat) => items[((rvIx lo hi items.size).1 + (k : Int) * (-1)).toNat]?).toArray = (cutR items.toList lo hi).toArray := by
    unfold cutR
    rw [Array.length_toList]
    simp
  rw [e]
  have hz : sizeOk (.seq (cutR items.toList lo hi).toArray) := by show (cutR items.toList lo hi).toArray.size ≤ sizeLine; rw [List.size_toArray]; exact hsz
  first
    | exact wpAny_bind (m := Builtin.Tuple.tupleExact _) (wpAny_newObj_type (wpAny_pure ⟨_, rfl, wpAny_pure h⟩) hz)
    | exact wpAny_bind (m := Builtin.Tuple.tupleExact _) (wpAny_newObj_type (wpAny_bind (wpAny_pure (wpAny_pure ⟨_, rfl, wpAny_pure h⟩))) hz)
    | exact wpAny_bind (wpAny_bind (m := Builtin.Tuple.tupleExact _) (wpAny_newObj_type (wpAny_pure (wpAny_pure ⟨_, rfl, wpAny_pure h⟩)) hz))
    | exact wpAny_bind (wpAny_bind (m := Builtin.Tuple.tupleExact _) (wpAny_newObj_type (wpAny_pure ⟨_, rfl, wpAny_pure h⟩) hz))
end
def tRvT (K : PySem.W.Frag) (te : TE) (tl th : TO) : TE := fun σ H Q => te σ H fun x H1 => tl σ H1 fun lo H2 => th σ H2 fun hi H3 => ∃ a xs, x = .ref a ∧ SqT K H3 a xs ∧ (cutR xs lo hi).length ≤ sizeLine ∧ ∀ p, H3 p = none → Q (.ref p) (upd H3 p (.tup (cutR xs lo hi)))
theorem vals_cut {xs : List V} {us : List Value} (r : Vals xs us) (lo hi : Option Int) : Vals (cutR xs lo hi) (cutR us lo hi) := by
  unfold cutR
  rw [r.length]
  generalize (rvIx lo hi us.length).2 = n
  generalize (rvIx lo hi us.length).1 = a
  have key : ∀ l : List Nat, Vals (l.filterMap fun (k : Nat) => xs[(a + (k : Int) * (-1)).toNat]?) (l.filterMap fun (k : Nat) => us[(a + (k : Int) * (-1)).toNat]?) := by
    intro l
    induction l with
    | nil => exact .nil
    | cons k l ih =>
      rw [List.filterMap_cons, List.filterMap_cons]
      have hl := r.length
      by_cases c : (a + (k : Int) * (-1)).toNat < xs.length
      · have h2 : xs[(a + (k : Int) * (-1)).toNat]? = some xs[(a + (k : Int) * (-1)).toNat] := List.getElem?_eq_getElem c
        obtain ⟨u, hu, ru⟩ := r.get h2
        rw [h2, hu]
        exact .cons ru ih
      · rw [List.getElem?_eq_none (by omega), List.getElem?_eq_none (by omega)]
        exact ih
  exact key _
theorem pe_rvT {X : Cx} {e : Expr} {lo hi : Option Expr} {te : TE} {tl th : TO} {k : Nat} {p1 p2 p3 pos : Pos} (he : PE X e te) (hl : PO X lo tl) (hu : PO X hi th) :
    PE X (.Subscript e (.Slice lo hi (some (.UnaryOp .USub (.Constant (.int 1) k p1) p2)) p3) pos) (tRvT X.K te tl th) := by
  refine ⟨fun pins s σ H Q I h => ?_⟩
  refine Subscript_ (thn (he.run pins s σ H _ I h) fun v s1 ⟨x, H1, I1, r1, q1⟩ => ?_)
  have hst : PO X (some (.UnaryOp .USub (.Constant (.int 1) k p1) p2)) (tPart (tUn (rU fun i => .int (-i)) (tC (.int 1)))) := po_some (pe_un un_neg pe_int)
  refine wpAny_Slice (thn (hl.run pins s1 σ H1 _ I1 q1) fun vl s2 ⟨l, H2, I2, pl, q2⟩ => ?_)
  refine thn (hu.run pins s2 σ H2 _ I2 q2) fun vu s3 ⟨u, H3, I3, pu, a, xs, ex, hx, hz, q⟩ => ?_
  refine thn (hst.run pins s3 σ H3 (fun o H4 => o = some (-1) ∧ H4 = H3) I3 ⟨1, rfl, -1, rfl, rfl, rfl⟩) fun vs s4 ⟨o, H4, I4, ps, eo, e4⟩ => ?_
  subst eo e4 ex
  cases r1
  have I5 : Inv X pins σ H4 { s4 with heap := s4.heap.push { cls := .type "slice", data := .fields #[vl, vu, vs] } } := I4.kept (t' := s4.toks) fun b ob q => Heap.get?_push_of_some _ q
  obtain ⟨its, r, ht, _⟩ := I5.tuple hx
  have vc := vals_cut r l u
  have hT : (⟨s4.heap.push { cls := .type "slice", data := .fields #[vl, vu, vs] }, s4.gens, s4.drawn, s4.toks, s4.os⟩ : Shared).TypeIs (.ref a) "tuple" := by obtain ⟨o, ho, hc, _⟩ := ht; exact ⟨o, ho, hc⟩
  show wpAny (model X.prog X.w) X.A (subscriptTail e (.Slice lo hi (some (.UnaryOp .USub (.Constant (.int 1) k p1) p2)) p3) (.ref a) (.ref s4.heap.objs.size)) (EP X pins σ Q) X.xe { s4 with heap := s4.heap.push { cls := .type "slice", data := .fields #[vl, vu, vs] } }
  refine PyProof.Rows.tail_any (ops := [.ref a, .ref s4.heap.objs.size]) hT PyProof.Rows.slot_tuple_getitem.lookup ?_ (by with_unfolding_all rfl)
  refine getItem_tuple_rev ht (Heap.IsSliceOf.new _ vl vu vs) pl pu ps (by rw [← vc.length]; exact hz) ?_
  refine ⟨.ref _, _, I5.laid (t' := s4.toks) (o := .tup (cutR xs l u)) (fun b ob q => Heap.get?_push_of_some _ q) (Nat.le_refl _) ?_, rfl, q _ (I5.hok.fresh (Nat.le_refl _))⟩
  exact ⟨hz, _, vc, ⟨_, Heap.get?_push_size _ rfl, rfl, _, rfl⟩⟩
section
variable {K : PySem.W.Frag} {B : Bs}
theorem reps_cut {sa : Addr} {F : Hp} {vs : List V} {ds : List D} (r : Reps K sa F vs ds) (lo hi : Option Int) : Reps K sa F (cutR vs lo hi) (cutR ds lo hi) := by
  unfold cutR
  have hl := r.length
  rw [hl]
  generalize (rvIx lo hi ds.length).2 = n
  generalize (rvIx lo hi ds.length).1 = a
  have key : ∀ l : List Nat, Reps K sa F (l.filterMap fun (k : Nat) => vs[(a + (k : Int) * (-1)).toNat]?) (l.filterMap fun (k : Nat) => ds[(a + (k : Int) * (-1)).toNat]?) := by
    intro l
    induction l with
    | nil => exact .nil
    | cons k l ih =>
      rw [List.filterMap_cons, List.filterMap_cons]
      by_cases c : (a + (k : Int) * (-1)).toNat < ds.length
      · have h2 : ds[(a + (k : Int) * (-1)).toNat]? = some ds[(a + (k : Int) * (-1)).toNat] := List.getElem?_eq_getElem c
        obtain ⟨u, hu, ru⟩ := r.get h2
        rw [h2, hu]
        exact .cons ru ih
      · rw [List.getElem?_eq_none (by omega), List.getElem?_eq_none (by omega)]
        exact ih
  exact key _
/-- t[lo:hi:-1] -/
def SE.rv (a : SE K B) (lo hi : SO K B) : SE K B where
  t := fun W => tRvT K (a.t W) (lo.t W) (hi.t W)
  f := fun σ x => (a.f σ x).bind fun d x1 => (lo.f σ x1).bind fun l x2 => (hi.f σ x2).bind fun u x3 => match d with
    | .tup ds => if szOk (cutR ds l u).length = true then .ok (.tup (cutR ds l u)) x3 else .bad
    | _ => .bad
  ok := fun g Φ F0 W F H τ σ x Q hB E h => by
    refine a.ok g Φ F0 W F H τ σ x _ hB E (Post.step h fun d x1 h1 v F1 H1 e1 E1 r1 => ?_)
    refine lo.ok g Φ F0 W F1 H1 τ σ x1 _ (B.mono _ _ _ _ e1 hB) E1 (Post.mono e1 (Post.step h1 fun l x2 h2 => h2) fun l x2 h2 F2 H2 e2 E2 => ?_)
    have e12 := e1.trans e2
    refine hi.ok g Φ F0 W F2 H2 τ σ x2 _ (B.mono _ _ _ _ e12 hB) E2 (Post.mono e12 (Post.step h2 fun l x2 h2 => h2) fun u x3 h3 F3 H3 e3 E3 => ?_)
    have e13 := e12.trans e3
    have r3 := r1.mono (e2.trans e3)
    cases r3 with
    | tup s r =>
      simp only at h3
      by_cases c : szOk (cutR ‹List D› l u).length = true
      · rw [if_pos c] at h3
        have rc := reps_cut r l u
        refine ⟨_, _, rfl, SqT.of (E3.ex _ _ s), by rw [rc.length]; exact szOk_le c, fun p hp => ?_⟩
        have al := Al.new (o := .tup (cutR ‹List V› l u)) E3.ex hp
        exact h3 _ _ _ (e13.trans al.f) (E3.al al) (.tup upd_same (rc.mono al.f))
      · rw [if_neg c] at h3; exact h3.elim
    | _ => exact h3.elim
end
theorem fm_congr {α β : Type} {f g : α → Option β} : ∀ {l : List α}, (∀ x ∈ l, f x = g x) → l.filterMap f = l.filterMap g
  | [], _ => rfl
  | x :: l, h => by
    rw [List.filterMap_cons, List.filterMap_cons, h x List.mem_cons_self, fm_congr fun y hy => h y (List.mem_cons_of_mem _ hy)]
theorem cutR_rev {α : Type} (xs : List α) : cutR xs none none = xs.reverse := by
  unfold cutR rvIx
  have e1 : (Builtin.Slice.sliceAdjust none none (-1) (xs.length : Int)) = ((xs.length : Int) - 1, -1) := rfl
  rw [e1]
  have e2 : Builtin.Slice.slicePlaces ((xs.length : Int) - 1) (-1) (-1) = xs.length := by
    unfold Builtin.Slice.slicePlaces
    simp
    omega
  rw [e2]
  have key : ∀ (n : Nat) (ys : List α), n = ys.length → ((List.range n).filterMap fun (k : Nat) => ys[((n : Int) - 1 + (k : Int) * (-1)).toNat]?) = ys.reverse := by
    intro n
    induction n with
    | zero => intro ys h; have := List.eq_nil_of_length_eq_zero h.symm; subst this; rfl
    | succ n ih =>
      intro ys h
      have hne : ys ≠ [] := fun z => by rw [z] at h; cases h
      obtain ⟨zs, z, rfl⟩ : ∃ zs z, ys = zs ++ [z] := ⟨ys.dropLast, ys.getLast hne, (List.dropLast_concat_getLast hne).symm⟩
      have hz : n = zs.length := by simp at h; omega
      rw [List.range_succ_eq_map, List.filterMap_cons, List.filterMap_map, List.reverse_append]
      have e0 : ((((n + 1 : Nat) : Int) - 1 + ((0 : Nat) : Int) * (-1)).toNat) = zs.length := by omega
      rw [e0]
      have g0 : (zs ++ [z])[zs.length]? = some z := by simp
      rw [g0]
      simp only [List.reverse_cons, List.reverse_nil, List.nil_append, List.cons_append]
      congr 1
      rw [← ih zs hz]
      refine fm_congr fun k hk => ?_
      have hk' : k < n := List.mem_range.mp hk
      have e1 : ((((n + 1 : Nat) : Int) - 1 + ((k.succ : Nat) : Int) * (-1)).toNat) = (((n : Nat) : Int) - 1 + ((k : Nat) : Int) * (-1)).toNat := by omega
      show (zs ++ [z])[((((n + 1 : Nat) : Int) - 1 + ((k.succ : Nat) : Int) * (-1)).toNat)]? = _
      rw [e1, List.getElem?_append_left (by omega)]
  exact key xs.length xs rfl
end Yx

namespace Yx
variable [Tb] [Cb]
open PySem L2 RZ PyProof.Rows

/-! ### a walk over a list or a tuple, whichever it is; lists turned round -/
def iAny (K : PySem.W.Frag) (ta : TE) : TI := fun τ G R => ta τ G fun v G1 => ∃ a, v = .ref a ∧ (((∃ vs, SqL K G1 a vs) ∧ R (Itl K a) G1) ∨ ((∃ vs, SqT K G1 a vs) ∧ R (Itt K a) G1))
theorem pi_any {X : Cx} {tg e : Expr} {ta : TE} (he : PE X e ta) : PI X tg e (iAny X.K ta) := by
  constructor
  intro pins s τ G R I h
  refine thn (he.run pins s τ G _ I h) ?_
  rintro v s1 ⟨y, G1, I1, ry, a, ey, q⟩
  subst ey
  cases ry
  have fin : ∀ b ∈ [s1.heap.objs.size], b = s1.heap.objs.size := fun b hb => List.mem_singleton.mp hb
  rcases q with ⟨⟨vs, hv⟩, q⟩ | ⟨⟨vs, hv⟩, q⟩
  · obtain ⟨ws, rw1, p, hz⟩ := I1.list hv
    apply wpAny_pyIter_list p.isList
    exact ⟨_, [s1.heap.objs.size], _, _, G1, rfl, I1.kept (t' := s1.toks) (fun c oc ec => Heap.get?_push_of_some _ ec), turn_list a _, ⟨_, Heap.get?_push_size _ rfl, rfl, rfl⟩,
      fun b hb => by cases fin b hb; exact I1.fpOk (Nat.le_refl _) (I1.hok.fresh (Nat.le_refl _)), q⟩
  · obtain ⟨ws, rw1, p, hz⟩ := I1.tuple hv
    apply wpAny_pyIter_tuple (show s1.heap.IsTuple a ws.toArray from p)
    exact ⟨_, [s1.heap.objs.size], _, _, G1, rfl, I1.kept (t' := s1.toks) (fun c oc ec => Heap.get?_push_of_some _ ec), turn_tuple a _, ⟨_, Heap.get?_push_size _ rfl, rfl, rfl⟩,
      fun b hb => by cases fin b hb; exact I1.fpOk (Nat.le_refl _) (I1.hok.fresh (Nat.le_refl _)), q⟩
section
variable {K : PySem.W.Frag} {B : Bs}
def SI.any (a : SE K B) : SI K B where
  t := fun W => iAny K (a.t W)
  f := fun σ x => (a.f σ x).bind fun d x1 => match d with
    | .tup ds => .ok ds x1
    | .lst ds => .ok ds x1
    | _ => .bad
  ok := fun g Φ F0 W F H τ σ x Q hB E h => by
    refine a.ok g Φ F0 W F H τ σ x _ hB E (Post.step h fun d x1 h1 v F1 H1 e1 E1 r1 => ?_)
    cases r1 with
    | tup s r => exact ⟨_, rfl, .inr ⟨⟨_, ex_t E1.ex (SqT.of s)⟩, h1 _ F1 H1 e1 E1 (walk_of_tup (SqT.of s) r)⟩⟩
    | lst s r => exact ⟨_, rfl, .inl ⟨⟨_, ex_l E1.ex s⟩, h1 _ F1 H1 e1 E1 (walk_of_list s r)⟩⟩
    | _ => exact h1.elim
/-- l[::-1], l a list -/
def SE.rvl (a : SE K B) : SE K B where
  t := fun W => tRevL K (a.t W)
  f := fun σ x => (a.f σ x).bind fun d x1 => match d with
    | .lst ds => .ok (.lst ds.reverse) x1
    | _ => .bad
  ok := fun g Φ F0 W F H τ σ x Q hB E h => by
    refine a.ok g Φ F0 W F H τ σ x _ hB E (Post.step h fun d x1 h1 v F1 H1 e1 E1 r1 => ?_)
    cases r1 with
    | lst s r =>
      refine ⟨_, _, rfl, ex_l E1.ex s, fun p hp => ?_⟩
      rename_i q vs ds
      have al := Al.new (o := .lst vs.reverse) E1.ex hp
      exact h1 (.ref p) _ _ (e1.trans al.f) (E1.al al) (.lst (SqL.of upd_same) (r.reverse.mono al.f))
    | _ => exact h1.elim
end
end Yx

namespace Yx
variable [Tb] [Cb]
open PySem PySem.Spec PyProof.Rows L2 RZ
theorem u100 {A : Around} {k : Nat} (hr : Room k A) : A.units + 100 < cLine := by have := hr.un; omega
theorem u64 {n : Nat} (h : n + 100 < cLine) : n + 64 < cLine := by omega
theorem u1 {n : Nat} (h : n + 100 < cLine) : n + 1 < cLine := by omega
/-- a callee -/
structure Cal (P : Program) (w : World) (K : PySem.W.Frag) (mg : Str → Option Value) (base : Heap) (n : Nat) (x : Str) (f : Addr) (fd : FuncData) (ps : List Str) (m : MF) : Prop where
  g : mg x = some (.ref f)
  k : PySem.W.keepIn K (.ref f) = true
  b : Binds K fd ps []
  F : FnG P w K mg base n f fd ps (spF K m)
theorem len_of {K : PySem.W.Frag} {hs : List (Hd K)} (h : (hs.all fun h => match h.nm with
    | some i => decide (i < 1000000)
    | none => true) = true) : ∀ h ∈ hs, ∀ i, h.nm = some i → i < 1000000 := fun x hx i hi => by
  have q := List.all_eq_true.mp h x hx
  rw [hi] at q
  exact of_decide_eq_true q
theorem ps_trySS {X : Cx} {K : PySem.W.Frag} (hK : X.K = K) {body : List Stmt} {h0 : ExceptHandler} {hds : List ExceptHandler} {pos : Pos} {sub : Addr → Addr → Option Bool} {hsub : ∀ C c b, sub C c = some b → PySem.W.exmOne K (.ref C) (.ref c) = some b} {b : SS K} {hs : List (Hd K)} {len : ∀ h ∈ hs, ∀ i, h.nm = some i → i < 1000000} {Wout : WX}
    (h1 : X.stack = X.env :: X.outer) (h2 : X.env.frame = some X.env.locals) (tk : Takes X Wout)
    (hb : ∀ (W : WX) (pn : List (Addr × Obj)) (xe : Value → Shared → Prop), Takes (X.tr pn xe) W → PassesOwn (model X.prog X.w) X.A X.env xe → PSs (X.tr pn xe) body (b.t W))
    (hh : HsX X (h0 :: hds) (hs.map fun h => (Value.ref h.c, h.nm, fun a cls d => h.act.t (h.te a cls d)))) : PS X (.Try body (h0 :: hds) [] [] pos) ((SS.try sub hsub b hs len).t Wout) := by
  subst hK
  exact ps_tryX (tb := b.t) h1 h2 tk hb hh
theorem pss_skip {X : Cx} {b : List Stmt} {u : TS} (h : PSs X b u) : PSs X b (tSeq tNext u) := ⟨fun pins s σ H D I w => h.run pins s σ H D I w⟩
/-- a test that is left out -/
def ST.tru1 {K : PySem.W.Frag} {B : Bs} : ST K B where
  t := fun _ => tYes
  f := fun _ x => .ok true x
  ok := fun g Φ F0 W F H τ σ x Q _ E h => h F H (Ex.refl F) E
end Yx

namespace Yx
variable [Tb]
open PySem PySem.Spec PyProof.Rows L2 RZ

/-! ### the head -/
/-- the heap of the law's entry: the script alone, if it is none of the module's own lists -/
def scriptH (K : PySem.W.Frag) (a : Addr) (vs : List Value) (ns : List Int) : Hp := fun b => match K.lookup a with
  | some _ => none
  | none => if b = a then some (.frz { cls := .type "list", data := .seq vs.toArray } (.lst (ns.map V.int))) else none
theorem scriptH_at {K : PySem.W.Frag} {a b : Addr} {vs : List Value} {ns : List Int} {u : HO} (h : scriptH K a vs ns b = some u) : K.lookup a = none ∧ b = a ∧ u = .frz { cls := .type "list", data := .seq vs.toArray } (.lst (ns.map V.int)) := by
  unfold scriptH at h
  split at h
  · cases h
  · rename_i hk
    by_cases c : b = a
    · rw [if_pos c] at h; cases h; exact ⟨hk, c, rfl⟩
    · rw [if_neg c] at h; cases h
theorem scriptH_sq {K : PySem.W.Frag} {s : Shared} {a : Addr} {vs : List Value} {ns : List Int} (KX : K.In s.heap) (ha : s.heap.get? a = some { cls := .type "list", data := .seq vs.toArray }) (hi : IntsAre vs ns) (hl : ns.length ≤ sizeLine) : SqL K (scriptH K a vs ns) a (ns.map V.int) := by
  cases hk : K.lookup a with
  | none =>
    refine .inl (.inr ⟨{ cls := .type "list", data := .seq vs.toArray }, ?_⟩)
    unfold scriptH
    rw [hk]
    exact if_pos rfl
  | some o =>
    have e := KX a o hk
    rw [ha] at e
    cases e
    exact .inr ⟨_, vs.toArray, _, hk, rfl, rfl, rfl, by rw [List.size_toArray, hi.length]; exact hl, by simpa using vals_ints hi⟩
/-- .. and the empty tables -/
def entryH (K : PySem.W.Frag) (a : Addr) (vs : List Value) (ns : List Int) : Hp := fun b => if b ∈ tba then some (.tbl #[]) else scriptH K a vs ns b
/-- .. but for the tables -/
def entryF (K : PySem.W.Frag) (a : Addr) (vs : List Value) (ns : List Int) : Hp := fun b => if b ∈ tba then none else scriptH K a vs ns b
theorem entryF_ex (K : PySem.W.Frag) (a : Addr) (vs : List Value) (ns : List Int) : Ex (entryF K a vs ns) (entryH K a vs ns) := fun b o h => by
  unfold entryF at h
  unfold entryH
  by_cases m : b ∈ tba
  · rw [if_pos m] at h; cases h
  · rw [if_neg m] at h ⊢; exact h
theorem entry_tb (K : PySem.W.Frag) (a : Addr) (vs : List Value) (ns : List Int) : TbOk (entryF K a vs ns) (entryH K a vs ns) where
  tabs := fun p hp => by
    have m : p.1 ∈ tba := List.mem_map.mpr ⟨p, hp, rfl⟩
    exact LamX.TabS.nil (by unfold entryH; rw [if_pos m])
  out := fun b m => by unfold entryF; rw [if_pos m]
  nf := fun b ps h => by
    unfold entryF at h
    split at h
    · cases h
    · obtain ⟨_, _, z⟩ := scriptH_at h
      cases z
theorem entryH_at {K : PySem.W.Frag} {a b : Addr} {vs : List Value} {ns : List Int} {u : HO} (h : entryH K a vs ns b = some u) : (b ∈ tba ∧ u = .tbl #[]) ∨ (b ∉ tba ∧ scriptH K a vs ns b = some u) := by
  unfold entryH at h
  by_cases m : b ∈ tba
  · rw [if_pos m] at h; cases h; exact .inl ⟨m, rfl⟩
  · rw [if_neg m] at h; exact .inr ⟨m, h⟩
/-- what the law's def must keep -/
theorem law_runG {P : Program} {w : World} {K : PySem.W.Frag} {mg mb : Str → Option Value} {n : Nat} {fa a : Addr} {fd : FuncData} {x : Str} {sp : Sp} {s : Shared} {vs : List Value} {ns : List Int} {cs : List (Addr × Addr)} (hcs : tba = cs.map (·.2))
    (KX : K.In s.heap) (g1 : s.heap.Ns mainGlobals mg) (g2 : s.heap.Ns builtinsNs mb) (g3 : ∀ x : Str, x ≠ "__name__" → mb x = bootBuiltins x) (g4 : s.heap.NoLimit) (g5 : s.gens = #[])
    (ct : ∀ p ∈ cs, PySem.W.CodeHd s.heap p.1 p.2 ∧ s.heap.get? p.2 = some (PySem.W.tabObj #[])) (nk : ∀ p ∈ cs, K.lookup p.2 = none)
    (bmain : ∃ (bm : Addr) (ob : Obj), mg "__builtins__" = some (.ref bm) ∧ bm ≠ builtinsNs ∧ s.heap.get? bm = some ob ∧ ob.cls = .type "module" ∧ ob.dict = some builtinsNs ∧ ob.data = .plain)
    (ha : s.heap.get? a = some { cls := .type "list", data := .seq vs.toArray }) (hi : IntsAre vs ns) (hl : ns.length ≤ sizeLine) (hr : Room n callerA)
    (F : ∀ base : Heap, K.In base → base.Ns mainGlobals mg → (∀ p ∈ cs, LamX.TabB base mg p.1 p.2) → FnG P w K mg base n fa fd [x] sp) (hb : ∀ (s : Shared) (u : Value), BindsTo s fd ⟨[u], []⟩ [(x, u)])
    (hsp : ∀ F H : Hp, Ex F H → TbOk F H → SqL K F a (ns.map V.int) → sp [.ref a] H (fun v _ => v = .bl true) fun _ _ _ => False) :
    codeAny (model P w) callerA (.call (.ref fa) ⟨[.ref a], []⟩) (fun r s' => r = .ok (.ret (.bool true)) ∧ OldK s.heap s'.heap ∧ s'.os = s.os ∧ AllBare s'.gens) s := by
  have tab : ∀ b ∈ tba, ∃ c, (c, b) ∈ cs ∧ PySem.W.CodeHd s.heap c b ∧ s.heap.get? b = some (PySem.W.tabObj #[]) ∧ K.lookup b = none := fun b m => by
    rw [hcs] at m
    obtain ⟨⟨c, b'⟩, hp, rfl⟩ := List.mem_map.mp m
    exact ⟨c, hp, (ct _ hp).1, (ct _ hp).2, nk _ hp⟩
  have na : a ∉ tba := fun m => by
    obtain ⟨_, _, _, e, _⟩ := tab a m
    rw [ha] at e
    exact nomatch (show Data.seq vs.toArray _ = Data.fields #[] from congrArg Obj.data (Option.some.inj e))
  have hS : SqL K (entryF K a vs ns) a (ns.map V.int) := by
    rcases scriptH_sq (K := K) KX ha hi hl with (h | ⟨o, h⟩) | h
    · exact .inl (.inl (by unfold entryF; rw [if_neg na]; exact h))
    · exact .inl (.inr ⟨o, by unfold entryF; rw [if_neg na]; exact h⟩)
    · exact .inr h
  have hok : HOk P w (entryH K a vs ns) s.heap := fun b u h => by
    rcases entryH_at h with ⟨m, rfl⟩ | ⟨_, h⟩
    · obtain ⟨_, _, _, e, _⟩ := tab b m
      exact e
    · obtain ⟨_, rfl, rfl⟩ := scriptH_at h
      exact ⟨ha, by rw [List.length_map]; exact hl, vs, _, vals_ints hi, ha⟩
  -- what is neither script nor table stands in the base
  have stands : ∀ {b : Addr} {o : Obj}, s.heap.get? b = some o → entryH K a vs ns b = none → (hidT s.heap (entryH K a vs ns)).get? b = some o := fun e q => hidT_get e q
  have none_of : ∀ {b : Addr} {o : Obj}, s.heap.get? b = some o → (∀ xs k, o.data ≠ .seq xs k) → o.data ≠ .fields #[] → entryH K a vs ns b = none := fun {b o} e d1 d2 => by
    cases q : entryH K a vs ns b with
    | none => rfl
    | some u =>
      rcases entryH_at q with ⟨m, rfl⟩ | ⟨_, q⟩
      · obtain ⟨_, _, _, e', _⟩ := tab b m
        rw [e] at e'; cases e'
        exact absurd rfl d2
      · obtain ⟨_, rfl, _⟩ := scriptH_at q
        rw [ha] at e; cases e
        exact absurd rfl (d1 _ _)
  have keepNs : ∀ {b : Addr} {m : Str → Option Value}, s.heap.Ns b m → (hidT s.heap (entryH K a vs ns)).Ns b m := fun ⟨o, es, ep, e, d, r⟩ =>
    ⟨o, es, ep, stands e (none_of e (fun _ _ z => by rw [d] at z; cases z) fun z => by rw [d] at z; cases z), d, r⟩
  have kb : K.In (hidT s.heap (entryH K a vs ns)) := fun b o e => stands (KX b o e) (by
    cases q : entryH K a vs ns b with
    | none => rfl
    | some u =>
      rcases entryH_at q with ⟨m, rfl⟩ | ⟨_, q⟩
      · obtain ⟨_, _, _, _, e'⟩ := tab b m
        rw [e'] at e; cases e
      · obtain ⟨hk, rfl, _⟩ := scriptH_at q
        rw [hk] at e; cases e)
  have md : Mod K mg (hidT s.heap (entryH K a vs ns)) := by
    obtain ⟨mc, l1, l2⟩ := g4
    exact ⟨kb, keepNs g1, ⟨mb, keepNs g2, g3⟩, ⟨mc, keepNs l1, l2⟩⟩
  have tbs : ∀ p ∈ cs, LamX.TabB (hidT s.heap (entryH K a vs ns)) mg p.1 p.2 := fun p hp => by
    obtain ⟨⟨oc, us, fl, t1, gs, t2, bf, tx, t3, e, r1, r2, r3, r⟩, e2⟩ := ct p hp
    have ne0 : us ≠ #[] := fun z => by rw [z] at r3; simp at r3
    have gd : ∀ {b : Addr} {o : Obj}, s.heap.get? b = some o → o.data ≠ .fields #[] → b ≠ p.2 := fun {b o} h1 h2 z => by
      rw [z, e2] at h1; cases h1
      exact h2 rfl
    refine ⟨⟨oc, us, fl, t1, gs, t2, bf, tx, t3, stands e (none_of e (fun _ _ z => ?_) fun z => ?_), r1, r2, r3, r⟩, ?_, ?_⟩
    · rw [r2] at z; cases z
    · rw [r2] at z
      exact ne0 (by injection z)
    · obtain ⟨bm, ob, b1, b2, b3, b4, b5, b6⟩ := bmain
      have bx : ∀ us, ob.data ≠ .fields us := fun _ z => by rw [b6] at z; cases z
      refine ⟨bm, ob, b1, b2, fun z => ?_, gd b3 (bx _), stands b3 (none_of b3 (fun _ _ z => by rw [b6] at z; cases z) (bx _)), b4, b5, b6⟩
      obtain ⟨og, es, ep, k1, k2, _⟩ := g1
      rw [z, k1] at b3; cases b3
      rw [k2] at b6; cases b6
    · obtain ⟨og, es, ep, k1, k2, _⟩ := g1
      exact gd k1 fun z => by rw [k2] at z; cases z
  have no : ∀ b : Addr, ¬ b ∈ ([] : List Addr) := fun _ h => nomatch h
  have e0 : Env0 P w K mg (hidT s.heap (entryH K a vs ns)) callerA [] s (entryH K a vs ns) := ⟨rfl, md, fun b o e => of_hidT e, Nat.le_of_eq (hidT_size _ _), trivial, fun b hb => absurd (show b ∈ ([] : List Addr) from hb) (no b), hok, .of_eq g5⟩
  have run := (F _ kb (keepNs g1) tbs).run callerA [] s (entryH K a vs ns) ⟨[.ref a], []⟩ [.ref a] [.ref a] (fun v _ => v = .bl true) (fun _ _ _ => False) hr rfl e0 (hb s (.ref a)) (.cons rfl .nil) (hsp _ _ (entryF_ex K a vs ns) (entry_tb K a vs ns) hS)
  refine codeAny_mono run ?_
  rintro (e | fl) s' h
  · obtain ⟨_, _, _, _, _, _, _, _, _, _, _, _, z⟩ := (show L2.CX P w [] (entryH K a vs ns) s (fun _ _ _ => False) e s' from h)
    exact z.elim
  · match fl, h with
    | .ret u, h =>
      obtain ⟨v, H', os, bare, un, hok', r', q⟩ := h
      have q' : v = .bl true := q
      subst q'
      obtain rfl : u = Value.bool true := r'
      have old : ∀ b o, b ∉ tba → s.heap.get? b = some o → s'.heap.get? b = some o := fun b o m e => by
        cases q : entryH K a vs ns b with
        | none => exact un.keep b o e q (by intro z; exact absurd (show b ∈ ([] : List Addr) from z) (no b)) (no b)
        | some u =>
          rcases entryH_at q with ⟨m', _⟩ | ⟨_, q2⟩
          · exact absurd m' m
          · obtain ⟨_, rfl, rfl⟩ := scriptH_at q2
            have z := hok' _ _ (un.frzs _ _ _ q)
            rw [ha] at e; cases e
            exact z.1
      have more : ∀ b ∈ tba, ∃ c us, PySem.W.CodeHd s.heap c b ∧ s.heap.get? b = some (PySem.W.tabObj #[]) ∧ s'.heap.get? b = some (PySem.W.tabObj us) := fun b m => by
        obtain ⟨c, _, h1, h2, _⟩ := tab b m
        obtain ⟨us, z⟩ := un.tbls b #[] (by unfold entryH; rw [if_pos m])
        exact ⟨c, _, h1, h2, hok' b _ z⟩
      refine ⟨rfl, ⟨fun b o e => ?_, fun b o e => ?_⟩, os, bare⟩
      · by_cases m : b ∈ tba
        · obtain ⟨c, us, h1, h2, h3⟩ := more b m
          rw [h2] at e; cases e
          refine .inr (.inl ⟨(h1.tab h2).isCodeTable, rfl, #[], us, rfl, ?_⟩)
          rw [Array.empty_append]
          exact h3
        · exact .inl (old b o m e)
      · by_cases m : b ∈ tba
        · obtain ⟨c, us, _, _, h3⟩ := more b m
          exact ⟨_, h3⟩
        · exact ⟨o, old b o m e⟩
    | .next, h => exact False.elim h
    | .brk, h => exact False.elim h
    | .cont, h => exact False.elim h
omit [Tb] in
theorem walkG {l : PySem.W.OpenLaw} {n k : Nat} {q : Program} {loose : List Str} {XP : (Str → Option Value) → Heap → Prop} {YP : World → Heap → Prop} {d : DefRec} {K : Params → PySem.W.Frag} {x : Str}
    (hn : l.most = some n) (hn2 : n ≤ sizeLine) (hdf : d.params.defaults = []) (hr : Room k callerA) (hY : ∀ (w : World) (h : Heap), YP w h → (K w.params).In h)
    (F : ∀ (w : World) (mg : Str → Option Value) (fa : Addr) (h : Heap), (K w.params).In h → h.Ns mainGlobals mg → mg d.name = some (.ref fa) →
      ∃ (T : Tb) (cs : List (Str × Addr × Addr)) (fd : FuncData) (sp : Sp), @tba T = cs.map (·.2.2) ∧ (∀ p ∈ cs, PySem.W.tabIn (K w.params) p.1 = some p.2 ∧ (K w.params).lookup p.2.2 = none ∧ ∃ dr, (recsOf q).find? (fun e => e.name == p.1) = some dr) ∧
        (∀ (s : Shared) (u : Value), BindsTo s fd ⟨[u], []⟩ [(x, u)]) ∧
        (∀ (F H : Hp) (a : Addr) (ns : List Int), ns.length ≤ n → Ex F H → @TbOk T F H → SqL (K w.params) F a (ns.map V.int) → sp [.ref a] H (fun v _ => v = .bl true) fun _ _ _ => False) ∧
        ∀ base : Heap, (K w.params).In base → base.Ns mainGlobals mg → (∀ p ∈ cs, LamX.TabB base mg p.2.1 p.2.2) → FnG l.prog w (K w.params) mg base k fa fd [x] sp) :
    PySem.W.WalkO q loose XP YP l.row.toRowW d [] (fun f vs => PySem.call f vs) := by
  apply Att.attach_call hn hdf
  intro w s0 s1 mg mb fa o pm cd doc a vs ns G Y ho hd hcd hmg hobj hints hlen hg
  have KX := hY w _ Y
  obtain ⟨T, cs, fd, sp, hcs, hc, hb, hsp, hF⟩ := F w mg fa _ KX G.T.g hmg
  have mem : ∀ p ∈ cs.map (·.2), ∃ z ∈ cs, z.2 = p := fun p hp => by simpa using hp
  letI := T
  refine law_runG (cs := cs.map (·.2)) (by rw [hcs, List.map_map]; rfl) KX G.T.g G.T.b G.T.builtins G.T.nolimit hg (fun p hp => ?_) (fun p hp => ?_) G.T.bmain hobj hints (Nat.le_trans hlen hn2) hr (fun base h1 h2 h3 => hF base h1 h2 fun p hp => h3 p.2 (List.mem_map.mpr ⟨p, hp, rfl⟩)) hb fun F H e t hS => hsp F H a ns hlen e t hS
  · obtain ⟨z, hz, rfl⟩ := mem p hp
    obtain ⟨e1, _, dr, e3⟩ := hc z hz
    exact PySem.W.tab_of G.T KX e3 e1
  · obtain ⟨z, hz, rfl⟩ := mem p hp
    exact (hc z hz).2.1
theorem cls_of {K : PySem.W.Frag} {C c : Addr} {b : Bool} (h2 : PySem.W.isClsIn K c = true) (h3 : PySem.W.typeIn K (.ref c) = some (.type "type")) (h4 : PySem.W.subIn K (.ref C) (.ref c) = some b) : PySem.W.kitCls K (.ref C) (.ref c) = some b := by
  unfold PySem.W.isClsIn at h2
  show (if ((PySem.W.clsIn K c).isSome && PySem.W.typeIn K (.ref c) == some (.type "type")) = true then PySem.W.subIn K (.ref C) (.ref c) else none) = some b
  rw [h2, h3, h4]
  rfl
theorem em_of {K : PySem.W.Frag} {C c : Addr} {b : Bool} (h1 : PySem.W.subIn K (.ref c) (.type "BaseException") = some true) (h2 : PySem.W.isClsIn K c = true) (h3 : PySem.W.typeIn K (.ref c) = some (.type "type")) (h4 : PySem.W.subIn K (.ref C) (.ref c) = some b) : PySem.W.exmOne K (.ref C) (.ref c) = some b := by
  unfold PySem.W.exmOne
  rw [h1]
  exact cls_of h2 h3 h4
theorem ki_of {K : PySem.W.Frag} {C c : Addr} {b : Bool} (h2 : PySem.W.isClsIn K c = true) (h3 : PySem.W.typeIn K (.ref c) = some (.type "type")) (h4 : PySem.W.subIn K (.ref C) (.ref c) = some b) (hb : C = c → b = true) : PySem.W.kitOne K (.ref C) (.ref c) = some b := by
  unfold PySem.W.kitOne
  by_cases e : C = c
  · subst e
    rw [if_pos (by simp), hb rfl]
  · rw [if_neg (by simpa using e)]
    exact cls_of h2 h3 h4
end Yx

namespace Yx
variable [Tb] [Cb]
open PySem PySem.Spec L2 RZ
abbrev iD (ns : List Int) : List D := ns.map D.int
theorem pures_ints : ∀ ns : List Int, D.pures (iD ns) = true
  | [] => rfl
  | n :: l => by show (D.pure (.int n) && D.pures (iD l)) = true; rw [pures_ints l]; rfl
theorem pys_ints : ∀ ns : List Int, D.pys (iD ns) = ns.map PyData.int
  | [] => rfl
  | n :: l => by show D.py (.int n) :: D.pys (iD l) = _; rw [pys_ints l]; rfl
theorem canLay_ints : ∀ ns : List Int, PyData.canLayAll0 (ns.map PyData.int) = true
  | [] => by simp [PyData.canLayAll0]
  | n :: l => by simp [PyData.canLayAll0, PyData.canLay0, canLay_ints l]
theorem shD_lst (ns : List Int) : shD (.lst (iD ns)) = true := by
  unfold shD SeqAt.shaped
  have h1 : D.pure (.lst (iD ns)) = true := pures_ints ns
  have h2 : D.py (.lst (iD ns)) = .list (ns.map PyData.int) := by show PyData.list (D.pys (iD ns)) = _; rw [pys_ints]
  have h3 := depth_ints ns
  have h4 : (PyData.list (ns.map PyData.int)).depth ≤ 64 := by
    simp only [PyData.depth]
    omega
  rw [h1, h2]
  simp only [PyData.canLay0, canLay_ints, Bool.true_and, decide_eq_true_eq]
  exact h4
/-- the drawing state at the law's entry -/
def cellsF (ns : List Int) : List Int := if ns = [] then [0] else ns
def leftF (c : Int) : Int := if (10 : Int) ^ 18 ≤ c then c else 0
def begG (ns : List Int) : Gst := { cells := cellsF ns, lefts := (cellsF ns).map leftF, at_ := 0 }
def spB (K : PySem.W.Frag) : Sp := fun vs H Q _ => ∃ a ns F, vs = [.ref a] ∧ Ex F H ∧ TbOk F H ∧ SqL K F a (ns.map V.int) ∧ ns.length ≤ 63 ∧
  ∀ F' H' c l sa, Ex F F' → Ex F' H' → TbOk F' H' → SqL K F' c ((begG ns).cells.map V.int) → H' l = some (.lst ((begG ns).lefts.map V.int)) → F' l = none → F' sa = none → l ≠ sa → H' sa = some (.dK (dkS c l 0)) → Q (.ref sa) H'
section
variable (K : PySem.W.Frag)
def S_beg1 : SS K := SS.asg (SG.name K 1) (SE.ite (ST.val (SE.bin (opNe K) (SE.var 0) (SE.ofN (SN.lst (SA.nil))))) (SE.ofN (SN.seq (opList K) (SQ.of (SE.var 0)))) (SE.ofN (SN.lst (SA.cons (SE.int 0) (SA.nil)))))
def N_beg2 : SN K B0 := SN.comp [2] (SI.any (SE.var 1)) (SG.name K 2) (ST.tru1) (SE.ite (ST.val (SE.bin (opGe K) (SE.var 2) (SE.bin (opPow K) (SE.int 10) (SE.int 18)))) (SE.var 2) (SE.int 0)) rfl
def t_begin (W : WX) : TS := tSeq ((S_beg1 K).t W) (tSeq (tRet (tDisp [(tC (.str kCells), tVar 1), (tC (.str kLefts), (N_beg2 K).t W), (tC (.str kAt), tC (.int 0))])) tNext)
end
section
variable {K : PySem.W.Frag}
theorem beg1_f (ns : List Int) (hl : ns.length ≤ 63) : (S_beg1 K).f (startS 3 [.lst (iD ns)]) none = .nx (some (.dat (.lst (iD ns))) :: some (.dat (.lst (iD (cellsF ns)))) :: [none]) none := by
  have e0 : (opNe K).f (.lst (iD ns)) (.lst []) = some (.bl (!decide (ns = []))) := by
    show eqF true _ _ = _
    unfold eqF
    have h1 := shD_lst ns
    have h2 : shD (.lst []) = true := shD_lst []
    rw [h1, h2]
    have h3 : D.py (.lst (iD ns)) = .list (ns.map PyData.int) := by show PyData.list (D.pys (iD ns)) = _; rw [pys_ints]
    rw [h3]
    cases ns with
    | nil => rfl
    | cons n l => rfl
  have hs : szOk ns.length = true := by unfold szOk; exact decide_eq_true (by omega)
  show ((((R.ofo ((opNe K).f (.lst (iD ns)) (.lst [])) none).bind fun d x1 => match d with
      | .bl b => R.ok b x1
      | _ => .bad).bind fun k x1 => if k = true then (SE.ofN (SN.seq (opList K) (SQ.of (SE.var 0))) : SE K B0).f (startS 3 [.lst (iD ns)]) x1 else (SE.ofN (SN.lst (SA.cons (SE.int 0) SA.nil)) : SE K B0).f (startS 3 [.lst (iD ns)]) x1).toO (startS 3 [.lst (iD ns)]) _) = _
  rw [e0]
  by_cases c : ns = []
  · subst c
    rfl
  · have hc : (!decide (ns = [])) = true := by simp [c]
    have hce : cellsF ns = ns := if_neg c
    rw [hc, hce]
    rfl
theorem beg2_c : ∀ (l : List Int) (acc : List Int) (σ : Sg), acc.length + l.length ≤ 63 → σ.length = 3 → 
    compF (SG.name K 2).f (ST.tru1 : ST K B0).f (SE.ite (ST.val (SE.bin (opGe K) (SE.var 2) (SE.bin (opPow K) (SE.int 10) (SE.int 18)))) (SE.var 2) (SE.int 0) : SE K B0).f σ (iD l) (iD acc) none = .ok (iD (acc ++ l.map leftF)) none
  | [], acc, σ, _, _ => by simp [iD, compF]
  | n :: l, acc, σ, h, hσ => by
    have hg : (σ.set 2 (some (.dat (.int n))))[2]? = some (some (.dat (.int n))) := by rw [List.getElem?_set, if_pos rfl, if_pos (by omega)]
    have hs : sget (σ.set 2 (some (.dat (.int n)))) 2 = some (.int n) := by unfold sget; rw [hg]
    have ev : (SE.ite (ST.val (SE.bin (opGe K) (SE.var 2) (SE.bin (opPow K) (SE.int 10) (SE.int 18)))) (SE.var 2) (SE.int 0) : SE K B0).f (σ.set 2 (some (.dat (.int n)))) none = .ok (.int (leftF n)) none := by
      have hp : (opPow K).f (.int 10) (.int 18) = some (.int ((10 : Int) ^ 18)) := rfl
      show ((((R.ofo (sget (σ.set 2 (some (.dat (.int n)))) 2) none).bind fun d1 x1 => ((R.ofo ((opPow K).f (.int 10) (.int 18)) x1)).bind fun d2 x2 => R.ofo ((opGe K).f d1 d2) x2).bind fun d x1 => match d with
        | .bl b => R.ok b x1
        | _ => .bad).bind fun k x1 => if k = true then R.ofo (sget (σ.set 2 (some (.dat (.int n)))) 2) x1 else R.ok (.int 0) x1) = _
      rw [hs, hp]
      show (if decide ((10 : Int) ^ 18 ≤ n) = true then R.ok (D.int n) none else R.ok (.int 0) none) = _
      unfold leftF
      by_cases c : (10 : Int) ^ 18 ≤ n
      · rw [if_pos (decide_eq_true c), if_pos c]
      · rw [if_neg (by simpa using c), if_neg c]
    rw [List.map_cons]
    show compF _ _ _ σ (D.int n :: iD l) (iD acc) none = _
    unfold compF
    show (match (SE.ite (ST.val (SE.bin (opGe K) (SE.var 2) (SE.bin (opPow K) (SE.int 10) (SE.int 18)))) (SE.var 2) (SE.int 0) : SE K B0).f (σ.set 2 (some (.dat (.int n)))) none with
      | .ok y x2 => if decide ((iD acc).length < 16777216) = true then compF (SG.name K 2).f (ST.tru1 : ST K B0).f (SE.ite (ST.val (SE.bin (opGe K) (SE.var 2) (SE.bin (opPow K) (SE.int 10) (SE.int 18)))) (SE.var 2) (SE.int 0) : SE K B0).f σ (iD l) (iD acc ++ [y]) x2 else .bad
      | _ => .bad) = _
    rw [ev]
    simp only
    have hl : (iD acc).length = acc.length := List.length_map _
    rw [List.length_cons] at h
    rw [if_pos (decide_eq_true (by rw [hl]; omega))]
    have e : iD acc ++ [D.int (leftF n)] = iD (acc ++ [leftF n]) := by simp [iD]
    rw [e, beg2_c l (acc ++ [leftF n]) σ (by simp; omega) hσ]
    simp
theorem begin_rd {vs : List V} {H : Hp} {Q : VK} {E : XK} (h : spB K vs H Q E) : t_begin K (fun cls d _ H' => E cls d H') { nx := fun _ H' => Q .non H', rt := Q } (L2.start ["script", "cells_so", "cell"] vs) H := by
  obtain ⟨a, ns, F, rfl, ex, tb, hS, hl, q⟩ := h
  have E0 := env_start (K := K) (g := ((0 : Addr), none)) (F := F) (H := H) (N := ["script", "cells_so", "cell"]) (vs := [.ref a]) (ds := [.lst (iD ns)]) (x := none) ex (.cons (.lst hS (Reps.ofInts ns)) .nil) ⟨trivial, tb⟩ (by show 1 ≤ 3; omega)
  refine (S_beg1 K).ok _ _ _ _ F H _ _ none _ E0 ?_
  show PostS _ _ _ _ _ _ _ ((S_beg1 K).f (startS 3 [.lst (iD ns)]) none)
  rw [beg1_f ns hl]
  intro F1 H1 τ1 e1 E1 p hp
  have hlc : (cellsF ns).length ≤ 63 := by
    unfold cellsF
    split
    · show 1 ≤ 63; omega
    · exact hl
  have fr := E1.fresh hp
  have ef := Ex.new (o := HO.dK []) fr.ph
  have E2 := (E1.al (Al.newO (o := .dK []) E1.ex hp)).lift upd_same fr
  obtain ⟨vc, gc, rc⟩ := E1.get 1 (.dat (.lst (iD (cellsF ns)))) rfl
  have rc : Rep K (gsa ((0 : Addr), none)) F1 vc (.lst (iD (cellsF ns))) := rc
  cases rc with
  | @lst c us ds s r =>
    have hu := r.ints
    subst hu
    show ∃ v, τ1[1]? = some (some v) ∧ _
    refine ⟨_, gc, ?_⟩
    show (N_beg2 K).t _ τ1 (upd H1 p (.dK [])) _
    refine (N_beg2 K).ok _ _ _ _ F1 _ τ1 _ none _ trivial E2 ?_
    have ef2 : (N_beg2 K).f (some (.dat (.lst (iD ns))) :: some (.dat (.lst (iD (cellsF ns)))) :: [none]) none = .ok (iD ((cellsF ns).map leftF)) none := by
      have h1 : (SI.any (SE.var 1) : SI K B0).f (some (.dat (.lst (iD ns))) :: some (.dat (.lst (iD (cellsF ns)))) :: [none]) none = .ok (iD (cellsF ns)) none := rfl
      show ((SI.any (SE.var 1) : SI K B0).f (some (.dat (.lst (iD ns))) :: some (.dat (.lst (iD (cellsF ns)))) :: [none]) none).bind (fun ds x1 => if calmS (some (.dat (.lst (iD ns))) :: some (.dat (.lst (iD (cellsF ns)))) :: [none]) [2] = true then compF (SG.name K 2).f (ST.tru1 : ST K B0).f (SE.ite (ST.val (SE.bin (opGe K) (SE.var 2) (SE.bin (opPow K) (SE.int 10) (SE.int 18)))) (SE.var 2) (SE.int 0) : SE K B0).f (wipeS (some (.dat (.lst (iD ns))) :: some (.dat (.lst (iD (cellsF ns)))) :: [none]) [2]) ds [] x1 else .bad) = _
      rw [h1]
      show (if calmS (some (.dat (.lst (iD ns))) :: some (.dat (.lst (iD (cellsF ns)))) :: [none]) [2] = true then compF (SG.name K 2).f (ST.tru1 : ST K B0).f (SE.ite (ST.val (SE.bin (opGe K) (SE.var 2) (SE.bin (opPow K) (SE.int 10) (SE.int 18)))) (SE.var 2) (SE.int 0) : SE K B0).f (wipeS (some (.dat (.lst (iD ns))) :: some (.dat (.lst (iD (cellsF ns)))) :: [none]) [2]) (iD (cellsF ns)) [] none else .bad) = _
      rw [if_pos (show calmS (some (.dat (.lst (iD ns))) :: some (.dat (.lst (iD (cellsF ns)))) :: [none]) [2] = true from rfl)]
      have := beg2_c (K := K) (cellsF ns) [] (wipeS (some (.dat (.lst (iD ns))) :: some (.dat (.lst (iD (cellsF ns)))) :: [none]) [2]) (by simpa using hlc) (by simp [wipeS])
      simpa using this
    rw [ef2]
    intro l vs F2 H2 e2 E3 hl2 fr2 rl
    have hv := rl.ints
    subst hv
    have hp2 : H2 p = some (.dK []) := E3.fr p _ upd_same
    have hF0 : F p = none := E1.f0.back fr.f
    have hF2p : F2 p = none := E3.dj p _ (by intro _ z; cases z) upd_same hF0
    have hlp : l ≠ p := fun z => by
      have := fr2.ph
      rw [z, upd_same] at this
      cases this
    refine ⟨hp2, [(.inr kCells, .ref c), (.inr kLefts, .ref l), (.inr kAt, .int 0)], rfl, by show 3 ≤ 15; omega, ?_⟩
    have hm : mergeK [] [((.inr kCells : L2.Key), V.ref c), (.inr kLefts, .ref l), (.inr kAt, .int 0)] = dkS c l 0 := by
      have h1 : ¬ (Sum.inr kCells : L2.Key) = .inr kLefts := by decide +kernel
      have h2 : ¬ (Sum.inr kCells : L2.Key) = .inr kAt := by decide +kernel
      have h3 : ¬ (Sum.inr kLefts : L2.Key) = .inr kAt := by decide +kernel
      simp [mergeK, putK, h1, h2, h3, dkS]
    rw [hm]
    exact q F2 _ c l p E3.f0 (E3.ex.mut hF2p) (E3.gr.tb.upd hp2 (fun _ z => by cases z) (fun _ _ z => by unfold LamX.CodeO at z; cases z)) (ex_l e2 s) (by rw [upd_ne hlp]; exact hl2) fr2.f hF2p hlp upd_same
end

section
open PyProof.Rows
/-- a def with a promise of its own -/
theorem def_own {P : Program} {w : World} {K : PySem.W.Frag} {mg : Str → Option Value} {base : Heap} {x qual : Str} {st : Stmt} {f : Addr} {fd : FuncData} {N ps : List Str} {k : Nat} {sp : Sp} (F : Fun K x qual st f fd) (S : FnScope N ps (defScope st)) (len : ∀ vs H Q E, sp vs H Q E → vs.length = ps.length)
    (body : ∀ (cdv : Value) (A : Around) (outer : List PySem.Env) (s : Shared) (H : Hp) (vs : List V) (Q : VK) (E : XK), Room k (A.deeper (envOfC qual (defScope st) s.heap.objs.size f cdv)) → (A.deeper (envOfC qual (defScope st) s.heap.objs.size f cdv)).guards = some [] → sp vs H Q E →
      ∃ t, PSs (cxOf (L2.CX P w) P w K mg base N qual (defScope st) f cdv A outer s H E) (defBody st) t ∧ t { nx := fun _ H' => Q .non H', rt := Q } (L2.start N vs) H) : FnG P w K mg base (k + 1) f fd ps sp := by
  obtain ⟨oc, od, kV, doc, pm, an, cdv, ct, osl, rfl, lk, hcd⟩ := F.ex
  exact fnG_of lk hcd S len fun A outer s H vs Q E hr hgu h => body cdv A outer s H vs Q E hr hgu h

end
/-! ### the law's own def: what comes ahead, state = _law_begin(script), the rest -/
mutual
/-- it tells of no drawing state -/
def D.noSt : D → Bool
  | .st => false
  | .tup l => D.noSts l
  | .lst l => D.noSts l
  | .dcK _ => false
  | .dcT _ => false
  | _ => true
def D.noSts : List D → Bool
  | [] => true
  | d :: l => D.noSt d && D.noSts l
end
section
variable {K : PySem.W.Frag} {sa sa' : Addr} {F : Hp}
mutual
theorem Rep.noSt {v : V} {d : D} (r : Rep K sa F v d) (h : D.noSt d = true) : Rep K sa' F v d :=
  match r with
  | .non => .non
  | .bl => .bl
  | .int => .int
  | .str => .str
  | .st => by simp [D.noSt] at h
  | .ref => .ref
  | .tup s r => .tup s (Reps.noSt r (by simpa [D.noSt] using h))
  | .lst s r => .lst s (Reps.noSt r (by simpa [D.noSt] using h))
  | .dcK _ _ => by simp [D.noSt] at h
  | .dcT _ _ => by simp [D.noSt] at h
theorem Reps.noSt {vs : List V} {ds : List D} (r : Reps K sa F vs ds) (h : D.noSts ds = true) : Reps K sa' F vs ds :=
  match r with
  | .nil => .nil
  | .cons a b => .cons (Rep.noSt a (by simp [D.noSts] at h; exact h.1)) (Reps.noSt b (by simp [D.noSts] at h; exact h.2))
end
end
def slotOk : Option Sl → Bool
  | none => true
  | some (.dat d) => D.noSt d
  | some _ => false
/-- the law holds of the script ns, as the plain sides tell -/
def LawF {K : PySem.W.Frag} (N i : Nat) (pre rest : SS K) (ns : List Int) : Prop := ∃ σ1, pre.f (startS N [.lst (iD ns)]) none = .nx σ1 none ∧ σ1.all slotOk = true ∧ sget σ1 0 = some (.lst (iD ns)) ∧ ∃ x', rest.f (σ1.set i (some (.dat .st))) (some (begG ns)) = .rt (.bl true) x'
def spL (C : PySem.W.Frag → List Int → Prop) (K : PySem.W.Frag) : Sp := fun vs H Q _ => ∃ a ns F, vs = [.ref a] ∧ Ex F H ∧ TbOk F H ∧ SqL K F a (ns.map V.int) ∧ ns.length ≤ 63 ∧ C K ns ∧ ∀ H', Q (.bl true) H'
def t_law {K : PySem.W.Frag} (i : Nat) (pre rest : SS K) (W : WX) : TS := tSeq (pre.t W) (tSeq (tAsg (tCallS (spB K) (WE W) (tCons (tVar 0) tNil)) (gName i)) (rest.t W))
theorem law_rd {K : PySem.W.Frag} {i : Nat} {N : List Str} {pre rest : SS K} {C : PySem.W.Frag → List Int → Prop} {vs : List V} {H : Hp} {Q : VK} {E : XK} (hN : 1 ≤ N.length) (hC : ∀ ns, C K ns → LawF N.length i pre rest ns) (h : spL C K vs H Q E) :
    t_law i pre rest (fun cls d _ H' => E cls d H') { nx := fun _ H' => Q .non H', rt := Q } (L2.start N vs) H := by
  obtain ⟨a, ns, F, rfl, ex, tb, hS, hl, hc, q⟩ := h
  obtain ⟨σ1, f1, o1, s1, x', f2⟩ := hC ns hc
  have E0 := env_start (K := K) (g := ((0 : Addr), none)) (F := F) (H := H) (N := N) (vs := [.ref a]) (ds := [.lst (iD ns)]) (x := none) ex (.cons (.lst hS (Reps.ofInts ns)) .nil) ⟨trivial, tb⟩ (by simpa using hN)
  refine pre.ok _ _ _ _ F H _ _ none _ E0 ?_
  rw [f1]
  intro F1 H1 τ1 e1 E1
  obtain ⟨v0, g0, r0⟩ := E1.get 0 _ (sget_some s1)
  have r0 : Rep K (gsa ((0 : Addr), none)) F1 v0 (.lst (iD ns)) := r0
  cases r0 with
  | @lst b us ds s r =>
    have hu := r.ints
    subst hu
    refine ⟨_, g0, b, ns, F1, rfl, E1.ex, E1.gr.tb, s, hl, fun F2 H2 c l sa ex1 ex2 tb2 hc2 hl2 fl fs hne hs => ?_⟩
    have e12 : Ex F1 F2 := ex1
    have alld : ∀ (j : Nat) (t : Sl), σ1[j]? = some (some t) → ∃ d, t = .dat d ∧ D.noSt d = true := fun j t ht => by
      have hm := List.all_eq_true.mp o1 (some t) (List.mem_of_getElem? ht)
      cases t with
      | dat d => exact ⟨d, rfl, hm⟩
      | own l => cases hm
      | dic l => cases hm
      | dik l => cases hm
      | clo => cases hm
    have E2 : Env K (sa, some (l, c)) (fun _ => none) F2 F2 H2 (τ1.set i (some (.ref sa))) (σ1.set i (some (.dat .st))) (some (begG ns)) := {
      ex := ex2
      f0 := Ex.refl F2
      fr := fun _ _ z => nomatch z
      dj := fun _ _ _ z => nomatch z
      len := by rw [List.length_set, List.length_set]; exact E1.len
      get := fun j t ht => by
        rcases get_set ht with ⟨rfl, e, hi⟩ | ⟨cc, ht'⟩
        · cases e
          exact ⟨.ref sa, by rw [List.getElem?_set, if_pos rfl, if_pos (by rw [E1.len]; exact hi)], .st⟩
        · obtain ⟨v, h1, h2⟩ := E1.get j t ht'
          obtain ⟨d, rfl, hd⟩ := alld j t ht'
          exact ⟨v, get_set' h1 cc, (Rep.noSt (show Rep K (gsa ((0 : Addr), none)) F1 v d from h2) hd).mono e12⟩
      own := fun j t p ht m => by
        rcases get_set ht with ⟨rfl, e, hi⟩ | ⟨cc, ht'⟩
        · cases e; cases m
        · obtain ⟨d, rfl, _⟩ := alld j t ht'; cases m
      dis := fun j k t u v ht m => by
        rcases get_set ht with ⟨rfl, e, hi⟩ | ⟨cc, ht'⟩
        · cases e; cases m
        · obtain ⟨d, rfl, _⟩ := alld j t ht'; cases m
      gr := ⟨⟨hs, hc2, hl2, fs, fl⟩, tb2⟩
      gf := fun _ _ => rfl
      np := fun _ _ z => nomatch z }
    refine rest.ok _ _ _ _ F2 H2 _ _ _ _ E2 ?_
    rw [f2]
    intro v F3 H3 e3 fin rv
    cases rv
    exact q H3
end Yx

namespace Yx
variable [Tb]
open PySem L2 RZ PySem.Spec PyProof.Rows LamX
theorem Hlp.mono {P : Program} {w : World} {K : PySem.W.Frag} {mg : Str → Option Value} {base : Heap} {j k : Nat} {x : Str} {st : Stmt} {f : Addr} {fd : FuncData} {a : Str} {N : List Str} {HS : (c : Clo K) → @SS _ (cbOf c) K}
    (h : Hlp P w K mg base j x st f fd a N HS) (le : j ≤ k) : Hlp P w K mg base k x st f fd a N HS :=
  ⟨h.F, h.S, h.g, h.ke, h.b, h.v, h.one, fun c cdv A outer s H hr => h.run c cdv A outer s H (hr.mono le)⟩
omit [Tb] in
theorem tabIn_of {K : PySem.W.Frag} {x : Str} {f c P : Addr} {oc e : Value} {od dd : Option Addr} {fd : FuncData} {vs : Array Value} {osl sl : Array (Option Value)} (h1 : PySem.W.nsIn K mainGlobals x = some (some (.ref f))) (h2 : K.lookup f = some ⟨oc, od, .func fd, osl⟩) (h3 : fd.code = .ref c)
    (h4 : K.lookup c = some ⟨e, dd, .fields vs, sl⟩) (h5 : vs[11]? = some (.ref P)) : PySem.W.tabIn K x = some (c, P) := by
  unfold PySem.W.tabIn
  simp only [h1, h2, h3, h4, h5]
omit [Tb] in
theorem tb_one {l : List (Addr × Str)} (h : (l.map (·.1)).Nodup) : ∀ p ∈ l, ∀ q ∈ l, p.1 = q.1 → p = q := by
  induction l with
  | nil => intro p hp; cases hp
  | cons z l ih =>
    rw [List.map_cons, List.nodup_cons] at h
    intro p hp q hq e
    rcases List.mem_cons.mp hp with e1 | hp1
    · rcases List.mem_cons.mp hq with e2 | hq1
      · rw [e1, e2]
      · exact absurd (List.mem_map.mpr ⟨q, hq1, by rw [← e, e1]⟩) h.1
    · rcases List.mem_cons.mp hq with e2 | hq1
      · exact absurd (List.mem_map.mpr ⟨p, hp1, by rw [e, e2]⟩) h.1
      · exact ih h.2 p hp1 q hq1 e
variable [Cb]
/-- the rule for a def whose code object is known -/
theorem def_okL {P : Program} {w : World} {K : PySem.W.Frag} {mg : Str → Option Value} {base : Heap} {x qual : Str} {st : Stmt} {f c : Addr} {fd : FuncData} {N ps : List Str} {k : Nat} (F : Fun K x qual st f fd) (hc : fd.code = .ref c) (S : FnScope N ps (defScope st)) (ss : SS K)
    (der : ∀ (A : Around) (outer : List PySem.Env) (s : Shared) (H : Hp) (E : XK), Room k (A.deeper (envOfC qual (defScope st) s.heap.objs.size f (.ref c))) → (A.deeper (envOfC qual (defScope st) s.heap.objs.size f (.ref c))).guards = some [] →
      PSs (cxOf (L2.CX P w) P w K mg base N qual (defScope st) f (.ref c) A outer s H E) (defBody st) (ss.t fun cls d _ H' => E cls d H')) :
    FnG P w K mg base (k + 1) f fd ps (spF K (mOf ps.length N.length ss.f)) := by
  obtain ⟨oc, od, kV, doc, pm, an, cdv, ct, osl, rfl, lk, hcd⟩ := F.ex
  obtain rfl : cdv = .ref c := hc
  have hle : ps.length ≤ N.length := by
    have e := congrArg List.length S.pre
    rw [List.length_take] at e
    omega
  exact fnG_of lk hcd S (fun vs H Q E h => spF_len h) fun A outer s H vs Q E hr hgu h => ⟨_, der A outer s H E hr hgu, body_ok ps.length N ss hle h⟩
/-- what a call by the lambda of x is filed under -/
abbrev lamQ (x : Str) (sc : Scope) : Str := (envOfC x sc 0 0 .none).qual ++ "<lambda>"
end Yx

/-! # a def that a name of the function holds, called; [e] * n; range of three -/
namespace Yx
variable [Tb] [Cb]
open PySem L2 RZ PySem.Spec PyProof.Rows
/-- a callee without its name -/
def CalV (P : Program) (w : World) (K : PySem.W.Frag) (mg : Str → Option Value) (base : Heap) (k : Nat) (a : Addr) (m : MF) : Prop :=
  ∃ (fd : FuncData) (ps : List Str), PySem.W.keepIn K (.ref a) = true ∧ Binds K fd ps [] ∧ FnG P w K mg base k a fd ps (spF K m)
theorem Cal.v {P : Program} {w : World} {K : PySem.W.Frag} {mg : Str → Option Value} {base : Heap} {n k : Nat} {x : Str} {f a : Addr} {fd : FuncData} {ps : List Str} {m : MF} (c : Cal P w K mg base n x f fd ps m) (g : mg x = some (.ref a)) (h : n ≤ k) : CalV P w K mg base k a m := by
  have e := c.g.symm.trans g
  cases e
  exact ⟨fd, ps, c.k, c.b, c.F.mono h⟩
def lookA (a : Addr) : List (Addr × MF) → Option MF
  | [] => none
  | (b, m) :: r => if a = b then some m else lookA a r
theorem lookA_mem {a : Addr} {m : MF} : ∀ {l : List (Addr × MF)}, lookA a l = some m → (a, m) ∈ l
  | [], h => by cases h
  | (b, m') :: r, h => by
    unfold lookA at h
    by_cases c : a = b
    · rw [if_pos c] at h; cases h; rw [c]; exact List.mem_cons_self
    · rw [if_neg c] at h; exact List.mem_cons_of_mem _ (lookA_mem h)
section
variable {K : PySem.W.Frag} {B : Bs}
/-- f(..), the name's slot holds one of the defs of l -/
def SE.callV (i : Nat) (l : List (Addr × MF)) (a : SA K B) : SE K B where
  t := fun W τ H Q => ∃ (f : Addr) (m : MF), τ[i]? = some (some (.ref f)) ∧ (f, m) ∈ l ∧ tCallS (spF K m) (WE W) (a.t W) τ H Q
  f := fun σ x => match sget σ i with
    | some (.ref f) => match lookA f l with
      | some m => (a.f σ x).bind m
      | none => .bad
    | _ => .bad
  ok := fun g Φ F0 W F H τ σ x Q hB E h => by
    cases hs : sget σ i with
    | none => simp only [hs] at h; exact h.elim
    | some d =>
      cases d with
      | ref f =>
        simp only [hs] at h
        cases hl : lookA f l with
        | none => simp only [hl] at h; exact h.elim
        | some m =>
          simp only [hl] at h
          obtain ⟨v, hv, r⟩ := E.get i _ (sget_some hs)
          have r : Rep K (gsa g) F v (.ref f) := r
          cases r
          exact ⟨f, m, hv, lookA_mem hl, (SE.callF m a).ok g Φ F0 W F H τ σ x Q hB E h⟩
      | _ => simp only [hs] at h; exact h.elim
end
section
variable {K : PySem.W.Frag} {B : Bs}
/-- [..] * n, a new list -/
def SN.rep (a : SN K B) (b : SE K B) : SN K B where
  t := fun W => tOp rRep (a.t W) (b.t W)
  f := fun σ x => (a.f σ x).bind fun ds x1 => (b.f σ x1).bind fun d x2 => match d with
    | .int k => if (i62 k && decide (ds.length * k.toNat ≤ 16777216)) = true then .ok (List.replicate k.toNat ds).flatten x2 else .bad
    | _ => .bad
  ok := fun g Φ F0 W F H τ σ x Q hB E h => by
    refine a.ok g Φ F0 W F H τ σ x _ hB E (Post.step h fun ds x1 h1 p vs F1 H1 e1 E1 hp fr r1 => ?_)
    have ef : Ex Φ (upd Φ p (.lst vs)) := Ex.new fr.ph
    refine b.ok g (upd Φ p (.lst vs)) F0 W F1 H1 τ σ x1 _ (B.mono _ _ _ _ e1 hB) (E1.lift hp fr) ?_
    refine Post.frame ef (Post.mono (q1 := fun d x2 => Post K g Φ F0 W F τ σ (QN K g Φ F0 F τ σ Q) (match d with
      | .int k => if (i62 k && decide (ds.length * k.toNat ≤ 16777216)) = true then R.ok (List.replicate k.toNat ds).flatten x2 else .bad
      | _ => .bad)) e1 (Post.step h1 fun d x2 h2 => h2) fun _ _ z => z) fun d x2 h2 v2 F2 H2 e2 E2 r2 => ?_
    have E3 := E2.drop ef
    cases r2 with
    | int =>
      rename_i k
      simp only at h2
      split at h2
      · rename_i c
        simp only [Bool.and_eq_true, decide_eq_true_eq] at c
        have i6 := i62_ok c.1
        have hp2 : H2 p = some (.lst vs) := E2.fr p _ upd_same
        refine ⟨p, k, vs, rfl, rfl, hp2, by omega, by omega, by rw [r1.length, sizeLine_eq]; exact c.2, fun q hq => ?_⟩
        exact h2 q _ F2 _ (e1.trans e2) (E3.al (Al.newO E3.ex hq)) upd_same (E3.fresh hq) (reps_flat (r1.mono e2) k.toNat)
      · exact h2.elim
    | _ => exact h2.elim
/-- a + b of lists, a new list of one's own -/
def SN.cat (a b : SE K B) : SN K B where
  t := fun W => tOp (opAdd K).r (a.t W) (b.t W)
  f := fun σ x => (a.f σ x).bind fun d x1 => (b.f σ x1).bind fun e x2 => match d, e with
    | .lst ds, .lst es => if szOk (ds.length + es.length) = true then .ok (ds ++ es) x2 else .bad
    | _, _ => .bad
  ok := fun g Φ F0 W F H τ σ x Q hB E h => by
    refine a.ok g Φ F0 W F H τ σ x _ hB E (Post.step h fun d x1 h1 v F1 H1 e1 E1 r1 => ?_)
    refine b.ok g Φ F0 W F1 H1 τ σ x1 _ (B.mono _ _ _ _ e1 hB) E1 (Post.mono e1 (Post.step h1 fun d2 x2 h2 => h2) fun d2 x2 h2 v2 F2 H2 e2 E2 r2 => ?_)
    have r1' := r1.mono e2
    cases r1' with
    | lst s1 q1 =>
      cases r2 with
      | lst s2 q2 =>
        simp only at h2
        split at h2
        · rename_i c
          refine .inr ⟨_, _, _, _, rfl, rfl, ex_l E2.ex s1, ex_l E2.ex s2, by rw [q1.length, q2.length]; exact szOk_le c, fun q hq => ?_⟩
          exact h2 q _ F2 _ (e1.trans e2) (E2.al (Al.newO E2.ex hq)) upd_same (E2.fresh hq) (q1.append q2)
        · exact h2.elim
      | _ => exact h2.elim
    | _ => cases d2 <;> exact h2.elim
/-- range(a, b, -1) -/
def rngE (hi : Int) (n : Nat) : List D := (List.range n).map fun i => .int (hi - (i : Nat))
def SI.rngDn (a b : SE K B) : SI K B where
  t := fun W => iRng3 (tCons (a.t W) (tCons (b.t W) (tCons (tUn (rU fun i => .int (-i)) (tC (.int 1))) tNil)))
  f := fun σ x => (a.f σ x).bind fun d x1 => (b.f σ x1).bind fun e x2 => match d, e with
    | .int m, .int n => if (i62 m && i62 n) = true then .ok (rngE m (m - n).toNat) x2 else .bad
    | _, _ => .bad
  ok := fun g Φ F0 W F H τ σ x Q hB E h => by
    refine a.ok g Φ F0 W F H τ σ x _ hB E (Post.step h fun d x1 h1 v F1 H1 e1 E1 r1 => ?_)
    refine b.ok g Φ F0 W F1 H1 τ σ x1 _ (B.mono _ _ _ _ e1 hB) E1 (Post.mono e1 (Post.step h1 fun d2 x2 h2 => h2) fun d2 x2 h2 v2 F2 H2 e2 E2 r2 => ?_)
    cases r1 with
    | int =>
      cases r2 with
      | int =>
        rename_i m n
        simp only at h2
        by_cases c : (i62 m && i62 n) = true
        · rw [if_pos c] at h2
          rw [Bool.and_eq_true] at c
          have c1 := i62_ok c.1
          have c2 := i62_ok c.2
          refine ⟨1, rfl, ?_⟩
          refine ⟨m, n, -1, (m - n).toNat, rfl, RgC.neg c1.1 c1.2 c2.1 c2.2, h2 _ F2 H2 (e1.trans e2) E2 ?_⟩
          have hl : (rngE m (m - n).toNat).length = (m - n).toNat := by simp [rngE]
          refine ⟨YFn fun i => .int (m + (i : Nat) * (-1)), ⟨fun k H hk _ => by rw [hl] at hk; exact hk, fun H _ => by rw [hl]; exact Nat.le_refl _, fun k H v H' hk _ y => y⟩, ?_⟩
          rintro i H v H' hi e ⟨rfl, rfl⟩ G1 g1 g2
          rw [hl] at hi
          exact ⟨G1, .int (m - (i : Nat)), Al.refl g2, by simp [rngE, hi], by
            show Rep K (gsa g) G1 (.int (m + (i : Nat) * (-1))) (.int (m - (i : Nat)))
            rw [show m + ((i : Nat) : Int) * (-1) = m - ((i : Nat) : Int) by omega]
            exact .int⟩
        · rw [if_neg c] at h2; exact h2.elim
      | _ => exact h2.elim
    | _ => exact h2.elim
end
/-! ### f(k = v, ..) -/
theorem pe_callGK0 {X : Cx} {k : Nat} {f : Addr} {fd : FuncData} {ps ks : List Str} {sp : Sp} {x : Str} {p pos : Pos} {kws : List Keyword} {t : TA} {W : WX} (F : FnG X.prog X.w X.K X.mg X.base k f fd ps sp) (hr : Room k X.A) (hgu : X.A.guards = some []) (hg : Gl X x) (hm : X.mg x = some (.ref f)) (hk : PySem.W.keepIn X.K (.ref f) = true)
    (hb : ∀ (s : Shared) (us : List Value), us.length = ps.length → BindsTo s fd ⟨[], ks.zip us⟩ (ps.zip us)) (tk : Takes X W) (hkw : PK X kws t) (hall : (backToKw pos (keywordEach kws X.env)).all (·.1.isSome) = true := by rfl) (hks : (backToKw pos (keywordEach kws X.env)).filterMap (·.1) = ks := by rfl)
    (hdb : (x == ("__debug__" : Str)) = false := by decide) (hpl : ((backTo pos (starEach [] X.env)).any (·.1) || (backToKw pos (keywordEach kws X.env)).any (·.1.isNone)) = false := by rfl) : PE X (.Call (.Name x p) [] kws pos) (tCallS sp (WE W) t) := by
  constructor
  intro pins s σ H Q I h
  refine wpAny_Call_Name_kw (ld_glob I hg hm ?_ hdb)
  refine PySem.W.callWith_KW0 (h₀ := X.base) (first := []) I.ok.mod.kin hk hall ?_ hpl
  refine thn (hkw.run pos pins s σ H _ I h) ?_
  rintro ws s1 ⟨zs, H1, I1, rz, q⟩
  refine ⟨I1.kIn, ?_⟩
  rw [hks]
  have lz : ws.length = ps.length := rz.length.symm.trans (F.len _ _ _ _ q)
  apply wpAny_call
  refine codeAny_mono (F.run X.A X.stack s1 H1 ⟨[], ks.zip ws⟩ ws zs Q (WE W σ) hr hgu I1.env0 (hb s1 ws lz) rz q) ?_
  intro res s' got
  match res, got with
  | .error e, got => exact passAt tk σ pins H1 s1 e s' I1 got
  | .ok (.ret u), got => exact I1.after got
  | .ok .next, got => exact False.elim got
  | .ok .brk, got => exact False.elim got
  | .ok .cont, got => exact False.elim got
/-! ### a block within a block -/
end Yx

namespace Yx
variable [Tb] [Cb]
open PySem L2 RZ
section
variable {K : PySem.W.Frag} {B : Bs}
/-- *e within a display -/
def SA.star (a : SQ K B) (r : SA K B) : SA K B where
  t := fun W => StX.tStar K (a.t W) (r.t W)
  f := fun σ x => (a.f σ x).bind fun b x1 => (r.f σ x1).bind fun ds x2 => .ok (b.2 ++ ds) x2
  ok := fun g Φ F0 W F H τ σ x Q hB E h => by
    refine a.ok g Φ F0 W F H τ σ x _ hB E (Post.step h fun b x1 h1 p vs F1 H1 e1 E1 s r1 => ?_)
    refine ⟨p, vs, rfl, ?_, ?_⟩
    · cases hb : b.1 with
      | true => rw [hb] at s; exact .inl s
      | false => rw [hb] at s; exact .inr s
    · refine r.ok g Φ F0 W F1 H1 τ σ x1 _ (B.mono _ _ _ _ e1 hB) E1 (Post.mono e1 (Post.step h1 fun d2 x2 h2 => h2) fun ds x2 h2 ws F2 H2 e2 E2 r2 => ?_)
      exact h2 (vs ++ ws) F2 H2 (e1.trans e2) E2 ((r1.mono e2).append r2)
theorem walk_rvL {sa : Addr} {F : Hp} {a : Addr} {vs : List V} {ds : List D} (s : SqL K F a vs) (r : Reps K sa F vs ds) : WalkD K sa (Itv K a vs.length) F ds.reverse := by
  refine ⟨fun i H x H' => H' = H ∧ vs[vs.length - 1 - i]? = some x, by rw [List.length_reverse, ← r.length]; exact walk_rev.mono (fun H e => ex_l e s) (fun _ _ _ _ _ _ y => y), ?_⟩
  rintro i H x H' hi e ⟨rfl, hx⟩ F1 e1 e2
  obtain ⟨d, hd, rd⟩ := r.getV hx
  rw [List.length_reverse] at hi
  have hl := r.length
  refine ⟨F1, d, Al.refl e2, ?_, rd.mono e1⟩
  rw [List.getElem?_reverse (by omega), ← hl]
  exact hd
theorem walk_rvT {sa : Addr} {F : Hp} {a : Addr} {vs : List V} {ds : List D} (s : SqT K F a vs) (r : Reps K sa F vs ds) : WalkD K sa (RT.ItvT K a vs.length) F ds.reverse := by
  have w : Walk (RT.ItvT K a vs.length) vs.length (fun H => SqT K H a vs) (fun i H x H' => H' = H ∧ vs[vs.length - 1 - i]? = some x) :=
    ⟨fun i _ hi q => ⟨hi, vs, vs[vs.length - 1 - i]'(by omega), q, by simp [show vs.length - 1 - i < vs.length by omega]⟩, fun _ _ => Nat.le_refl _, fun _ _ _ _ _ q y => ⟨y.1, y.2 vs q⟩⟩
  refine ⟨fun i H x H' => H' = H ∧ vs[vs.length - 1 - i]? = some x, by rw [List.length_reverse, ← r.length]; exact w.mono (fun H e => ex_t e s) (fun _ _ _ _ _ _ y => y), ?_⟩
  rintro i H x H' hi e ⟨rfl, hx⟩ F1 e1 e2
  obtain ⟨d, hd, rd⟩ := r.getV hx
  rw [List.length_reverse] at hi
  have hl := r.length
  refine ⟨F1, d, Al.refl e2, ?_, rd.mono e1⟩
  rw [List.getElem?_reverse (by omega), ← hl]
  exact hd
/-- reversed(a), a list or a tuple -/
def SI.rev (a : SE K B) : SI K B where
  t := fun W => RT.iRevA K (a.t W)
  f := fun σ x => (a.f σ x).bind fun d x1 => match seqD d with
    | some ds => .ok ds.reverse x1
    | none => .bad
  ok := fun g Φ F0 W F H τ σ x Q hB E h => by
    refine a.ok g Φ F0 W F H τ σ x _ hB E (Post.step h fun d x1 h1 v F1 H1 e1 E1 r1 => ?_)
    cases r1 with
    | tup s r => exact ⟨_, _, rfl, .inr ⟨ex_t E1.ex (SqT.of s), h1 _ F1 H1 e1 E1 (walk_rvT (SqT.of s) r)⟩⟩
    | lst s r => exact ⟨_, _, rfl, .inl ⟨ex_l E1.ex s, h1 _ F1 H1 e1 E1 (walk_rvL s r)⟩⟩
    | _ => exact h1.elim
/-- reversed(range(a)), reversed(range(a, b)) -/
theorem walk_rvR {sa : Addr} {F : Hp} {a b : Int} : WalkD K sa (Itc (a + (((b - a).toNat : Nat) : Int) - 1) (-1) (b - a).toNat) F (rngD a (b - a).toNat).reverse := by
  have hl : (rngD a (b - a).toNat).reverse.length = (b - a).toNat := by simp [rngD]
  refine ⟨YFn fun i => .int (a + (((b - a).toNat : Nat) : Int) - 1 + (i : Nat) * (-1)), by rw [hl]; exact walk_rangeC.mono (fun _ _ => trivial) (fun _ _ _ _ _ _ y => y), ?_⟩
  rintro i H x H' hi e ⟨rfl, rfl⟩ F1 e1 e2
  rw [hl] at hi
  refine ⟨F1, .int (a + (((b - a).toNat : Nat) : Int) - 1 + (i : Nat) * (-1)), Al.refl e2, ?_, .int⟩
  rw [List.getElem?_reverse (by simpa [rngD] using hi)]
  have e1 : (rngD a (b - a).toNat).length = (b - a).toNat := by simp [rngD]
  rw [e1]
  have hlt : (b - a).toNat - 1 - i < (b - a).toNat := by omega
  simp only [rngD, List.getElem?_map, List.getElem?_range hlt, Option.map_some]
  congr 2
  omega
/-- reversed(range(a)) -/
def SI.rvr1 (a : SE K B) : SI K B where
  t := fun W => iRevR (L2.tRg1 (a.t W))
  f := fun σ x => (a.f σ x).bind fun d x1 => match d with
    | .int n => if i62 n = true then .ok (rngD 0 (n - 0).toNat).reverse x1 else .bad
    | _ => .bad
  ok := fun g Φ F0 W F H τ σ x Q hB E h => by
    refine a.ok g Φ F0 W F H τ σ x _ hB E (Post.step h fun d x1 h1 v F1 H1 e1 E1 r1 => ?_)
    cases r1 with
    | int =>
      rename_i n
      simp only at h1
      by_cases c : i62 n = true
      · rw [if_pos c] at h1
        exact ⟨n, rfl, by omega, by omega, (i62_ok c).1, (i62_ok c).2, h1 _ F1 H1 e1 E1 walk_rvR⟩
      · rw [if_neg c] at h1; exact h1.elim
    | _ => exact h1.elim
/-- reversed(range(a, b)) -/
def SI.rvr2 (a b : SE K B) : SI K B where
  t := fun W => iRevR (L2.tRg2 (a.t W) (b.t W))
  f := fun σ x => (a.f σ x).bind fun d x1 => (b.f σ x1).bind fun e x2 => match d, e with
    | .int m, .int n => if (i62 m && i62 n) = true then .ok (rngD m (n - m).toNat).reverse x2 else .bad
    | _, _ => .bad
  ok := fun g Φ F0 W F H τ σ x Q hB E h => by
    refine a.ok g Φ F0 W F H τ σ x _ hB E (Post.step h fun d x1 h1 v F1 H1 e1 E1 r1 => ?_)
    refine b.ok g Φ F0 W F1 H1 τ σ x1 _ (B.mono _ _ _ _ e1 hB) E1 (Post.mono e1 (Post.step h1 fun d2 x2 h2 => h2) fun d2 x2 h2 v2 F2 H2 e2 E2 r2 => ?_)
    cases r1 with
    | int =>
      cases r2 with
      | int =>
        rename_i m n
        simp only at h2
        by_cases c : (i62 m && i62 n) = true
        · rw [if_pos c] at h2
          rw [Bool.and_eq_true] at c
          exact ⟨m, n, rfl, rfl, (i62_ok c.1).1, (i62_ok c.1).2, (i62_ok c.2).1, (i62_ok c.2).2, h2 _ F2 H2 (e1.trans e2) E2 walk_rvR⟩
        · rw [if_neg c] at h2; exact h2.elim
      | _ => exact h2.elim
    | _ => exact h2.elim
end
end Yx

namespace Yx
variable [Tb] [Cb]
open PySem L2 RZ PyProof.Rows
section
variable {K : PySem.W.Frag} {B : Bs}
/-- e in / not in a list of one's own -/
def SE.inOwn (i : Nat) (e : SE K B) (no : Bool) : SE K B where
  t := fun W => if no = true then tOp (rNotInD K) (e.t W) (tVar i) else tOp (rInD K) (e.t W) (tVar i)
  f := fun σ x => match sown σ i with
    | none => .bad
    | some ds => (e.f σ x).bind fun d x1 => R.ofo (inF no d (.lst ds)) x1
  ok := fun g Φ F0 W F H τ σ x Q hB E h => by
    cases es : sown σ i with
    | none => simp only [es] at h; exact h.elim
    | some l =>
      simp only [es] at h
      have key : e.t W τ H fun y H1 => ∃ u, τ[i]? = some (some u) ∧ (if no = true then rNotInD K y u H1 Q else rInD K y u H1 Q) := by
        refine e.ok g Φ F0 W F H τ σ x _ hB E (Post.step h fun d x1 h1 v F1 H1 e1 E1 r1 => ?_)
        obtain ⟨z, ez, q⟩ := ofo_bad h1
        obtain ⟨u, g1, p, vs, rfl, g2, g3, g4⟩ := E1.get i _ (sown_some es)
        have ex' : Ex (upd F1 p (.lst vs)) H1 := E1.ex.into g2
        have r2 : Rep K (gsa g) (upd F1 p (.lst vs)) (.ref p) (.lst l) := .lst (SqL.of upd_same) (g3.mono (Ex.new g4))
        have r1' := r1.mono (F' := upd F1 p (.lst vs)) (Ex.new g4)
        refine ⟨_, g1, ?_⟩
        unfold inF at ez
        simp only at ez
        split at ez
        · rename_i c
          rw [Bool.and_eq_true] at c
          cases ez
          have s2 := shD_ok c.2
          have hq := q (.bl (if no = true then !(D.pys l).any (fun z => PyData.eqv z (D.py d)) else (D.pys l).any fun z => PyData.eqv z (D.py d))) F1 H1 e1 E1 .bl
          cases no with
          | true => exact ⟨_, D.pys l, r1'.dp ex' (shD_ok c.1).1, by have := r2.dp ex' s2.1; rw [D.py] at this; exact this, (shD_ok c.1).2, by have := s2.2; rw [D.py] at this; exact this, hq⟩
          | false => exact ⟨_, D.pys l, r1'.dp ex' (shD_ok c.1).1, by have := r2.dp ex' s2.1; rw [D.py] at this; exact this, (shD_ok c.1).2, by have := s2.2; rw [D.py] at this; exact this, hq⟩
        · cases ez
      cases no with
      | true => simp only [if_true] at key ⊢; exact key
      | false => simp only [Bool.false_eq_true, if_false] at key ⊢; exact key

/-! ### sorted -/
def leD (a b : D) : Bool := PySem.W.dataLe false D.py a b
def alikeD (ds : List D) : Bool := ds.all fun a => ds.all fun b => PySem.W.alike (D.py a) (D.py b)
def tupD : PyData → Bool
  | .tuple (_ :: _) => true
  | _ => false
def plainD : PyData → Bool
  | .none => false
  | .tuple _ => false
  | _ => true
def sortOk (ds : List D) : Bool := D.pures ds && (alikeD ds && ((ds.all fun d => tupD (D.py d)) || (ds.all fun d => plainD (D.py d))) && ds.all (fun d => decide ((D.py d).depth ≤ 60)) && decide (ds.length ≤ 16777216))
end
/-! ### max of three -/
section
variable {K : PySem.W.Frag}
end
end Yx

namespace Yx
variable [Tb] [Cb]
open PySem L2 RZ PyProof.Rows
/-! ### l[lo:hi:-1] of a list -/
def rlIx (lo hi : Option Int) (n : Nat) : List Nat := sliceRange (sliceBounds lo hi (some (-1)) n).1 (sliceBounds lo hi (some (-1)) n).2.1 (sliceBounds lo hi (some (-1)) n).2.2
def cutL {α : Type} (xs : List α) (lo hi : Option Int) : List α := (rlIx lo hi xs.length).filterMap (xs[·]?)
def tRvL (K : PySem.W.Frag) (te : TE) (tl th : TO) : TE := fun σ H Q => te σ H fun x H1 => tl σ H1 fun lo H2 => th σ H2 fun hi H3 => ∃ a xs, x = .ref a ∧ SqL K H3 a xs ∧ (cutL xs lo hi).length ≤ sizeLine ∧ ∀ p, H3 p = none → Q (.ref p) (upd H3 p (.lst (cutL xs lo hi)))
section
variable {K : PySem.W.Frag} {B : Bs}
theorem reps_cutL {sa : Addr} {F : Hp} {vs : List V} {ds : List D} (r : Reps K sa F vs ds) (lo hi : Option Int) : Reps K sa F (cutL vs lo hi) (cutL ds lo hi) := by
  unfold cutL
  have hl := r.length
  rw [hl]
  have key : ∀ l : List Nat, Reps K sa F (l.filterMap (vs[·]?)) (l.filterMap (ds[·]?)) := by
    intro l
    induction l with
    | nil => exact .nil
    | cons k l ih =>
      rw [List.filterMap_cons, List.filterMap_cons]
      by_cases c : k < ds.length
      · have h2 : ds[k]? = some ds[k] := List.getElem?_eq_getElem c
        obtain ⟨u, hu, ru⟩ := r.get h2
        rw [h2, hu]
        exact .cons ru ih
      · rw [List.getElem?_eq_none (by omega), List.getElem?_eq_none (by omega)]
        exact ih
  exact key _
/-- l[lo:hi:-1], l a list -/
def SE.rvB (a : SE K B) (lo hi : SO K B) : SE K B where
  t := fun W => tRvL K (a.t W) (lo.t W) (hi.t W)
  f := fun σ x => (a.f σ x).bind fun d x1 => (lo.f σ x1).bind fun l x2 => (hi.f σ x2).bind fun u x3 => match d with
    | .lst ds => if szOk (cutL ds l u).length = true then .ok (.lst (cutL ds l u)) x3 else .bad
    | _ => .bad
  ok := fun g Φ F0 W F H τ σ x Q hB E h => by
    refine a.ok g Φ F0 W F H τ σ x _ hB E (Post.step h fun d x1 h1 v F1 H1 e1 E1 r1 => ?_)
    refine lo.ok g Φ F0 W F1 H1 τ σ x1 _ (B.mono _ _ _ _ e1 hB) E1 (Post.mono e1 (Post.step h1 fun l x2 h2 => h2) fun l x2 h2 F2 H2 e2 E2 => ?_)
    have e12 := e1.trans e2
    refine hi.ok g Φ F0 W F2 H2 τ σ x2 _ (B.mono _ _ _ _ e12 hB) E2 (Post.mono e12 (Post.step h2 fun l x2 h2 => h2) fun u x3 h3 F3 H3 e3 E3 => ?_)
    have e13 := e12.trans e3
    have r3 := r1.mono (e2.trans e3)
    cases r3 with
    | lst s r =>
      simp only at h3
      by_cases c : szOk (cutL ‹List D› l u).length = true
      · rw [if_pos c] at h3
        have rc := reps_cutL r l u
        refine ⟨_, _, rfl, ex_l E3.ex s, by rw [rc.length]; exact szOk_le c, fun p hp => ?_⟩
        have al := Al.new (o := .lst (cutL ‹List V› l u)) E3.ex hp
        exact h3 _ _ _ (e13.trans al.f) (E3.al al) (.lst (SqL.of upd_same) (rc.mono al.f))
      · rw [if_neg c] at h3; exact h3.elim
    | _ => exact h3.elim
end
end Yx

namespace Yx
variable [Tb] [Cb]
open PySem L2 RZ PyProof.Rows
/-! ### list(range(n)) -/
section
variable {K : PySem.W.Frag} {B : Bs}
theorem reps_rg {sa : Addr} {F : Hp} (lo : Int) : ∀ l : List Nat, Reps K sa F (l.map fun i => V.int (lo + (i : Nat))) (l.map fun i => D.int (lo + (i : Nat)))
  | [] => .nil
  | i :: l => .cons .int (reps_rg lo l)
def SN.lrg1 (a : SE K B) : SN K B where
  t := fun W => tLstRg (tRg1 (a.t W))
  f := fun σ x => (a.f σ x).bind fun d x1 => match d with
    | .int n => if (i62 n && szOk n.toNat) = true then .ok (rngD 0 n.toNat) x1 else .bad
    | _ => .bad
  ok := fun g Φ F0 W F H τ σ x Q hB E h => by
    refine a.ok g Φ F0 W F H τ σ x _ hB E (Post.step h fun d x1 h1 v F1 H1 e1 E1 r1 => ?_)
    cases r1 with
    | int =>
      simp only at h1
      split at h1
      · rename_i n c
        rw [Bool.and_eq_true] at c
        have c1 := of_decide_eq_true c.1
        have c2 := szOk_le c.2
        rw [sizeLine_eq] at c2
        refine ⟨_, rfl, ⟨by omega, by omega, by omega, by omega, by rw [Int.sub_zero]; omega⟩, fun q hq => ?_⟩
        refine h1 q _ F1 _ e1 (E1.al (Al.newO E1.ex hq)) upd_same (E1.fresh hq) ?_
        unfold rgV rngD
        rw [Int.sub_zero]
        exact reps_rg 0 _
      · exact h1.elim
    | _ => exact h1.elim
end
end Yx

local macro_rules | `(tactic| simp_all_arith! [$x:ident]) => `(tactic| dsimp only [$x:ident, Yx.SA.cons, Yx.SA.nil, Yx.SA.star, Yx.SE.andV, Yx.SE.bin, Yx.SE.bl, Yx.SE.call, Yx.SE.callF, Yx.SE.chain, Yx.SE.con, Yx.SE.inDic, Yx.SE.inOwn, Yx.SE.int, Yx.SE.isi, Yx.SE.ite, Yx.SE.ixO, Yx.SE.non, Yx.SE.notV, Yx.SE.ofN, Yx.SE.orV, Yx.SE.ref, Yx.SE.rv, Yx.SE.seq, Yx.SE.sl, Yx.SE.stAt, Yx.SE.stCells, Yx.SE.stLeft, Yx.SE.str, Yx.SE.tup, Yx.SE.tupOf, Yx.SE.un, Yx.SE.var, Yx.SE.hole, Yx.SE.callV, Yx.SN.rep, Yx.SN.lrg1, Yx.SN.cat, Yx.SI.rngDn, Yx.SI.zip3G, Yx.SE.xis, Yx.SE.xval, Yx.SG.name, Yx.SG.tup, Yx.SGs.cons, Yx.SGs.nil, Yx.SI.enum, Yx.SI.enumL, Yx.SI.enumZ, Yx.SI.lst, Yx.SI.rev, Yx.SI.rng1, Yx.SI.rng2, Yx.SI.rvr1, Yx.SI.rvr2, Yx.SI.tup, Yx.SI.any, Yx.SE.rvl, Yx.SE.rvB, Yx.SI.zip, Yx.SI.zipG, Yx.SN.comp, Yx.SN.comp2, Yx.SN.lst, Yx.SN.seq, Yx.SO.none, Yx.SO.some, Yx.SQ.of, Yx.SQ.ofN, Yx.SQ.own, Yx.SS.append, Yx.SS.asg, Yx.SS.asgO, Yx.SS.brk, Yx.SS.cont, Yx.SS.dput, Yx.SS.expr, Yx.SS.for, Yx.SS.frz, Yx.SS.ite, Yx.SS.par2, Yx.SS.par3, Yx.SS.raise0, Yx.SS.raise1, Yx.SS.ret, Yx.SS.seq, Yx.SS.setix, Yx.SS.skip, Yx.SS.stAt, Yx.SS.stLeft, Yx.SS.while, Yx.ST.and, Yx.ST.not, Yx.ST.or, Yx.ST.tru, Yx.ST.tru1, Yx.ST.val, Yx.SX.cons, Yx.SX.consD, Yx.SX.consN, Yx.SX.nil])
local macro_rules | `(tactic| simp_all_arith!) => `(tactic| dsimp only [Yx.SA.cons, Yx.SA.nil, Yx.SA.star, Yx.SE.andV, Yx.SE.bin, Yx.SE.bl, Yx.SE.call, Yx.SE.callF, Yx.SE.chain, Yx.SE.con, Yx.SE.inDic, Yx.SE.inOwn, Yx.SE.int, Yx.SE.isi, Yx.SE.ite, Yx.SE.ixO, Yx.SE.non, Yx.SE.notV, Yx.SE.ofN, Yx.SE.orV, Yx.SE.ref, Yx.SE.rv, Yx.SE.seq, Yx.SE.sl, Yx.SE.stAt, Yx.SE.stCells, Yx.SE.stLeft, Yx.SE.str, Yx.SE.tup, Yx.SE.tupOf, Yx.SE.un, Yx.SE.var, Yx.SE.hole, Yx.SE.callV, Yx.SN.rep, Yx.SN.lrg1, Yx.SN.cat, Yx.SI.rngDn, Yx.SI.zip3G, Yx.SE.xis, Yx.SE.xval, Yx.SG.name, Yx.SG.tup, Yx.SGs.cons, Yx.SGs.nil, Yx.SI.enum, Yx.SI.enumL, Yx.SI.enumZ, Yx.SI.lst, Yx.SI.rev, Yx.SI.rng1, Yx.SI.rng2, Yx.SI.rvr1, Yx.SI.rvr2, Yx.SI.tup, Yx.SI.any, Yx.SE.rvl, Yx.SE.rvB, Yx.SI.zip, Yx.SI.zipG, Yx.SN.comp, Yx.SN.comp2, Yx.SN.lst, Yx.SN.seq, Yx.SO.none, Yx.SO.some, Yx.SQ.of, Yx.SQ.ofN, Yx.SQ.own, Yx.SS.append, Yx.SS.asg, Yx.SS.asgO, Yx.SS.brk, Yx.SS.cont, Yx.SS.dput, Yx.SS.expr, Yx.SS.for, Yx.SS.frz, Yx.SS.ite, Yx.SS.par2, Yx.SS.par3, Yx.SS.raise0, Yx.SS.raise1, Yx.SS.ret, Yx.SS.seq, Yx.SS.setix, Yx.SS.skip, Yx.SS.stAt, Yx.SS.stLeft, Yx.SS.while, Yx.ST.and, Yx.ST.not, Yx.ST.or, Yx.ST.tru, Yx.ST.tru1, Yx.ST.val, Yx.SX.cons, Yx.SX.consD, Yx.SX.consN, Yx.SX.nil, Yx.HA.t])

set_option exponentiation.threshold 500
namespace Yx
variable [Tb] [Cb]
open PySem PySem.Spec PyProof.Rows L2 RZ

/-! ### plain evaluation -/
theorem log_lt {n k : Nat} (h : n < 2 ^ k) (hk : 0 < k) : n.log2 < k := by
  by_cases z : n = 0
  · subst z; simpa using hk
  · exact (Nat.log2_lt z).2 h
/-- a number of ordinary size -/
def Sm (i : Int) : Prop := i.natAbs < 2 ^ 400000
theorem Sm.of {i : Int} (h : -(10 : Int) ^ 100 ≤ i) (h2 : i ≤ 10 ^ 100) : Sm i := by
  have : i.natAbs < 2 ^ 400 := by
    have e : (10 : Int) ^ 100 < 2 ^ 400 := by decide
    omega
  exact Nat.lt_trans this (Nat.pow_lt_pow_right (by decide) (by decide))
section
variable {K : PySem.W.Frag}
theorem mulF_int {i j : Int} (hi : Sm i) (hj : Sm j) : (opMul K).f (.int i) (.int j) = some (.int (i * j)) := by
  show Yx.mulF (.int i) (.int j) = _
  unfold mulF
  have a := log_lt hi (by decide)
  have b := log_lt hj (by decide)
  simp only
  rw [if_pos (by simp only [decide_eq_true_eq]; omega)]
theorem addI {i j : Int} : (opAdd K).f (.int i) (.int j) = some (.int (i + j)) := rfl
theorem subI {i j : Int} : (opSub K).f (.int i) (.int j) = some (.int (i - j)) := rfl
theorem intOp_in {c : Int → Int → Bool} {g : Int → Int → D} {i j : Int} (h : c i j = true) : intOp c g (.int i) (.int j) = some (g i j) := by
  show (if c i j = true then some (g i j) else none) = _
  rw [if_pos h]
theorem modI {i j : Int} (h : 0 < j) : (opMod K).f (.int i) (.int j) = some (.int (i % j)) := intOp_in (c := fun _ j => decide (0 < j)) (g := fun i j => .int (i % j)) (decide_eq_true h)
theorem divI {i j : Int} (h : 0 < j) (h2 : j ≤ 10 ^ 100) : (opDiv K).f (.int i) (.int j) = some (.int (i / j)) := intOp_in (c := fun _ j => decide (0 < j) && decide (j.natAbs.log2 < 9000)) (g := fun i j => .int (i / j)) (by
  have : j.natAbs < 2 ^ 400 := by
    have e : (10 : Int) ^ 100 < 2 ^ 400 := by decide
    omega
  have := log_lt this (by decide)
  simp only [Bool.and_eq_true, decide_eq_true_eq]
  exact ⟨h, by omega⟩)
theorem ltI {i j : Int} : (opLt K).f (.int i) (.int j) = some (.bl (decide (i < j))) := rfl
theorem leI {i j : Int} : (opLe K).f (.int i) (.int j) = some (.bl (decide (i ≤ j))) := rfl
theorem gtI {i j : Int} : (opGt K).f (.int i) (.int j) = some (.bl (decide (j < i))) := rfl
theorem geI {i j : Int} : (opGe K).f (.int i) (.int j) = some (.bl (decide (j ≤ i))) := rfl
theorem negI {i : Int} : (opNeg K).f (.int i) = some (.int (-i)) := rfl
theorem intI {i : Int} : (opInt K).f [.int i] = some (.int i) := rfl
theorem lenI {b : Bool} {ds : List D} : (opLen K).f b ds = some (.int ds.length) := rfl
theorem tupI {ds : List D} : (opTuple K).f false ds = some (.tup ds) := rfl
theorem listI {b : Bool} {ds : List D} : (opList K).f b ds = some ds := rfl
end
theorem sget_z {d : D} {σ : Sg} : sget (some (.dat d) :: σ) 0 = some d := rfl
theorem sget_s {s : Option Sl} {σ : Sg} {i : Nat} : sget (s :: σ) (i + 1) = sget σ i := rfl
theorem sown_z {ds : List D} {σ : Sg} : sown (some (.own ds) :: σ) 0 = some ds := rfl
theorem sown_s {s : Option Sl} {σ : Sg} {i : Nat} : sown (s :: σ) (i + 1) = sown σ i := rfl
theorem isSt_y : isSt (some .st) = true := rfl
theorem rep0 {α : Type} {a : α} : List.replicate 0 a = [] := rfl
theorem rep1 {α : Type} {a : α} {n : Nat} : List.replicate (n + 1) a = a :: List.replicate n a := rfl
theorem ixN_of {n : Nat} {k : Int} (h0 : 0 ≤ k) (h : k < n) : ixN n k = some k.toNat := by
  unfold ixN
  rw [if_pos h0, if_pos h]
theorem atI_of {α : Type} {l : List α} {k : Int} (h0 : 0 ≤ k) (h : k < l.length) : atI l k = some (l[k.toNat]'(by omega)) := by
  unfold atI
  rw [ixN_of h0 h, Option.bind_some]
  exact List.getElem?_eq_getElem ..
theorem ixL {K : PySem.W.Frag} {ds : List D} {i : Int} : (opIx K).f (.lst ds) (.int i) = atI ds i := rfl
theorem ixT {K : PySem.W.Frag} {ds : List D} {i : Int} : (opIx K).f (.tup ds) (.int i) = atI ds i := rfl
theorem calm_nil {σ : Sg} : calmS σ [] = true := rfl
theorem calm_none {σ : Sg} {i : Nat} {vs : List Nat} (h : σ[i]? = some none) : calmS σ (i :: vs) = calmS σ vs := by
  unfold calmS
  rw [List.all_cons, h]
  rfl
theorem calm_dat {σ : Sg} {i : Nat} {vs : List Nat} {d : D} (h : σ[i]? = some (some (.dat d))) : calmS σ (i :: vs) = calmS σ vs := by
  unfold calmS
  rw [List.all_cons, h]
  rfl
theorem rngD0 {lo : Int} : rngD lo 0 = [] := rfl
theorem rngD_s {lo : Int} {n : Nat} : rngD lo (n + 1) = .int lo :: rngD (lo + 1) n := by
  unfold rngD
  rw [List.range_succ_eq_map, List.map_cons, List.map_map]
  congr 1
  · simp
  · apply List.map_congr_left
    intro a _
    simp only [Function.comp_apply, D.int.injEq, Nat.succ_eq_add_one, Int.natCast_add]
    omega
theorem i62_of {i : Int} (h : -(10 : Int) ^ 18 ≤ i) (h2 : i ≤ 10 ^ 18) : i62 i = true := by
  have e : (10 : Int) ^ 18 < 2 ^ 62 := by decide
  have e2 : -(2 ^ 62) < -(10 : Int) ^ 18 := by decide
  unfold i62
  simp only [decide_eq_true_eq]
  omega
theorem szOk_lit {n : Nat} (h : n ≤ 16777216) : szOk n = true := decide_eq_true h
theorem atI_0 {α : Type} {a : α} {l : List α} : atI (a :: l) 0 = some a := atI_of (l := a :: l) (k := 0) (by decide) (by simp only [List.length_cons]; omega)
theorem atI_1 {α : Type} {a b : α} {l : List α} : atI (a :: b :: l) 1 = some b := atI_of (l := a :: b :: l) (k := 1) (by decide) (by simp only [List.length_cons]; omega)
theorem atI_2 {α : Type} {a b c : α} {l : List α} : atI (a :: b :: c :: l) 2 = some c := atI_of (l := a :: b :: c :: l) (k := 2) (by decide) (by simp only [List.length_cons]; omega)
theorem atI_last {α : Type} {a : α} {l : List α} : atI (a :: l) (-1) = some ((a :: l).getLast (by simp)) := by
  unfold atI ixN
  rw [if_neg (by decide), if_pos (by simp only [List.length_cons]; omega), Option.bind_some]
  have e : (-1 + ((a :: l).length : Int)).toNat = l.length := by simp only [List.length_cons]; omega
  rw [e, List.getLast_eq_getElem]
  rw [List.getElem?_eq_getElem (by simp)]
  simp
theorem addT {K : PySem.W.Frag} {xs ys : List D} (h : szOk (xs.length + ys.length) = true) : (opAdd K).f (.tup xs) (.tup ys) = some (.tup (xs ++ ys)) := by
  show Yx.catF (.tup xs) (.tup ys) = _
  unfold Yx.catF
  simp only
  rw [if_pos h]
theorem rev0 {α : Type} : cutR ([] : List α) none none = [] := by with_unfolding_all rfl
theorem rev1 {α : Type} {a : α} : cutR [a] none none = [a] := by with_unfolding_all rfl
theorem rev2 {α : Type} {a b : α} : cutR [a, b] none none = [b, a] := by with_unfolding_all rfl
theorem rev3 {α : Type} {a b c : α} : cutR [a, b, c] none none = [c, b, a] := by with_unfolding_all rfl
/-! evaluates a plain side as far as its facts go -/
end Yx
local macro_rules | `(tactic| simp_all_arith [$xs,*]) => `(tactic| simp only [Yx.startS, List.length_cons, List.length_nil, Nat.zero_add, Nat.reduceAdd, if_true, List.map_cons, List.map_nil, Nat.sub_self, Nat.reduceSub, Yx.rep0, Yx.rep1, List.append_nil, List.nil_append, List.cons_append, Yx.sget_z, Yx.sget_s, Yx.sown_z, Yx.sown_s, Yx.ofo_some, Yx.ofo_none, Yx.bind_ok, Yx.bind_bad, Yx.toO_ok, Yx.then_nx, Yx.then_rt, List.set_cons_zero, List.set_cons_succ, List.getElem?_cons_zero, List.getElem?_cons_succ, Nat.reduceLT, Bool.false_eq_true, if_false, Yx.addI, Yx.subI, Yx.modI, Yx.divI, Yx.ltI, Yx.leI, Yx.gtI, Yx.geI, Yx.negI, Yx.intI, Yx.lenI, Yx.tupI, Yx.listI, Yx.isSt_y, Yx.ixL, Yx.ixT, decide_eq_true_eq, Int.reduceLT, Yx.szOk_lit, Nat.reduceLeDiff, Yx.atI_0, Yx.atI_1, Yx.atI_2, Yx.atI_last, List.getLast_cons_cons, List.getLast_singleton, Yx.addT, Yx.rev0, Yx.rev1, Yx.rev2, Yx.rev3, Yx.forF, Yx.calm_nil, Yx.calm_none, Yx.calm_dat, Yx.wipeS, Yx.compF, Yx.rngD0, Yx.rngD_s, Int.toNat_natCast, Int.reduceToNat, Int.reduceLE, Int.reducePow, Int.reduceNeg, $xs,*])

namespace Yx
variable [Tb] [Cb]
open PySem PySem.Spec PyProof.Rows L2 RZ
end Yx

namespace Yx
variable [Tb] [Cb]
open PySem L2 RZ
end Yx

namespace Yx
variable [Tb] [Cb]
open PySem PySem.Spec PyProof.Rows L2 RZ
end Yx

namespace Yx
variable [Tb] [Cb]
open PySem PySem.W PyProof.Rows L2 RZ
/-! the op -/
open PySem.Spec
end Yx

namespace Yx
variable [Tb] [Cb]
open PySem L2 RZ
variable {K : PySem.W.Frag}
/-- x.extend(a new list) -/
def SS.extend (i : Nat) (e : SN K B0) : SS K where
  t := fun W => tDrop (tBM K "list" rExtend (tVar i) (tCons (e.t W) tNil))
  f := fun σ x => match sown σ i with
    | none => .bad
    | some ds => (e.f σ x).toO σ fun es x1 => if decide (ds.length + es.length ≤ 16777216) = true then .nx (σ.set i (some (.own (ds ++ es)))) x1 else .bad
  ok := fun g Φ F0 W F H τ σ x D E h => by
    cases es : sown σ i with
    | none => simp only [es] at h; exact h.elim
    | some ds =>
      simp only [es] at h
      obtain ⟨v, h1, p, vs, rfl, h2, h3, _⟩ := E.get i _ (sown_some es)
      refine ⟨_, h1, .inl ⟨rfl, vs, SqL.of h2⟩, ?_⟩
      refine e.ok g Φ F0 W F H τ σ x _ trivial E (PostS.stepR h fun ds2 x1 g1 q us F1 H1 e1 E1 hq fr r1 => ?_)
      have hlen : decide (ds.length + ds2.length ≤ 16777216) = true := Decidable.byContradiction fun z => by
        rw [if_neg z] at g1
        exact g1.elim
      rw [if_pos hlen] at g1
      obtain ⟨v', h1', p', vs', rfl, k2, k3, k4⟩ := E1.get i _ (sown_some es)
      rw [h1] at h1'; cases h1'
      refine ⟨p, q, vs', us, rfl, rfl, k2, hq, by rw [k3.length, r1.length, sizeLine_eq]; exact of_decide_eq_true hlen, ?_⟩
      exact g1 F1 _ τ e1 (E1.write i (sown_some es) h1 rfl rfl k4 ⟨p, _, rfl, upd_same, k3.append r1, k4⟩)
theorem Reps.unsnoc {sa : Addr} {F : Hp} {d : D} : ∀ {ds : List D} {vs : List V}, Reps K sa F vs (ds ++ [d]) → ∃ ws y, vs = ws ++ [y] ∧ Reps K sa F ws ds ∧ Rep K sa F y d
  | [], vs, r => by
    cases r with
    | cons r1 r2 =>
      cases r2
      exact ⟨[], _, rfl, .nil, r1⟩
  | e :: ds, vs, r => by
    cases r with
    | cons r1 r2 =>
      obtain ⟨ws, y, rfl, h1, h2⟩ := Reps.unsnoc (ds := ds) r2
      exact ⟨_ :: ws, y, rfl, .cons r1 h1, h2⟩
/-- y = x.pop() -/
def SS.popTo (j i : Nat) : SS K where
  t := fun W => tAsg (tBM0 K "list" rPop (tVar i)) (gName j)
  f := fun σ x => match sown σ i with
    | none => .bad
    | some ds => match ds.getLast? with
      | some d => if i = j then .bad else .nx ((σ.set i (some (.own ds.dropLast))).set j (some (.dat d))) x
      | none => .bad
  ok := fun g Φ F0 W F H τ σ x D E h => by
    cases es : sown σ i with
    | none => simp only [es] at h; exact h.elim
    | some ds =>
      simp only [es] at h
      cases el : ds.getLast? with
      | none => simp only [el] at h; exact h.elim
      | some d =>
        simp only [el] at h
        by_cases c : i = j
        · rw [if_pos c] at h; exact h.elim
        · rw [if_neg c] at h
          obtain ⟨v, h1, p, vs, rfl, h2, h3, k4⟩ := E.get i _ (sown_some es)
          have ed : ds = ds.dropLast ++ [d] := by
            obtain ⟨c, rfl⟩ := List.getLast?_eq_some_iff.1 el
            simp
          have h3' := h3
          rw [ed] at h3'
          obtain ⟨ws, y, rfl, r1, r2⟩ := Reps.unsnoc h3'
          refine ⟨_, h1, .inl ⟨rfl, _, SqL.of h2⟩, ?_⟩
          refine ⟨p, ws ++ [y], y, rfl, rfl, h2, by simp, ?_⟩
          rw [List.dropLast_concat]
          have E2 := E.write (s' := .own ds.dropLast) (o := .lst ws) i (sown_some es) h1 rfl rfl k4 ⟨p, _, rfl, upd_same, r1, k4⟩
          exact h F _ _ (Ex.refl F) (E2.set j r2)
/-- .. = x.pop() -/
def SS.popG (tg : SG K) (i : Nat) : SS K where
  t := fun W => tAsg (tBM0 K "list" rPop (tVar i)) tg.t
  f := fun σ x => match sown σ i with
    | none => .bad
    | some ds => match ds.getLast? with
      | some d => match tg.f d (σ.set i (some (.own ds.dropLast))) with
        | some σ1 => .nx σ1 x
        | none => .bad
      | none => .bad
  ok := fun g Φ F0 W F H τ σ x D E h => by
    cases es : sown σ i with
    | none => simp only [es] at h; exact h.elim
    | some ds =>
      simp only [es] at h
      cases el : ds.getLast? with
      | none => simp only [el] at h; exact h.elim
      | some d =>
        simp only [el] at h
        cases et : tg.f d (σ.set i (some (.own ds.dropLast))) with
        | none => simp only [et] at h; exact h.elim
        | some σ1 =>
          simp only [et] at h
          obtain ⟨v, h1, p, vs, rfl, h2, h3, k4⟩ := E.get i _ (sown_some es)
          have ed : ds = ds.dropLast ++ [d] := by
            obtain ⟨c, rfl⟩ := List.getLast?_eq_some_iff.1 el
            simp
          have h3' := h3
          rw [ed] at h3'
          obtain ⟨ws, y, rfl, r1, r2⟩ := Reps.unsnoc h3'
          refine ⟨_, h1, .inl ⟨rfl, _, SqL.of h2⟩, ?_⟩
          refine ⟨p, ws ++ [y], y, rfl, rfl, h2, by simp, ?_⟩
          rw [List.dropLast_concat]
          have E2 := E.write (s' := .own ds.dropLast) (o := .lst ws) i (sown_some es) h1 rfl rfl k4 ⟨p, _, rfl, upd_same, r1, k4⟩
          exact tg.ok g Φ F0 F _ τ _ x y d σ1 _ E2 r2 et fun τ' E' _ => h F _ τ' (Ex.refl F) E'
/-- an own list, asked whether it holds anything -/
def ST.truO {B : Bs} (i : Nat) : ST K B where
  t := fun W => tTruK K (tVar i)
  f := fun σ x => match sown σ i with
    | none => .bad
    | some ds => .ok (!ds.isEmpty) x
  ok := fun g Φ F0 W F H τ σ x Q hB E h => by
    cases es : sown σ i with
    | none => simp only [es] at h; exact h.elim
    | some ds =>
      simp only [es] at h
      obtain ⟨v, h1, p, vs, rfl, h2, h3, k4⟩ := E.get i _ (sown_some es)
      refine ⟨_, h1, !ds.isEmpty, .inl ⟨_, SqL.of h2, by rw [h3.isEmpty]⟩, h F H (Ex.refl F) E⟩
end Yx

namespace Yx
open PySem L2
def Gst.eqDec (a b : Gst) : Decidable (a = b) :=
  if h : a.cells = b.cells ∧ a.lefts = b.lefts ∧ a.at_ = b.at_ then isTrue (by
    obtain ⟨c1, l1, t1⟩ := a
    obtain ⟨c2, l2, t2⟩ := b
    obtain ⟨rfl, rfl, rfl⟩ := h
    rfl) else isFalse (fun e => h (by subst e; exact ⟨rfl, rfl, rfl⟩))
instance : DecidableEq Gst := Gst.eqDec
/-! ### a list of one's own is read by another def, and is one's own again behind -/
mutual
/-- data without lists -/
def noL : D → Bool
  | .tup l => noLs l
  | .lst _ => false
  | .ref _ => false
  | .st => false
  | .dcK _ => false
  | .dcT _ => false
  | _ => true
def noLs : List D → Bool
  | [] => true
  | d :: ds => noL d && noLs ds
end
mutual
def D.beq : D → D → Bool
  | .non, .non => true
  | .bl a, .bl b => a == b
  | .int a, .int b => decide (a = b)
  | .str a, .str b => decide (a = b)
  | .st, .st => true
  | .ref a, .ref b => decide (a = b)
  | .tup a, .tup b => D.beqs a b
  | .lst a, .lst b => D.beqs a b
  | _, _ => false
def D.beqs : List D → List D → Bool
  | [], [] => true
  | a :: as, b :: bs => D.beq a b && D.beqs as bs
  | _, _ => false
end
mutual
theorem D.beq_refl : ∀ d : D, noL d = true → D.beq d d = true
  | .non, _ => rfl
  | .bl a, _ => by simp [D.beq]
  | .int a, _ => by simp [D.beq]
  | .str a, _ => by simp [D.beq]
  | .st, _ => rfl
  | .ref a, _ => by simp [D.beq]
  | .tup a, h => by simp only [D.beq]; exact D.beqs_refl a (by simpa only [noL] using h)
  | .lst a, h => by simp [noL] at h
  | .dcK a, h => by simp [noL] at h
  | .dcT a, h => by simp [noL] at h
theorem D.beqs_refl : ∀ d : List D, noLs d = true → D.beqs d d = true
  | [], _ => rfl
  | a :: as, h => by
    simp only [noLs, Bool.and_eq_true] at h
    simp only [D.beqs, D.beq_refl a h.1, D.beqs_refl as h.2, Bool.and_self]
end
mutual
theorem D.beq_eq : ∀ d e : D, D.beq d e = true → d = e
  | d, e, h => by
    match d, e, h with
    | .non, .non, _ => rfl
    | .bl a, .bl b, h => simp [D.beq] at h; rw [h]
    | .int a, .int b, h => simp [D.beq] at h; rw [h]
    | .str a, .str b, h => simp [D.beq] at h; rw [h]
    | .st, .st, _ => rfl
    | .ref a, .ref b, h => simp [D.beq] at h; rw [h]
    | .tup a, .tup b, h => rw [D.beqs_eq a b (by simpa only [D.beq] using h)]
    | .lst a, .lst b, h => rw [D.beqs_eq a b (by simpa only [D.beq] using h)]
theorem D.beqs_eq : ∀ d e : List D, D.beqs d e = true → d = e
  | [], [], _ => rfl
  | a :: as, b :: bs, h => by
    simp only [D.beqs, Bool.and_eq_true] at h
    rw [D.beq_eq a b h.1, D.beqs_eq as bs h.2]
  | [], _ :: _, h => by simp [D.beqs] at h
  | _ :: _, [], h => by simp [D.beqs] at h
end
/-- what may come back: data without lists, or a list of such that is another one -/
def lnOk (ds : List D) : D → Bool
  | .lst l => noLs l && !D.beqs l ds
  | d => noL d
def lnY (ds : List D) : Option (Str × D) → Bool
  | none => true
  | some (_, d) => lnOk ds d
variable [Tb] [Cb]
section
variable {K : PySem.W.Frag} {sa : Addr} {F : Hp} {p : Addr} {vs : List V}
/-- knowledge without one thing -/
def hide (F : Hp) (p : Addr) : Hp := fun a => if a = p then none else F a
theorem hide_ne {a : Addr} (h : a ≠ p) : hide F p a = F a := if_neg h
theorem hide_eq : hide F p p = none := if_pos rfl
theorem hide_ex : Ex (hide F p) F := fun a o h => by
  by_cases c : a = p
  · subst c; rw [hide_eq] at h; cases h
  · rwa [hide_ne c] at h
theorem ex_hide {F0 : Hp} (e : Ex F0 F) (h : F0 p = none) : Ex F0 (hide F p) := fun a o ha => by
  rw [hide_ne (ne_of_none ha h)]; exact e a o ha
mutual
theorem Rep.thaw (hp : F p = some (.lst vs)) {v : V} {d : D} (r : Rep K sa F v d) (n : noL d = true) : Rep K sa (hide F p) v d :=
  match r with
  | .non => .non
  | .bl => .bl
  | .int => .int
  | .str => .str
  | .st => by simp [noL] at n
  | .ref => by simp [noL] at n
  | .tup (a := a) h1 h2 => .tup (by
      have : a ≠ p := fun z => by rw [z, hp] at h1; cases h1
      rw [hide_ne this]; exact h1) (Reps.thaw hp h2 (by simpa only [noL] using n))
  | .lst _ _ => by simp [noL] at n
  | .dcK _ _ => by simp [noL] at n
  | .dcT _ _ => by simp [noL] at n
theorem Reps.thaw (hp : F p = some (.lst vs)) {us : List V} {ds : List D} (r : Reps K sa F us ds) (n : noLs ds = true) : Reps K sa (hide F p) us ds :=
  match r with
  | .nil => .nil
  | .cons a b => by
    simp only [noLs, Bool.and_eq_true] at n
    exact .cons (Rep.thaw hp a n.1) (Reps.thaw hp b n.2)
end
mutual
theorem Rep.one {v : V} {d e : D} (r : Rep K sa F v d) (r' : Rep K sa F v e) (n : noL d = true) (n' : noL e = true) : d = e := by
  match r with
  | .non => cases r'; rfl
  | .bl => cases r'; rfl
  | .int => cases r'; rfl
  | .str => cases r'; rfl
  | .st => simp [noL] at n
  | .ref => simp [noL] at n
  | .lst _ _ => simp [noL] at n
  | .dcK _ _ => simp [noL] at n
  | .dcT _ _ => simp [noL] at n
  | .tup h1 h2 =>
    cases r' with
    | st => simp [noL] at n'
    | ref => simp [noL] at n'
    | lst _ _ => simp [noL] at n'
    | dcK _ _ => simp [noL] at n'
    | dcT _ _ => simp [noL] at n'
    | tup h3 h4 =>
      rw [h1] at h3; cases h3
      rw [Reps.one h2 h4 (by simpa only [noL] using n) (by simpa only [noL] using n')]
theorem Reps.one {us : List V} {ds es : List D} (r : Reps K sa F us ds) (r' : Reps K sa F us es) (n : noLs ds = true) (n' : noLs es = true) : ds = es := by
  match r with
  | .nil => cases r'; rfl
  | .cons a b =>
    cases r' with
    | cons a' b' =>
      simp only [noLs, Bool.and_eq_true] at n n'
      rw [Rep.one a a' n.1 n'.1, Reps.one b b' n.2 n'.2]
end
theorem Rep.thawL (hp : F p = some (.lst vs)) {ds : List D} (hr : Reps K sa F vs ds) (hn : noLs ds = true) {v : V} {d : D} (r : Rep K sa F v d) (n : lnOk ds d = true) : Rep K sa (hide F p) v d := by
  cases d with
  | lst l =>
    simp only [lnOk, Bool.and_eq_true, Bool.not_eq_true'] at n
    cases r with
    | lst s rs =>
      rename_i a ws
      refine .lst ?_ (rs.thaw hp n.1)
      rcases s with (h | ⟨o, h⟩) | h
      · refine .inl (.inl ?_)
        have : a ≠ p := fun z => by
          rw [z, hp] at h
          cases h
          rw [rs.one hr n.1 hn, D.beqs_refl ds hn] at n
          exact absurd n.2 (by simp)
        rw [hide_ne this]; exact h
      · refine .inl (.inr ⟨o, ?_⟩)
        have : a ≠ p := fun z => by rw [z, hp] at h; cases h
        rw [hide_ne this]; exact h
      · exact .inr h
  | non => exact r.thaw hp n
  | bl _ => exact r.thaw hp n
  | int _ => exact r.thaw hp n
  | str _ => exact r.thaw hp n
  | st => exact r.thaw hp n
  | ref _ => exact r.thaw hp n
  | tup _ => exact r.thaw hp n
  | dcK _ => exact r.thaw hp n
  | dcT _ => exact r.thaw hp n
end
/-- the other things of one's own hold data without lists -/
def slNoL : Option Sl → Bool
  | some (.own ds) => noLs ds
  | some (.dic kvs) => kvs.all fun p => noL p.2
  | some (.dik kvs) => kvs.all fun p => noL p.2
  | _ => true
def lnSg (σ : Sg) : Bool := σ.all slNoL
section
variable {K : PySem.W.Frag} {g : GA} {Φ F0 F H F' H' : Hp} {τ : St} {σ : Sg} {x : Option Gst} {i : Nat} {p : Addr} {vs : List V} {ds : List D}
theorem KRep.thaw {sa : Addr} (hp : F p = some (.lst vs)) {a : List (List L2.Key × V)} {b : List (List Int × D)} (r : KRep K sa F a b) (n : (b.all fun p => noL p.2) = true) : KRep K sa (hide F p) a b := by
  induction r using KRep.ind with
  | nil => exact .nil
  | cons r1 _ ih =>
    rw [List.all_cons, Bool.and_eq_true] at n
    exact .cons (r1.thaw hp n.1) (ih n.2)
theorem KIs.thaw {sa : Addr} (hp : F p = some (.lst vs)) {a : List (L2.Key × V)} {b : List (Int × D)} (r : KIs K sa F a b) (n : (b.all fun p => noL p.2) = true) : KIs K sa (hide F p) a b := by
  induction r using KIs.ind with
  | nil => exact .nil
  | cons r1 _ ih =>
    rw [List.all_cons, Bool.and_eq_true] at n
    exact .cons (r1.thaw hp n.1) (ih n.2)
/-- back again -/
theorem Env.thaw (E : Env K g Φ F0 F H τ σ x) (hs : σ[i]? = some (some (.own ds))) (ht : τ[i]? = some (some (.ref p))) (hF : F p = none) (hr : Reps K (gsa g) F vs ds) (ln : lnSg σ = true) (e : Ex F F') (hp : F' p = some (.lst vs))
    (E1 : Env K g Φ F0 F' H' τ (σ.set i (some (.dat (.lst ds)))) x) : Env K g Φ F0 (hide F' p) H' τ σ x where
  ex := fun a o h => E1.ex a o (hide_ex a o h)
  f0 := ex_hide E1.f0 (E.f0.back hF)
  fr := E1.fr
  dj := fun a o t h1 h2 => by
    by_cases c : a = p
    · subst c; exact hide_eq
    · rw [hide_ne c]; exact E1.dj a o t h1 h2
  len := E.len
  get := fun j s h => by
    have ef : Ex F (hide F' p) := ex_hide e hF
    by_cases c : i = j
    · subst c
      rw [hs] at h; cases h
      exact ⟨_, ht, p, vs, rfl, E1.ex _ _ hp, hr.mono ef, hide_eq⟩
    · obtain ⟨v, h1, h2⟩ := E1.get j s (get_set' h c)
      have nl : slNoL (some s) = true := List.all_eq_true.1 ln _ (List.mem_of_getElem? h)
      refine ⟨v, h1, ?_⟩
      cases s with
      | dat d =>
        obtain ⟨u, h3, h4⟩ := E.get j _ h
        rw [h1] at h3; cases h3
        exact Rep.mono ef h4
      | own es =>
        obtain ⟨q, ws, rfl, b2, b3, b4⟩ := h2
        refine ⟨q, ws, rfl, b2, b3.thaw hp nl, ?_⟩
        by_cases z : q = p
        · subst z; exact hide_eq
        · rw [hide_ne z]; exact b4
      | dic es =>
        obtain ⟨q, ws, rfl, b2, b3, b4⟩ := h2
        refine ⟨q, ws, rfl, b2, b3.thaw hp nl, ?_⟩
        by_cases z : q = p
        · subst z; exact hide_eq
        · rw [hide_ne z]; exact b4
      | dik es =>
        obtain ⟨q, ws, rfl, b2, b3, b4⟩ := h2
        refine ⟨q, ws, rfl, b2, b3.thaw hp nl, ?_⟩
        by_cases z : q = p
        · subst z; exact hide_eq
        · rw [hide_ne z]; exact b4
      | clo =>
        obtain ⟨u, h3, h4⟩ := E.get j _ h
        rw [h1] at h3; cases h3
        exact ⟨h2.1, h2.2.1, h2.2.2.1, h4.2.2.2.trans ef⟩
  own := E.own
  dis := E.dis
  gr := by
    have ef : Ex F (hide F' p) := ex_hide e hF
    have nn : ∀ a, F' a = none → hide F' p a = none := fun a h => by
      by_cases c : a = p
      · subst c; exact hide_eq
      · rw [hide_ne c]; exact h
    refine ⟨?_, ?_⟩
    · have g0 := E.gr.g0
      have g1 := E1.gr.g0
      obtain ⟨a, g2⟩ := g
      match g2, x, g0, g1 with
      | none, none, _, _ => trivial
      | some (l, c), some s, g0, g1 =>
        obtain ⟨_, a2, _, _, _⟩ := g0
        obtain ⟨b1, b2, b3, b4, b5⟩ := g1
        exact ⟨b1, ex_l ef a2, b3, nn _ b4, nn _ b5⟩
    · exact { tabs := E1.gr.tb.tabs, out := fun a ha => nn a (E1.gr.tb.out a ha), nf := E1.gr.tb.nf.back hide_ex }
  gf := E.gf
  np := E.np
theorem Env.freezeP (E : Env K g Φ F0 F H τ σ x) (hs : σ[i]? = some (some (.own ds))) (ht : τ[i]? = some (some (.ref p))) (hp : H p = some (.lst vs)) (hr : Reps K (gsa g) F vs ds) (hF : F p = none) : Env K g Φ F0 (upd F p (.lst vs)) H τ (σ.set i (some (.dat (.lst ds)))) x := by
  have hm : Φ p = none ∧ p ∉ gfp g := E.own i _ p hs rfl ht
  have e : Ex F (upd F p (.lst vs)) := Ex.new hF
  have hi : i < σ.length := by
    rcases Nat.lt_or_ge i σ.length with h | h
    · exact h
    · rw [List.getElem?_eq_none h] at hs; cases hs
  exact {
    ex := E.ex.into hp
    f0 := E.f0.trans e
    fr := E.fr
    dj := fun a u t h1 h2 => by rw [upd_ne (ne_of_none h1 hm.1)]; exact E.dj a u t h1 h2
    len := by rw [List.length_set]; exact E.len
    get := fun j s h => by
      rcases get_set h with ⟨rfl, e', hi⟩ | ⟨c, h1⟩
      · cases e'; exact ⟨_, ht, .lst (SqL.of upd_same) (hr.mono e)⟩
      · obtain ⟨u, h2, h3⟩ := E.get j s h1
        refine ⟨u, h2, ?_⟩
        cases s with
        | dat d => exact Rep.mono e h3
        | own ds =>
          obtain ⟨q, vs', rfl, b2, b3, b4⟩ := h3
          have hne : q ≠ p := fun z => c (E.dis i j _ _ (.ref p) hs rfl h1 rfl ht (by rw [h2, z]))
          exact ⟨q, vs', rfl, b2, b3.mono e, by rw [upd_ne hne]; exact b4⟩
        | dic ds =>
          obtain ⟨q, vs', rfl, b2, b3, b4⟩ := h3
          have hne : q ≠ p := fun z => c (E.dis i j _ _ (.ref p) hs rfl h1 rfl ht (by rw [h2, z]))
          exact ⟨q, vs', rfl, b2, b3.mono e, by rw [upd_ne hne]; exact b4⟩
        | dik ds =>
          obtain ⟨q, vs', rfl, b2, b3, b4⟩ := h3
          have hne : q ≠ p := fun z => c (E.dis i j _ _ (.ref p) hs rfl h1 rfl ht (by rw [h2, z]))
          exact ⟨q, vs', rfl, b2, b3.mono e, by rw [upd_ne hne]; exact b4⟩
        | clo => exact ⟨h3.1, h3.2.1, h3.2.2.1, h3.2.2.2.trans e⟩
    own := fun j s q h m t => by
      rcases get_set h with ⟨rfl, e', hi⟩ | ⟨c, h1⟩
      · cases e'; cases m
      · exact E.own j s q h1 m t
    dis := fun j k s t u h m h' m' t1 t2 => by
      rcases get_set h with ⟨rfl, e', hi⟩ | ⟨c, h1⟩
      · cases e'; cases m
      · rcases get_set h' with ⟨rfl, e', hi⟩ | ⟨c', h1'⟩
        · cases e'; cases m'
        · exact E.dis j k s t u h1 m h1' m' t1 t2
    gr := E.gr.mono e (fun a ha => by rw [upd_ne (fun z => hm.2 (by rw [← z]; exact ha))]; exact (E.gr.on a ha).2) (fun _ _ => rfl) (fun _ _ h => h) (E.gr.tb.nf.upd (fun _ z => by cases z))
    gf := E.gf
    np := E.np }
end
/-- an expression that reads a list of one's own -/
def SE.loan {K : PySem.W.Frag} {B : Bs} (i : Nat) (e : SE K B) (hB : B = B0) : SE K B where
  t := e.t
  f := fun σ x => match sown σ i with
    | none => .bad
    | some ds => if noLs ds = true ∧ lnSg (σ.set i none) = true then (match e.f (σ.set i (some (.dat (.lst ds)))) x with
        | .ok d x1 => if lnOk ds d = true ∧ x1 = x then .ok d x1 else .bad
        | .exc C y x1 => if lnY ds y = true ∧ x1 = x then .exc C y x1 else .bad
        | .bad => .bad) else .bad
  ok := fun g Φ F0 W F H τ σ x Q hb E h => by
    subst hB
    cases es : sown σ i with
    | none => simp only [es] at h; exact h.elim
    | some ds =>
      simp only [es] at h
      split at h
      · rename_i c
        obtain ⟨c1, c2⟩ := c
        have hs := sown_some es
        obtain ⟨v, ht, p, vs, rfl, hp, hr, hF⟩ := E.get i _ hs
        have ln : lnSg σ = true := List.all_eq_true.2 fun z hz => by
          obtain ⟨j, hj⟩ := List.mem_iff_getElem?.1 hz
          by_cases cj : i = j
          · subst cj; rw [hs] at hj; cases hj; exact c1
          · exact List.all_eq_true.1 c2 z (List.mem_of_getElem? (i := j) (get_set' hj cj))
        have E' := E.freezeP hs ht hp hr hF
        have eF : Ex F (upd F p (.lst vs)) := Ex.new hF
        refine e.ok g Φ F0 W _ H τ _ x Q trivial E' ?_
        cases er : e.f (σ.set i (some (.dat (.lst ds)))) x with
        | bad => simp only [er] at h; exact h.elim
        | ok d x1 =>
          simp only [er] at h
          split at h
          · rename_i c3
            obtain ⟨c3, rfl⟩ := c3
            intro w F' H' e1 E1 r
            have hp1 : F' p = some (.lst vs) := e1 _ _ upd_same
            have hr1 : Reps K (gsa g) F' vs ds := hr.mono (eF.trans e1)
            exact h w (hide F' p) H' (ex_hide (eF.trans e1) hF) (E.thaw hs ht hF hr ln (eF.trans e1) hp1 E1) (r.thawL hp1 hr1 c1 c3)
          · exact h.elim
        | exc C y x1 =>
          simp only [er] at h
          split at h
          · rename_i c3
            obtain ⟨c3, rfl⟩ := c3
            intro F' H' dd e1 E1 r
            have hp1 : F' p = some (.lst vs) := e1 _ _ upd_same
            have hr1 : Reps K (gsa g) F' vs ds := hr.mono (eF.trans e1)
            refine h (hide F' p) H' dd (ex_hide (eF.trans e1) hF) (E.thaw hs ht hF hr ln (eF.trans e1) hp1 E1) ?_
            match y, r, c3 with
            | none, r, _ => exact r
            | some (f, d), ⟨a, w, h1, h2, h3⟩, c3 =>
              refine ⟨a, w, h1, ?_, h3.thawL hp1 hr1 c1 c3⟩
              have : a ≠ p := fun z => by rw [z, hp1] at h2; cases h2
              rw [hide_ne this]; exact h2
          · exact h.elim
      · exact h.elim
end Yx

/-! # dicts: new ones, handed on, walked -/
namespace Yx
variable [Tb] [Cb]
open PySem L2 RZ PySem.Spec PyProof.Rows
section
variable {K : PySem.W.Frag} {sa : Addr} {F : Hp}
/-! ### keys that are numbers -/
def dputK (l : List (Int × D)) (k : Int) (d : D) : List (Int × D) :=
  if (l.any fun kv => decide (kv.1 = k)) = true then l.map (fun kv => if kv.1 = k then (kv.1, d) else kv) else l ++ [(k, d)]
def dgetK (l : List (Int × D)) (k : Int) : Option D := (l.find? fun kv => decide (kv.1 = k)).map (·.2)
theorem inl_inj {a b : Int} (h : (Sum.inl a : L2.Key) = .inl b) : a = b := Sum.inl.inj h
theorem kis_any {a : List (L2.Key × V)} {b : List (Int × D)} (h : KIs K sa F a b) (k : Int) : (a.any fun kv => decide (kv.1 = .inl k)) = (b.any fun kv => decide (kv.1 = k)) := by
  induction h using KIs.ind with
  | nil => rfl
  | @cons k' v d a b r t ih =>
    rw [List.any_cons, List.any_cons, ih]
    congr 1
    by_cases c : k' = k
    · subst c; simp
    · have c' : ¬ (Sum.inl k' : L2.Key) = .inl k := fun z => c (inl_inj z)
      simp [c]
theorem kis_map {a : List (L2.Key × V)} {b : List (Int × D)} (h : KIs K sa F a b) (k : Int) {v : V} {d : D} (r : Rep K sa F v d) :
    KIs K sa F (a.map fun kv => if kv.1 = .inl k then (kv.1, v) else kv) (b.map fun kv => if kv.1 = k then (kv.1, d) else kv) := by
  induction h using KIs.ind with
  | nil => exact .nil
  | @cons k' v' d' a b r' t ih =>
    rw [List.map_cons, List.map_cons]
    by_cases c : k' = k
    · subst c
      rw [if_pos rfl, if_pos rfl]
      exact .cons r ih
    · have c' : ¬ (Sum.inl k' : L2.Key) = .inl k := fun z => c (inl_inj z)
      rw [if_neg c', if_neg c]
      exact .cons r' ih
theorem kis_snoc {a : List (L2.Key × V)} {b : List (Int × D)} (h : KIs K sa F a b) (k : Int) {v : V} {d : D} (r : Rep K sa F v d) : KIs K sa F (a ++ [(.inl k, v)]) (b ++ [(k, d)]) := by
  induction h using KIs.ind with
  | nil => exact .cons r .nil
  | cons r' t ih => exact .cons r' ih
theorem kis_put {a : List (L2.Key × V)} {b : List (Int × D)} (h : KIs K sa F a b) (k : Int) {v : V} {d : D} (r : Rep K sa F v d) : KIs K sa F (putK a (.inl k) v) (dputK b k d) := by
  unfold putK dputK
  rw [kis_any h k]
  by_cases c : (b.any fun kv => decide (kv.1 = k)) = true
  · rw [if_pos c, if_pos c]; exact kis_map h k r
  · rw [if_neg c, if_neg c]; exact kis_snoc h k r
theorem kis_get {a : List (L2.Key × V)} {b : List (Int × D)} (h : KIs K sa F a b) (k : Int) :
    (∃ v d, valV a (.inl k) = some v ∧ dgetK b k = some d ∧ Rep K sa F v d) ∨ (valV a (.inl k) = none ∧ dgetK b k = none) := by
  induction h using KIs.ind with
  | nil => exact .inr ⟨rfl, rfl⟩
  | @cons k' v' d' a b r' t ih =>
    by_cases c : k' = k
    · subst c
      refine .inl ⟨v', d', valV_pos rfl, ?_, r'⟩
      simp [dgetK]
    · have c' : ¬ (Sum.inl k' : L2.Key) = .inl k := fun z => c (inl_inj z)
      have e1 : valV ((.inl k', v') :: a) (.inl k : L2.Key) = valV a (.inl k) := valV_neg c'
      have e2 : dgetK ((k', d') :: b) k = dgetK b k := by simp [dgetK, List.find?_cons, c]
      rw [e1, e2]; exact ih
theorem kis_len {a : List (L2.Key × V)} {b : List (Int × D)} (h : KIs K sa F a b) : a.length = b.length := by
  induction h using KIs.ind with
  | nil => rfl
  | cons _ _ ih => simp [ih]
theorem krep_len {a : List (List L2.Key × V)} {b : List (List Int × D)} (h : KRep K sa F a b) : a.length = b.length := by
  induction h using KRep.ind with
  | nil => rfl
  | cons _ _ ih => simp [ih]
end
/-- what a dict has for a key -/
def dGet (d k : D) : Option (Option D) :=
  match d, k with
  | .dcT l, .tup _ => match keyD k with
    | some ks => some (dgetF l ks)
    | none => none
  | .dcK l, .int i => some (dgetK l i)
  | _, _ => none
section
variable {K : PySem.W.Frag} {sa : Addr} {F H : Hp}
theorem dGet_rep {x y : V} {d k : D} {o : Option D} (e : Ex F H) (r : Rep K sa F x d) (r2 : Rep K sa F y k) (h : dGet d k = some o) : ∃ a ov, x = .ref a ∧ DGet H a y ov ∧ ((∃ v w, ov = some v ∧ o = some w ∧ Rep K sa F v w) ∨ (ov = none ∧ o = none)) := by
  cases r with
  | dcT h1 h2 =>
    rename_i a od kv l
    cases hk : keyD k with
    | none => cases k <;> simp [dGet, hk] at h
    | some ks =>
      obtain ⟨b, rfl, hb⟩ := key_rep e r2 hk
      have h' : some (dgetF l ks) = some o := by
        cases k with
        | tup z => simpa only [dGet, hk] using h
        | _ => cases hk
      cases h'
      refine ⟨a, valV kv (kI ks), rfl, .inr ⟨kv, kI ks, b, .inr ⟨od, e _ _ h1⟩, rfl, hb, rfl⟩, ?_⟩
      rcases krep_get h2 ks with ⟨v, w, q1, q2, q3⟩ | ⟨q1, q2⟩
      · exact .inl ⟨v, w, q1, q2, q3⟩
      · exact .inr ⟨q1, q2⟩
  | dcK h1 h2 =>
    rename_i a od kv l
    cases k with
    | int i =>
      cases r2
      have h' : some (dgetK l i) = some o := h
      cases h'
      refine ⟨a, valV kv (.inl i), rfl, .inl ⟨kv, .inl i, .inr ⟨od, e _ _ h1⟩, rfl, rfl⟩, ?_⟩
      rcases kis_get h2 i with ⟨v, w, q1, q2, q3⟩ | ⟨q1, q2⟩
      · exact .inl ⟨v, w, q1, q2, q3⟩
      · exact .inr ⟨q1, q2⟩
    | _ => cases h
  | _ => cases h
end
section
variable {K : PySem.W.Frag} {B : Bs}
/-- d[k], d a dict that nobody changes -/
def SE.ixD (a e : SE K B) : SE K B where
  t := fun W => tDGet (a.t W) (e.t W)
  f := fun σ x => (a.f σ x).bind fun d x1 => (e.f σ x1).bind fun k x2 => match dGet d k with
    | some (some w) => .ok w x2
    | _ => .bad
  ok := fun g Φ F0 W F H τ σ x Q hB E h => by
    refine a.ok g Φ F0 W F H τ σ x _ hB E (Post.step h fun d x1 h1 v F1 H1 e1 E1 r1 => ?_)
    refine e.ok g Φ F0 W F1 H1 τ σ x1 _ (B.mono _ _ _ _ e1 hB) E1 (Post.mono e1 (Post.step h1 fun k x2 h2 => h2) fun k x2 h2 y F2 H2 e2 E2 r2 => ?_)
    match hg : dGet d k, h2 with
    | some (some w), h2 =>
      obtain ⟨a, ov, rfl, g1, g2⟩ := dGet_rep E2.ex (r1.mono e2) r2 hg
      rcases g2 with ⟨v, w', rfl, q2, q3⟩ | ⟨_, q2⟩
      · cases q2; exact ⟨a, v, rfl, g1, h2 _ F2 H2 (e1.trans e2) E2 q3⟩
      · cases q2
    | some none, h2 => exact h2.elim
    | none, h2 => exact h2.elim
/-- k in d, k not in d, d a dict that nobody changes -/
def SE.inD (e a : SE K B) (no : Bool) : SE K B where
  t := fun W => if no = true then tDNotIn (e.t W) (a.t W) else tDIn (e.t W) (a.t W)
  f := fun σ x => (e.f σ x).bind fun k x1 => (a.f σ x1).bind fun d x2 => match dGet d k with
    | some o => .ok (.bl (if no = true then !o.isSome else o.isSome)) x2
    | none => .bad
  ok := fun g Φ F0 W F H τ σ x Q hB E h => by
    have key : e.t W τ H fun y H1 => a.t W τ H1 fun u H2 => ∃ p o, u = .ref p ∧ DGet H2 p y o ∧ Q (.bl (if no = true then !o.isSome else o.isSome)) H2 := by
      refine e.ok g Φ F0 W F H τ σ x _ hB E (Post.step h fun k x1 h1 y F1 H1 e1 E1 r1 => ?_)
      refine a.ok g Φ F0 W F1 H1 τ σ x1 _ (B.mono _ _ _ _ e1 hB) E1 (Post.mono e1 (Post.step h1 fun d x2 h2 => h2) fun d x2 h2 v F2 H2 e2 E2 r2 => ?_)
      cases hg : dGet d k with
      | none => simp only [hg] at h2; exact h2.elim
      | some o =>
        simp only [hg] at h2
        obtain ⟨p, ov, rfl, g1, g2⟩ := dGet_rep E2.ex r2 (r1.mono e2) hg
        refine ⟨p, ov, rfl, g1, ?_⟩
        rcases g2 with ⟨v, w', rfl, rfl, _⟩ | ⟨rfl, rfl⟩
        · exact h2 _ F2 H2 (e1.trans e2) E2 .bl
        · exact h2 _ F2 H2 (e1.trans e2) E2 .bl
    cases no with
    | true => simp only [if_true] at key ⊢; exact key
    | false => simp only [Bool.false_eq_true, if_false] at key ⊢; exact key
/-! ### a dict of one's own -/
def Sl.dct : Sl → Option D
  | .dic l => some (.dcT l)
  | .dik l => some (.dcK l)
  | _ => none
def sdct (σ : Sg) (i : Nat) : Option D := match σ[i]? with
  | some (some s) => s.dct
  | _ => none
theorem sdct_some {σ : Sg} {i : Nat} {d : D} (h : sdct σ i = some d) : ∃ s, σ[i]? = some (some s) ∧ s.dct = some d ∧ s.mut = true := by
  unfold sdct at h
  split at h
  · rename_i s e
    refine ⟨s, e, h, ?_⟩
    cases s <;> first | rfl | cases h
  · cases h
theorem slDct {sa : Addr} {F H : Hp} {v : V} {s : Sl} {d : D} (h : SlRep K sa F H v s) (e : s.dct = some d) : ∃ p u, v = .ref p ∧ H p = some u ∧ Mut (some u) ∧ F p = none ∧ (∀ ps, u ≠ .tbl ps) ∧ (∀ c q, u ≠ LamX.CodeO c q) ∧ (∀ F', Ex F F' → ∀ od, F' p = some (.frz od u) → Rep K sa F' (.ref p) d) ∧ (∀ F' H', Ex F F' → H' p = some u → F' p = none → SlRep K sa F' H' (.ref p) s) := by
  cases s with
  | dic l =>
    cases e
    obtain ⟨p, kv, rfl, h1, h2, h3⟩ := h
    exact ⟨p, _, rfl, h1, trivial, h3, (fun _ z => by cases z), (fun _ _ z => by unfold LamX.CodeO at z; cases z), fun F' ef od h => .dcT h (h2.mono ef), fun F' H' ef hh hf => ⟨p, kv, rfl, hh, h2.mono ef, hf⟩⟩
  | dik l =>
    cases e
    obtain ⟨p, kv, rfl, h1, h2, h3⟩ := h
    exact ⟨p, _, rfl, h1, trivial, h3, (fun _ z => by cases z), (fun _ _ z => by unfold LamX.CodeO at z; cases z), fun F' ef od h => .dcK h (h2.mono ef), fun F' H' ef hh hf => ⟨p, kv, rfl, hh, h2.mono ef, hf⟩⟩
  | _ => cases e
/-- it is told to all, and nobody changes it -/
theorem Env.lockD {g : GA} {Φ F0 F H : Hp} {τ : L2.St} {σ : Sg} {x : Option Gst} {i : Nat} {s : Sl} {d : D} {p : Addr} {u : HO} {od : Obj} (E : Env K g Φ F0 F H τ σ x) (hs : σ[i]? = some (some s)) (ht : τ[i]? = some (some (.ref p))) (m : s.mut = true) (hF : F p = none) (hH : H p = some u) (nc : ∀ c q, u ≠ LamX.CodeO c q)
    (r : Rep K (gsa g) (upd F p (.frz od u)) (.ref p) d) : Env K g Φ F0 (upd F p (.frz od u)) (upd H p (.frz od u)) τ (σ.set i (some (.dat d))) x := by
  have hm := E.own i _ p hs m ht
  have e : Ex F (upd F p (.frz od u)) := Ex.new hF
  exact {
    ex := E.ex.both
    f0 := E.f0.trans e
    fr := E.fr.mut hm.1
    dj := fun a u t h1 h2 => by rw [upd_ne (ne_of_none h1 hm.1)]; exact E.dj a u t h1 h2
    len := by rw [List.length_set]; exact E.len
    get := fun j t h => by
      rcases get_set h with ⟨rfl, e', hi⟩ | ⟨c, h1⟩
      · cases e'; exact ⟨_, ht, r⟩
      · obtain ⟨w, h2, h3⟩ := E.get j t h1
        refine ⟨w, h2, ?_⟩
        have hne : ∀ q, w = .ref q → t.mut = true → q ≠ p := fun q z mm y => c (E.dis i j _ _ (.ref p) hs m h1 mm ht (by rw [h2, z, y]))
        cases t with
        | dat d => exact Rep.mono e h3
        | own ds =>
          obtain ⟨q, vs', rfl, b2, b3, b4⟩ := h3
          have := hne q rfl rfl
          exact ⟨q, vs', rfl, by rw [upd_ne this]; exact b2, b3.mono e, by rw [upd_ne this]; exact b4⟩
        | dic ds =>
          obtain ⟨q, vs', rfl, b2, b3, b4⟩ := h3
          have := hne q rfl rfl
          exact ⟨q, vs', rfl, by rw [upd_ne this]; exact b2, b3.mono e, by rw [upd_ne this]; exact b4⟩
        | dik ds =>
          obtain ⟨q, vs', rfl, b2, b3, b4⟩ := h3
          have := hne q rfl rfl
          exact ⟨q, vs', rfl, by rw [upd_ne this]; exact b2, b3.mono e, by rw [upd_ne this]; exact b4⟩
        | clo => exact ⟨h3.1, h3.2.1, code_upd hH nc _ _ h3.2.2.1, h3.2.2.2.trans e⟩
    own := fun j s q h m t => by
      rcases get_set h with ⟨rfl, e', hi⟩ | ⟨c, h1⟩
      · cases e'; cases m
      · exact E.own j s q h1 m t
    dis := fun j k s t u h m h' m' t1 t2 => by
      rcases get_set h with ⟨rfl, e', hi⟩ | ⟨c, h1⟩
      · cases e'; cases m
      · rcases get_set h' with ⟨rfl, e', hi⟩ | ⟨c', h1'⟩
        · cases e'; cases m'
        · exact E.dis j k s t u h1 m h1' m' t1 t2
    gr := E.gr.mono e (fun a ha => by rw [upd_ne (fun z => hm.2 (by rw [← z]; exact ha))]; exact (E.gr.on a ha).2) (fun a ha => by rw [upd_ne (fun z => hm.2 (by rw [← z]; exact ha))]) (code_upd hH nc) (E.gr.tb.nf.upd (fun _ z => by cases z))
    gf := E.gf
    np := E.np }
/-- from here on nobody changes the dict of slot i -/
def tLck (i : Nat) (t : TS) : TS := fun D σ H => ∃ d u, σ[i]? = some (some (.ref d)) ∧ H d = some u ∧ Mut (some u) ∧ ∀ od, t D σ (upd H d (.frz od u))
theorem pss_lck {X : Cx} {st : List Stmt} {t : TS} (i : Nat) (h : PSs X st t) : PSs X st (tLck i t) := by
  refine ⟨fun pins s σ H D I hw => ?_⟩
  obtain ⟨d, u, _, hd, mu, hw⟩ := hw
  obtain ⟨od, I1⟩ := I.lock hd mu
  exact h.run pins s σ _ D I1 (hw od)
def SS.frzD (i : Nat) (s : SS K) : SS K where
  t := fun W => tLck i (s.t W)
  f := fun σ x => match sdct σ i with
    | none => .bad
    | some d => s.f (σ.set i (some (.dat d))) x
  ok := fun g Φ F0 W F H τ σ x D E h => by
    cases es : sdct σ i with
    | none => simp only [es] at h; exact h.elim
    | some d =>
      simp only [es] at h
      obtain ⟨sl, hs, hd, m⟩ := sdct_some es
      obtain ⟨v, ht, r⟩ := E.get i _ hs
      obtain ⟨p, u, rfl, h1, mu, hF, nt, nc, mk, _⟩ := slDct r hd
      refine ⟨p, u, ht, h1, mu, fun od => ?_⟩
      have e : Ex F (upd F p (.frz od u)) := Ex.new hF
      exact s.ok g Φ F0 W _ _ τ _ x D (E.lockD hs ht m hF h1 nc (mk _ e od upd_same)) (h.mono e)
/-- {} -/
def SS.newD (i : Nat) (ik : Bool) : SS K where
  t := fun _ => tAsg (if ik = true then tDNewK else tDNewT) (gName i)
  f := fun σ x => .nx (σ.set i (some (if ik = true then .dik [] else .dic []))) x
  ok := fun g Φ F0 W F H τ σ x D E h => by
    cases ik with
    | true => exact fun p hp => h F _ _ (Ex.refl F) ((E.al (Al.newO E.ex hp)).setO i rfl (E.fresh hp) ⟨p, [], rfl, upd_same, .nil, (E.fresh hp).f⟩)
    | false => exact fun p hp => h F _ _ (Ex.refl F) ((E.al (Al.newO E.ex hp)).setO i rfl (E.fresh hp) ⟨p, [], rfl, upd_same, .nil, (E.fresh hp).f⟩)
def SX.consD0 (ik : Bool) (r : SX K) : SX K where
  t := fun W => tCons (if ik = true then tDNewK else tDNewT) (r.t W)
  f := fun σ x => (r.f σ x).bind fun ss x2 => .ok ((if ik = true then .dik [] else .dic []) :: ss) x2
  ok := fun g Φ F0 W F H τ σ x Q E h => by
    cases ik with
    | true =>
      intro p hp
      exact own_then r (s := .dik []) rfl (Ex.refl F) (E.al (Al.newO E.ex hp)) upd_same (E.fresh hp) (fun F2 H2 e2 h2 f2 => ⟨p, [], rfl, h2, .nil, f2⟩) h
    | false =>
      intro p hp
      exact own_then r (s := .dic []) rfl (Ex.refl F) (E.al (Al.newO E.ex hp)) upd_same (E.fresh hp) (fun F2 H2 e2 h2 f2 => ⟨p, [], rfl, h2, .nil, f2⟩) h
/-- what one's own dict has for a key, for the heap -/
theorem own_get {sa : Addr} {F H : Hp} {v y : V} {s : Sl} {d k : D} {o : Option D} (h : SlRep K sa F H v s) (ed : s.dct = some d) (e : Ex F H) (r2 : Rep K sa F y k) (hg : dGet d k = some o) : ∃ a ov, v = .ref a ∧ DGet H a y ov ∧ ((∃ v w, ov = some v ∧ o = some w ∧ Rep K sa F v w) ∨ (ov = none ∧ o = none)) := by
  cases s with
  | dic l =>
    cases ed
    obtain ⟨p, kv, rfl, h1, h2, h3⟩ := h
    cases hk : keyD k with
    | none => cases k <;> simp [dGet, hk] at hg
    | some ks =>
      obtain ⟨b, rfl, hb⟩ := key_rep e r2 hk
      have h' : some (dgetF l ks) = some o := by
        cases k with
        | tup z => simpa only [dGet, hk] using hg
        | _ => cases hk
      cases h'
      refine ⟨p, valV kv (kI ks), rfl, DGet.t h1 hb, ?_⟩
      rcases krep_get h2 ks with ⟨v, w, q1, q2, q3⟩ | ⟨q1, q2⟩
      · exact .inl ⟨v, w, q1, q2, q3⟩
      · exact .inr ⟨q1, q2⟩
  | dik l =>
    cases ed
    obtain ⟨p, kv, rfl, h1, h2, h3⟩ := h
    cases k with
    | int i =>
      cases r2
      have h' : some (dgetK l i) = some o := hg
      cases h'
      refine ⟨p, valV kv (.inl i), rfl, DGet.k (k := .inl i) h1, ?_⟩
      rcases kis_get h2 i with ⟨v, w, q1, q2, q3⟩ | ⟨q1, q2⟩
      · exact .inl ⟨v, w, q1, q2, q3⟩
      · exact .inr ⟨q1, q2⟩
    | _ => cases hg
  | _ => cases ed
/-- d[k], d a dict of one's own -/
def SE.ixOD (i : Nat) (e : SE K B) : SE K B where
  t := fun W => tDGet (tVar i) (e.t W)
  f := fun σ x => match sdct σ i with
    | none => .bad
    | some d => (e.f σ x).bind fun k x1 => match dGet d k with
      | some (some w) => .ok w x1
      | _ => .bad
  ok := fun g Φ F0 W F H τ σ x Q hB E h => by
    cases es : sdct σ i with
    | none => simp only [es] at h; exact h.elim
    | some d =>
      simp only [es] at h
      obtain ⟨sl, hs, hd, m⟩ := sdct_some es
      obtain ⟨v, ht, _⟩ := E.get i _ hs
      refine ⟨v, ht, ?_⟩
      refine e.ok g Φ F0 W F H τ σ x _ hB E (Post.step h fun k x1 h1 y F1 H1 e1 E1 r1 => ?_)
      match hg : dGet d k, h1 with
      | some (some w), h1 =>
        obtain ⟨v', ht', r⟩ := E1.get i _ hs
        rw [ht] at ht'; cases ht'
        obtain ⟨a, ov, rfl, g1, g2⟩ := own_get r hd E1.ex r1 hg
        rcases g2 with ⟨v, w', rfl, q2, q3⟩ | ⟨_, q2⟩
        · cases q2; exact ⟨a, v, rfl, g1, h1 _ F1 H1 e1 E1 q3⟩
        · cases q2
      | some none, h1 => exact h1.elim
      | none, h1 => exact h1.elim
/-- k in d, k not in d, d a dict of one's own -/
def SE.inOD (i : Nat) (e : SE K B) (no : Bool) : SE K B where
  t := fun W => if no = true then tDNotIn (e.t W) (tVar i) else tDIn (e.t W) (tVar i)
  f := fun σ x => match sdct σ i with
    | none => .bad
    | some d => (e.f σ x).bind fun k x1 => match dGet d k with
      | some o => .ok (.bl (if no = true then !o.isSome else o.isSome)) x1
      | none => .bad
  ok := fun g Φ F0 W F H τ σ x Q hB E h => by
    cases es : sdct σ i with
    | none => simp only [es] at h; exact h.elim
    | some d =>
      simp only [es] at h
      obtain ⟨sl, hs, hd, m⟩ := sdct_some es
      have key : e.t W τ H fun y H1 => ∃ u, τ[i]? = some (some u) ∧ ∃ a o, u = .ref a ∧ DGet H1 a y o ∧ Q (.bl (if no = true then !o.isSome else o.isSome)) H1 := by
        refine e.ok g Φ F0 W F H τ σ x _ hB E (Post.step h fun k x1 h1 y F1 H1 e1 E1 r1 => ?_)
        cases hg : dGet d k with
        | none => simp only [hg] at h1; exact h1.elim
        | some o =>
          simp only [hg] at h1
          obtain ⟨v, ht, r⟩ := E1.get i _ hs
          obtain ⟨a, ov, rfl, g1, g2⟩ := own_get r hd E1.ex r1 hg
          refine ⟨_, ht, a, ov, rfl, g1, ?_⟩
          rcases g2 with ⟨v, w', rfl, rfl, _⟩ | ⟨rfl, rfl⟩
          · exact h1 _ F1 H1 e1 E1 .bl
          · exact h1 _ F1 H1 e1 E1 .bl
      cases no with
      | true => simp only [if_true] at key ⊢; exact key
      | false => simp only [Bool.false_eq_true, if_false] at key ⊢; exact key
def sdik (σ : Sg) (i : Nat) : Option (List (Int × D)) :=
  match σ[i]? with
  | some (some (.dik d)) => some d
  | _ => none
theorem sdik_some {σ : Sg} {i : Nat} {d : List (Int × D)} (h : sdik σ i = some d) : σ[i]? = some (some (.dik d)) := by
  unfold sdik at h
  split at h
  · rename_i d' e; cases h; exact e
  · cases h
/-- d[k] = e, k a number -/
def SS.dputK (i : Nat) (ek e : SE K B0) : SS K where
  t := fun W => sDPut (tVar i) (ek.t W) (e.t W)
  f := fun σ x => match sdik σ i with
    | none => .bad
    | some l => (e.f σ x).toO σ fun d x1 => (ek.f σ x1).toO σ fun kd x2 => match kd with
      | .int k => if decide (l.length < 16777216) = true then .nx (σ.set i (some (.dik (Yx.dputK l k d)))) x2 else .bad
      | _ => .bad
  ok := fun g Φ F0 W F H τ σ x D E h => by
    cases es : sdik σ i with
    | none => simp only [es] at h; exact h.elim
    | some l =>
      simp only [es] at h
      refine e.ok g Φ F0 W F H τ σ x _ trivial E (PostS.stepR h fun d x1 h1 v F1 H1 e1 E1 r1 => ?_)
      obtain ⟨u, g1, p, kv, rfl, _, _, _⟩ := E1.get i _ (sdik_some es)
      refine ⟨_, g1, ?_⟩
      refine ek.ok g Φ F0 W F1 H1 τ σ x1 _ trivial E1 (Post.mono e1 (PostS.stepR (τ := τ) h1 fun k x2 h2 => h2) fun kd x2 h2 w F2 H2 e2 E2 r2 => ?_)
      cases r2 with
      | int =>
        rename_i k
        simp only at h2
        by_cases c : decide (l.length < 16777216) = true
        · rw [if_pos c] at h2
          obtain ⟨u', g1', p', kv', rfl, k2, k3, k4⟩ := E2.get i _ (sdik_some es)
          rw [g1] at g1'; cases g1'
          refine ⟨p, _, rfl, DPut.k (k := .inl k) k2 (by rw [kis_len k3, sizeLine_eq]; exact of_decide_eq_true c), ?_⟩
          exact h2 F2 _ τ (e1.trans e2) (E2.write i (sdik_some es) g1 rfl rfl k4 ⟨p, _, rfl, upd_same, kis_put k3 k (r1.mono e2), k4⟩)
        · rw [if_neg c] at h2; exact h2.elim
      | _ => exact h2.elim
/-! ### walks -/
/-- the keys -/
def keysD : D → Option (List D)
  | .dcT l => some (l.map fun p => .tup (p.1.map D.int))
  | .dcK l => some (l.map fun p => .int p.1)
  | _ => none
theorem kis_at {sa : Addr} {F : Hp} {a : List (L2.Key × V)} {b : List (Int × D)} (h : KIs K sa F a b) : ∀ {i : Nat} {k : L2.Key} {v : V}, a[i]? = some (k, v) → ∃ n d, b[i]? = some (n, d) ∧ k = .inl n := by
  induction h using KIs.ind with
  | nil => intro i k v e; simp at e
  | cons r t ih =>
    intro i k v e
    cases i with
    | zero => simp at e; obtain ⟨rfl, rfl⟩ := e; exact ⟨_, _, rfl, rfl⟩
    | succ i => simp at e; obtain ⟨n, d, h1, h2⟩ := ih e; exact ⟨n, d, by simpa using h1, h2⟩
theorem krep_at {sa : Addr} {F : Hp} {a : List (List L2.Key × V)} {b : List (List Int × D)} (h : KRep K sa F a b) : ∀ {i : Nat} {k : List L2.Key} {v : V}, a[i]? = some (k, v) → ∃ n d, b[i]? = some (n, d) ∧ k = kI n := by
  induction h using KRep.ind with
  | nil => intro i k v e; simp at e
  | cons r t ih =>
    intro i k v e
    cases i with
    | zero => simp at e; obtain ⟨rfl, rfl⟩ := e; exact ⟨_, _, rfl, rfl⟩
    | succ i => simp at e; obtain ⟨n, d, h1, h2⟩ := ih e; exact ⟨n, d, by simpa using h1, h2⟩
theorem walk_dK {sa : Addr} {F : Hp} {a : Addr} {o : Obj} {kv : List (L2.Key × V)} {l : List (Int × D)} (s : F a = some (.frz o (.dK kv))) (r : KIs K sa F kv l) : WalkD K sa (Itk a o kv) F (l.map fun p => .int p.1) := by
  refine ⟨_, by rw [List.length_map, ← kis_len r]; exact walk_keys.mono (fun H e => e _ _ s) (fun _ _ _ _ _ _ y => y), ?_⟩
  rintro i H x H' hi e ⟨rfl, k, v, hx, rfl⟩ F1 e1 e2
  obtain ⟨n, d, hd, rfl⟩ := kis_at r hx
  exact ⟨F1, .int n, Al.refl e2, by rw [List.getElem?_map, hd]; rfl, .int⟩
theorem walk_dT {sa : Addr} {F : Hp} {a : Addr} {o : Obj} {kv : List (List L2.Key × V)} {l : List (List Int × D)} (s : F a = some (.frz o (.dT kv))) (r : KRep K sa F kv l) : WalkD K sa (Itkt a o kv) F (l.map fun p => .tup (p.1.map D.int)) := by
  refine ⟨_, by rw [List.length_map, ← krep_len r]; exact walk_keysT.mono (fun H e => e _ _ s) (fun _ _ _ _ _ _ y => y), ?_⟩
  rintro i H x H' hi e ⟨rfl, k, v, q, hx, rfl, hq⟩ F1 e1 e2
  obtain ⟨n, d, hd, rfl⟩ := krep_at r hx
  have eq : (kI n).map L2.kV = n.map V.int := by unfold kI; rw [List.map_map]; rfl
  rw [eq] at hq
  -- the key's own tuple becomes known
  have ef : Ex F1 (upd F1 q (.tup (n.map V.int))) := fun b u hb => by
    by_cases c : b = q
    · subst c
      have := e2 _ _ hb
      rw [hq] at this; cases this
      rw [upd_same]
    · rw [upd_ne c]; exact hb
  refine ⟨upd F1 q (.tup (n.map V.int)), .tup (n.map D.int), ⟨ef, Ex.refl H', fun b u hb => ?_, fun b u t hb hn => ?_, fun h => h.upd (fun _ z => by cases z)⟩, by rw [List.getElem?_map, hd]; rfl, .tup upd_same (Reps.ofInts n)⟩
  · by_cases c : b = q
    · subst c; rw [upd_same] at hb; cases hb; exact hq
    · rw [upd_ne c] at hb; exact e2 _ _ hb
  · by_cases c : b = q
    · subst c; rw [hq] at hb; cases hb; exact absurd rfl (t _)
    · rw [upd_ne c]; exact hn
/-- for k in d -/
def SI.dct (a : SE K B) : SI K B where
  t := fun W => iKeys (a.t W)
  f := fun σ x => (a.f σ x).bind fun d x1 => match keysD d with
    | some ks => .ok ks x1
    | none => .bad
  ok := fun g Φ F0 W F H τ σ x Q hB E h => by
    refine a.ok g Φ F0 W F H τ σ x _ hB E (Post.step h fun d x1 h1 v F1 H1 e1 E1 r1 => ?_)
    cases r1 with
    | dcK s r => exact ⟨_, _, rfl, .inl ⟨_, E1.ex _ _ s, h1 _ F1 H1 e1 E1 (walk_dK s r)⟩⟩
    | dcT s r => exact ⟨_, _, rfl, .inr ⟨_, E1.ex _ _ s, h1 _ F1 H1 e1 E1 (walk_dT s r)⟩⟩
    | _ => exact h1.elim
end
end Yx

namespace Yx
variable [Tb] [Cb]
open PySem PySem.W PyProof.Rows L2 RZ
open PySem.Spec
/-! # sorted of a dict whose keys are numbers -/
def leK (a b : Int) : Bool := leD (.int a) (.int b)
def rSortDK (K : PySem.W.Frag) : List V → Hp → VK → Prop := fun xs H Q => ∃ (a : Addr) (kvs : List (L2.Key × V)) (ks : List Int), xs = [.ref a] ∧ Rd H a (.dK kvs) ∧ kvs.map (·.1) = ks.map Sum.inl ∧ sortOk (ks.map D.int) = true ∧
    ∀ p : Addr, H p = none → Q (.ref p) (upd H p (.lst ((ks.mergeSort leK).map V.int)))
end Yx
namespace Yx
variable [Tb] [Cb]
open PySem PySem.W PyProof.Rows L2 RZ
open PySem.Spec
section
variable {K : PySem.W.Frag} {B : Bs}
theorem kis_keys {sa : Addr} {F : Hp} {a : List (L2.Key × V)} {b : List (Int × D)} (h : KIs K sa F a b) : a.map (·.1) = (b.map (·.1)).map Sum.inl := by
  induction h using KIs.ind with
  | nil => rfl
  | cons r t ih => rw [List.map_cons, List.map_cons, List.map_cons, ih]
/-- sorted(d), d a dict whose keys are numbers -/
def SN.sortDK (a : SE K B) : SN K B where
  t := fun W => tCB (rSortDK K) (tCons (a.t W) tNil)
  f := fun σ x => (a.f σ x).bind fun d x1 => match d with
    | .dcK l => if sortOk ((l.map (·.1)).map D.int) = true then .ok (((l.map (·.1)).mergeSort leK).map D.int) x1 else .bad
    | _ => .bad
  ok := fun g Φ F0 W F H τ σ x Q hB E h => by
    refine a.ok g Φ F0 W F H τ σ x _ hB E (Post.step h fun d x1 h1 v F1 H1 e1 E1 r1 => ?_)
    cases r1 with
    | dcK s r =>
      rename_i p od kv l
      simp only at h1
      by_cases c : sortOk ((l.map (·.1)).map D.int) = true
      · rw [if_pos c] at h1
        exact ⟨p, kv, l.map (·.1), rfl, .inr ⟨od, E1.ex _ _ s⟩, kis_keys r, c, fun p' hn => h1 p' _ F1 _ e1 (E1.al (Al.newO E1.ex hn)) upd_same (E1.fresh hn) (Reps.ofInts _)⟩
      · rw [if_neg c] at h1; exact h1.elim
    | _ => exact h1.elim
end
end Yx

local macro_rules | `(tactic| simp_all_arith! [$x:ident]) => `(tactic| dsimp only [$x:ident, Yx.SE.loan, Yx.SN.sortDK, Yx.SE.ixD, Yx.SE.inD, Yx.SE.ixOD, Yx.SE.inOD, Yx.SS.frzD, Yx.SS.newD, Yx.SX.consD0, Yx.SS.dputK, Yx.SI.dct, Yx.SA.cons, Yx.SA.nil, Yx.SA.star, Yx.SE.andV, Yx.SE.bin, Yx.SE.bl, Yx.SE.call, Yx.SE.callF, Yx.SE.chain, Yx.SE.con, Yx.SE.inDic, Yx.SE.inOwn, Yx.SE.int, Yx.SE.isi, Yx.SE.ite, Yx.SE.ixO, Yx.SE.non, Yx.SE.notV, Yx.SE.ofN, Yx.SE.orV, Yx.SE.ref, Yx.SE.rv, Yx.SE.seq, Yx.SE.sl, Yx.SE.stAt, Yx.SE.stCells, Yx.SE.stLeft, Yx.SE.str, Yx.SE.tup, Yx.SE.tupOf, Yx.SE.un, Yx.SE.var, Yx.SE.hole, Yx.SE.callV, Yx.SN.rep, Yx.SN.lrg1, Yx.SN.cat, Yx.SI.rngDn, Yx.SI.zip3G, Yx.SE.xis, Yx.SE.xval, Yx.SG.name, Yx.SG.tup, Yx.SGs.cons, Yx.SGs.nil, Yx.SI.enum, Yx.SI.enumL, Yx.SI.enumZ, Yx.SI.lst, Yx.SI.rev, Yx.SI.rng1, Yx.SI.rng2, Yx.SI.rvr1, Yx.SI.rvr2, Yx.SI.tup, Yx.SI.any, Yx.SE.rvl, Yx.SE.rvB, Yx.SI.zip, Yx.SI.zipG, Yx.SN.comp, Yx.SN.comp2, Yx.SN.lst, Yx.SN.seq, Yx.SO.none, Yx.SO.some, Yx.SQ.of, Yx.SQ.ofN, Yx.SQ.own, Yx.SS.append, Yx.SS.asg, Yx.SS.asgO, Yx.SS.brk, Yx.SS.cont, Yx.SS.dput, Yx.SS.expr, Yx.SS.for, Yx.SS.frz, Yx.SS.ite, Yx.SS.par2, Yx.SS.par3, Yx.SS.raise0, Yx.SS.raise1, Yx.SS.ret, Yx.SS.seq, Yx.SS.setix, Yx.SS.skip, Yx.SS.stAt, Yx.SS.stLeft, Yx.SS.while, Yx.ST.and, Yx.ST.not, Yx.ST.or, Yx.ST.tru, Yx.ST.tru1, Yx.ST.val, Yx.SX.cons, Yx.SX.consD, Yx.SX.consN, Yx.SX.nil])
local macro_rules | `(tactic| simp_all_arith!) => `(tactic| dsimp only [Yx.SE.loan, Yx.SN.sortDK, Yx.SE.ixD, Yx.SE.inD, Yx.SE.ixOD, Yx.SE.inOD, Yx.SS.frzD, Yx.SS.newD, Yx.SX.consD0, Yx.SS.dputK, Yx.SI.dct, Yx.SA.cons, Yx.SA.nil, Yx.SA.star, Yx.SE.andV, Yx.SE.bin, Yx.SE.bl, Yx.SE.call, Yx.SE.callF, Yx.SE.chain, Yx.SE.con, Yx.SE.inDic, Yx.SE.inOwn, Yx.SE.int, Yx.SE.isi, Yx.SE.ite, Yx.SE.ixO, Yx.SE.non, Yx.SE.notV, Yx.SE.ofN, Yx.SE.orV, Yx.SE.ref, Yx.SE.rv, Yx.SE.seq, Yx.SE.sl, Yx.SE.stAt, Yx.SE.stCells, Yx.SE.stLeft, Yx.SE.str, Yx.SE.tup, Yx.SE.tupOf, Yx.SE.un, Yx.SE.var, Yx.SE.hole, Yx.SE.callV, Yx.SN.rep, Yx.SN.lrg1, Yx.SN.cat, Yx.SI.rngDn, Yx.SI.zip3G, Yx.SE.xis, Yx.SE.xval, Yx.SG.name, Yx.SG.tup, Yx.SGs.cons, Yx.SGs.nil, Yx.SI.enum, Yx.SI.enumL, Yx.SI.enumZ, Yx.SI.lst, Yx.SI.rev, Yx.SI.rng1, Yx.SI.rng2, Yx.SI.rvr1, Yx.SI.rvr2, Yx.SI.tup, Yx.SI.any, Yx.SE.rvl, Yx.SE.rvB, Yx.SI.zip, Yx.SI.zipG, Yx.SN.comp, Yx.SN.comp2, Yx.SN.lst, Yx.SN.seq, Yx.SO.none, Yx.SO.some, Yx.SQ.of, Yx.SQ.ofN, Yx.SQ.own, Yx.SS.append, Yx.SS.asg, Yx.SS.asgO, Yx.SS.brk, Yx.SS.cont, Yx.SS.dput, Yx.SS.expr, Yx.SS.for, Yx.SS.frz, Yx.SS.ite, Yx.SS.par2, Yx.SS.par3, Yx.SS.raise0, Yx.SS.raise1, Yx.SS.ret, Yx.SS.seq, Yx.SS.setix, Yx.SS.skip, Yx.SS.stAt, Yx.SS.stLeft, Yx.SS.while, Yx.ST.and, Yx.ST.not, Yx.ST.or, Yx.ST.tru, Yx.ST.tru1, Yx.ST.val, Yx.SX.cons, Yx.SX.consD, Yx.SX.consN, Yx.SX.nil, Yx.HA.t])

namespace Yx
open PySem PySem.Spec PyProof.Rows L2 RZ
variable {tb : Tb} {cb : Cb}
/-! ### what holds behind a plain evaluation -/
/-- what follows is left as it is while its head is evaluated -/
structure Lz {α : Sort _} (a : α) : Type where
/-- behind an exception -/
abbrev XE := Addr → Option (Str × D) → Option Gst → Prop
abbrev XO := Addr → Option (Str × D) → Sg → Option Gst → Prop
abbrev XF : XE := fun _ _ _ => False
inductive wR {α : Type} (r : R α) (Q : α → Option Gst → Prop) (E : XE) (u : Lz (Q, E) := .mk) : Prop where
  | ok (a : α) (x : Option Gst) (e : r = .ok a x) (q : Q a x)
  | exc (c : Addr) (y : Option (Str × D)) (x : Option Gst) (e : r = .exc c y x) (q : E c y x)
inductive wO (o : O) (N : Sg → Option Gst → Prop) (T : D → Option Gst → Prop) (B C : Sg → Option Gst → Prop) (X : XO) (u : Lz (N, T, B, C, X) := .mk) : Prop where
  | nx (σ : Sg) (x : Option Gst) (e : o = .nx σ x) (q : N σ x)
  | rt (d : D) (x : Option Gst) (e : o = .rt d x) (q : T d x)
  | bk (σ : Sg) (x : Option Gst) (e : o = .bk σ x) (q : B σ x)
  | ct (σ : Sg) (x : Option Gst) (e : o = .ct σ x) (q : C σ x)
  | exc (c : Addr) (y : Option (Str × D)) (σ : Sg) (x : Option Gst) (e : o = .exc c y σ x) (q : X c y σ x)
/-- left as it is -/
def keep (p : Prop) (u : Lz p := .mk) : Prop := p
theorem kp {p : Prop} (h : p) : keep p := h
section
variable {α β : Type} {a : α} {d : D} {x : Option Gst} {σ : Sg} {Q : α → Option Gst → Prop} {N B C : Sg → Option Gst → Prop} {T : D → Option Gst → Prop} {E : XE} {X : XO} {c : Addr} {e : Option (Str × D)}
theorem wR_ok : wR (.ok a x) Q E = Q a x := propext ⟨fun h => (by cases h with | ok b y e q => cases e; exact q | exc c y z e q => cases e), fun h => .ok _ _ rfl h⟩
theorem wR_exc : wR (.exc c e x : R α) Q E = E c e x := propext ⟨fun h => (by cases h with | ok b y e q => cases e | exc c y z e q => cases e; exact q), fun h => .exc _ _ _ rfl h⟩
theorem wR_bad : wR (.bad : R α) Q E = False := propext ⟨fun h => (by cases h with | ok b y e q => cases e | exc c y z e q => cases e), False.elim⟩
theorem wO_nx : wO (.nx σ x) N T B C X = N σ x := propext ⟨fun h => (by cases h <;> rename_i e q <;> cases e <;> exact q), fun h => .nx _ _ rfl h⟩
theorem wO_rt : wO (.rt d x) N T B C X = T d x := propext ⟨fun h => (by cases h <;> rename_i e q <;> cases e <;> exact q), fun h => .rt _ _ rfl h⟩
theorem wO_bk : wO (.bk σ x) N T B C X = B σ x := propext ⟨fun h => (by cases h <;> rename_i e q <;> cases e <;> exact q), fun h => .bk _ _ rfl h⟩
theorem wO_ct : wO (.ct σ x) N T B C X = C σ x := propext ⟨fun h => (by cases h <;> rename_i e q <;> cases e <;> exact q), fun h => .ct _ _ rfl h⟩
theorem wO_exc : wO (.exc c e σ x) N T B C X = X c e σ x := propext ⟨fun h => (by cases h <;> rename_i e q <;> cases e <;> exact q), fun h => .exc _ _ _ _ rfl h⟩
theorem wO_bad : wO .bad N T B C X = False := propext ⟨fun h => (by cases h <;> rename_i e q <;> cases e), False.elim⟩
theorem wR_bind {r : R β} {k : β → Option Gst → R α} : wR (r.bind k) Q E = wR r (fun b y => wR (k b y) Q E) E := by
  cases r with
  | ok a y => rw [wR_ok]; rfl
  | exc c e y => rw [wR_exc]; exact wR_exc
  | bad => rw [wR_bad]; exact wR_bad
theorem wO_toO {r : R β} {k : β → Option Gst → O} : wO (r.toO σ k) N T B C X = wR r (fun b y => wO (k b y) N T B C X) (fun c e y => X c e σ y) := by
  cases r with
  | ok a y => rw [wR_ok]; rfl
  | exc c e y => rw [wR_exc]; exact wO_exc
  | bad => rw [wR_bad]; exact wO_bad
theorem wO_then {o : O} {k : Sg → Option Gst → O} : wO (o.then k) N T B C X = wO o (fun σ y => wO (k σ y) N T B C X) T B C X := by
  cases o with
  | nx σ y => rw [wO_nx]; rfl
  | rt d y => rw [wO_rt]; exact wO_rt
  | bk d y => rw [wO_bk]; exact wO_bk
  | ct d y => rw [wO_ct]; exact wO_ct
  | exc c e σ y => rw [wO_exc]; exact wO_exc
  | bad => rw [wO_bad]; exact wO_bad
theorem wR_is {r : R α} {a : α} {y : Option Gst} (h : r = .ok a y) (q : Q a y) : wR r Q E := .ok _ _ h q
theorem wR_isX {r : R α} {c : Addr} {e : Option (Str × D)} {y : Option Gst} (h : r = .exc c e y) (q : E c e y) : wR r Q E := .exc _ _ _ h q
theorem wR_mono {r : R α} {Q' : α → Option Gst → Prop} {E' : XE} (h : wR r Q E) (m : ∀ a y, Q a y → Q' a y) (mx : ∀ c e y, E c e y → E' c e y) : wR r Q' E' := by
  cases h with
  | ok a y e q => exact .ok a y e (m a y q)
  | exc c y z e q => exact .exc c y z e (mx c y z q)
theorem wO_get {o : O} (h : wO o (fun _ _ => False) T (fun _ _ => False) (fun _ _ => False) (fun _ _ _ _ => False)) : ∃ d y, o = .rt d y ∧ T d y := by
  cases h with
  | rt d y e q => exact ⟨d, y, e, q⟩
  | nx _ _ _ q => exact q.elim
  | bk _ _ _ q => exact q.elim
  | ct _ _ _ q => exact q.elim
  | exc _ _ _ _ _ q => exact q.elim
theorem w_law {o : O} (h : wO o (fun _ _ => False) (fun d _ => d = .bl true) (fun _ _ => False) (fun _ _ => False) (fun _ _ _ _ => False)) : ∃ x', o = .rt (.bl true) x' := by
  obtain ⟨d, y, e, rfl⟩ := wO_get h
  exact ⟨y, e⟩
/-- a def's call -/
theorem w_def {n m : Nat} {f : Sg → Option Gst → O} {ds : List D} {Q : D → Option Gst → Prop} (h : wO (f (startS m ds) x) (fun _ y => Q .non y) Q (fun _ _ => False) (fun _ _ => False) (fun c e _ y => E c e y)) (hl : ds.length = n := by rfl) : wR (mOf n m f ds x) Q E := by
  unfold mOf
  rw [if_pos hl]
  cases h with
  | nx _ _ e q => rw [e]; exact .ok _ _ rfl q
  | rt _ _ e q => rw [e]; exact .ok _ _ rfl q
  | bk _ _ _ q => exact q.elim
  | ct _ _ _ q => exact q.elim
  | exc _ _ _ _ e q => rw [e]; exact .exc _ _ _ rfl q
/-- try -/
theorem wO_try {K : PySem.W.Frag} {sub : Addr → Addr → Option Bool} {hsub : ∀ C c b, sub C c = some b → PySem.W.exmOne K (.ref C) (.ref c) = some b} {b : SS K} {hs : List (Hd K)} {len : ∀ h ∈ hs, ∀ i, h.nm = some i → i < 1000000} :
    wO ((SS.try sub hsub b hs len).f σ x) N T B C X = wO (b.f σ x) N T B C (fun c e σ' y => wO (if (hs.all fun h => match h.nm with
        | some i => decide (i < σ'.length)
        | none => true) = true then tryF sub hs c e σ' y else .bad) N T B C X) := by
  unfold SS.try
  dsimp only
  cases b.f σ x with
  | nx σ y => exact wO_nx.trans wO_nx.symm
  | rt d y => exact wO_rt.trans wO_rt.symm
  | bk d y => exact wO_bk.trans wO_bk.symm
  | ct d y => exact wO_ct.trans wO_ct.symm
  | exc c e σ y => exact (wO_exc (X := fun c e σ' y => wO (if (hs.all fun h => match h.nm with
        | some i => decide (i < σ'.length)
        | none => true) = true then tryF sub hs c e σ' y else .bad) N T B C X)).symm
  | bad => exact wO_bad.trans wO_bad.symm
/-- what a lambda is handed to -/
theorem w_lam {K : PySem.W.Frag} {n : Nat} {HS : (c : Clo K) → @SS _ (cbOf c) K} {m : Option Gst → R D} {Q : D → Option Gst → Prop}
    (h : wO (@SS.f _ (cbOf (Clo.plain K m)) K (HS (Clo.plain K m)) (some .clo :: List.replicate (n - 1) none) x) (fun _ y => Q .non y) Q (fun _ _ => False) (fun _ _ => False) (fun _ _ _ _ => False)) : wR (lamP n HS m x) Q E := by
  unfold lamP
  cases h with
  | nx _ _ e q => rw [e]; exact .ok _ _ rfl q
  | rt _ _ e q => rw [e]; exact .ok _ _ rfl q
  | bk _ _ _ q => exact q.elim
  | ct _ _ _ q => exact q.elim
  | exc _ _ _ _ _ q => exact q.elim
theorem sget_datS {σ : Sg} {i : Nat} : sget (datS σ) i = sget σ i := by
  unfold sget datS
  rw [List.getElem?_map]
  match h : (σ[i]? : Option (Option Sl)) with
  | none => rfl
  | some none => rfl
  | some (some (.dat d)) => rfl
  | some (some (.own d)) => rfl
  | some (some (.dic d)) => rfl
  | some (some (.dik d)) => rfl
  | some (some .clo) => rfl
/-- a loop -/
theorem wO_for {γ : Type} {tg : D → Sg → Option Sg} {bf : Sg → Option Gst → O} (c : γ → D) (l : List γ) (I : List γ → List γ → Sg → Option Gst → Prop) (h0 : I [] l σ x)
    (step : ∀ done a left σ y, done ++ a :: left = l → I done (a :: left) σ y → ∃ σ1, tg (c a) σ = some σ1 ∧ wO (bf σ1 y) (fun σ y => keep (I (done ++ [a]) left σ y)) T N (fun σ y => keep (I (done ++ [a]) left σ y)) X)
    (fin : ∀ σ y, I l [] σ y → N σ y) : wO (forF tg bf (l.map c) σ x) N T B C X := by
  have key : ∀ (left done : List γ) (σ : Sg) (y : Option Gst), done ++ left = l → I done left σ y → wO (forF tg bf (left.map c) σ y) N T B C X := by
    intro left
    induction left with
    | nil =>
      intro done σ y e h
      rw [List.append_nil] at e
      subst e
      exact .nx _ _ rfl (fin σ y h)
    | cons a left ih =>
      intro done σ y e h
      obtain ⟨σ1, h1, h2⟩ := step done a left σ y e h
      simp only [List.map_cons, forF, h1]
      cases h2 with
      | nx σ2 y2 eb q => rw [eb]; exact ih (done ++ [a]) σ2 y2 (by rw [← e]; simp) q
      | ct σ2 y2 eb q => rw [eb]; exact ih (done ++ [a]) σ2 y2 (by rw [← e]; simp) q
      | bk σ2 y2 eb q => rw [eb]; exact .nx _ _ rfl q
      | rt d y2 eb q => rw [eb]; exact .rt _ _ rfl q
      | exc _ _ _ _ eb q => rw [eb]; exact .exc _ _ _ _ rfl q
  exact key l [] σ x rfl h0
theorem wO_forN {tg : D → Sg → Option Sg} {bf : Sg → Option Gst → O} : wO (forF tg bf [] σ x) N T B C X = N σ x := wO_nx
theorem wO_forC {tg : D → Sg → Option Sg} {bf : Sg → Option Gst → O} {d : D} {ds : List D} : wO (forF tg bf (d :: ds) σ x) N T B C X = (match tg d σ with
    | none => False
    | some σ1 => wO (bf σ1 x) (fun σ y => wO (forF tg bf ds σ y) N T B C X) T N (fun σ y => wO (forF tg bf ds σ y) N T B C X) X) := by
  unfold forF
  cases tg d σ with
  | none => exact wO_bad
  | some σ1 =>
    dsimp only
    cases bf σ1 x with
    | nx σ2 y => exact (wO_nx (N := fun σ y => wO (forF tg bf ds σ y) N T B C X)).symm
    | rt d y => exact wO_rt.trans wO_rt.symm
    | bk σ2 y => exact wO_nx.trans wO_bk.symm
    | ct σ2 y => exact (wO_ct (C := fun σ y => wO (forF tg bf ds σ y) N T B C X)).symm
    | exc c e σ2 y => exact wO_exc.trans wO_exc.symm
    | bad => exact wO_bad.trans wO_bad.symm
theorem wR_compN {tg : D → Sg → Option Sg} {cf : Sg → Option Gst → R Bool} {ef : Sg → Option Gst → R D} {acc : List D} {Q : List D → Option Gst → Prop} : wR (compF tg cf ef σ [] acc x) Q E = Q acc x := wR_ok
/-- a comprehension -/
theorem wR_comp {γ : Type} {tg : D → Sg → Option Sg} {cf : Sg → Option Gst → R Bool} {ef : Sg → Option Gst → R D} {Q : List D → Option Gst → Prop} (c : γ → D) (l : List γ) (I : List γ → List D → Option Gst → Prop) (hl : l.length ≤ 16777216) (h0 : I [] [] x)
    (step : ∀ done a left acc y, done ++ a :: left = l → I done acc y → ∃ σ1, tg (c a) σ = some σ1 ∧ wR (cf σ1 y) (fun b y1 => if b = true then wR (ef σ1 y1) (fun d y2 => keep (I (done ++ [a]) (acc ++ [d]) y2)) XF else keep (I (done ++ [a]) acc y1)) XF)
    (fin : ∀ acc y, I l acc y → Q acc y) : wR (compF tg cf ef σ (l.map c) [] x) Q E := by
  have key : ∀ (left done : List γ) (acc : List D) (y : Option Gst), acc.length ≤ done.length → done ++ left = l → I done acc y → wR (compF tg cf ef σ (left.map c) acc y) Q E := by
    intro left
    induction left with
    | nil =>
      intro done acc y _ e h
      rw [List.append_nil] at e
      subst e
      exact .ok _ _ rfl (fin acc y h)
    | cons a left ih =>
      intro done acc y hacc e h
      obtain ⟨σ1, h1, h2⟩ := step done a left acc y e h
      have hd : done.length < l.length := by rw [← e]; simp
      simp only [List.map_cons, compF, h1]
      cases h2 with
      | exc _ _ _ _ q => exact q.elim
      | ok b y1 ec h2 =>
        rw [ec]
        cases b with
        | false => simp only; exact ih (done ++ [a]) acc y1 (by simp only [List.length_append, List.length_cons, List.length_nil]; omega) (by rw [← e]; simp) h2
        | true =>
          rw [if_pos rfl] at h2
          simp only
          cases h2 with
          | exc _ _ _ _ q => exact q.elim
          | ok d y2 ee h2 =>
            rw [ee]
            simp only
            rw [if_pos (decide_eq_true (by omega))]
            exact ih (done ++ [a]) (acc ++ [d]) y2 (by simp only [List.length_append, List.length_cons, List.length_nil]; omega) (by rw [← e]; simp) h2
  exact key l [] [] x (Nat.le_refl _) rfl h0
/-- .. that filters and maps, and draws nothing -/
theorem wR_fmap {γ : Type} {tg : D → Sg → Option Sg} {cf : Sg → Option Gst → R Bool} {ef : Sg → Option Gst → R D} {Q : List D → Option Gst → Prop} (c : γ → D) (l : List γ) (p : γ → Bool) (g : γ → D) (hl : l.length ≤ 16777216)
    (step : ∀ a ∈ l, ∃ σ1, tg (c a) σ = some σ1 ∧ wR (cf σ1 x) (fun b y => keep (b = p a ∧ y = x) ∧ (p a = true → wR (ef σ1 x) (fun d y => keep (d = g a ∧ y = x)) XF)) XF)
    (fin : Q ((l.filter p).map g) x) : wR (compF tg cf ef σ (l.map c) [] x) Q E := by
  refine wR_comp c l (fun done acc y => acc = (done.filter p).map g ∧ y = x) hl ⟨rfl, rfl⟩ ?_ ?_
  · rintro done a left acc y e ⟨rfl, rfl⟩
    obtain ⟨σ1, h1, h2⟩ := step a (by rw [← e]; simp)
    refine ⟨σ1, h1, wR_mono h2 ?_ (fun _ _ _ h => h)⟩
    rintro b y1 ⟨⟨rfl, rfl⟩, h⟩
    by_cases c : p a = true
    · rw [if_pos c]
      refine wR_mono (h c) ?_ (fun _ _ _ h => h)
      rintro d y2 ⟨rfl, rfl⟩
      refine ⟨?_, rfl⟩
      simp [List.filter_append, c]
    · rw [if_neg c]
      refine ⟨?_, rfl⟩
      simp [List.filter_append, c]
  · rintro acc y ⟨rfl, rfl⟩
    exact fin
theorem wR_map {γ : Type} {tg : D → Sg → Option Sg} {cf : Sg → Option Gst → R Bool} {ef : Sg → Option Gst → R D} {Q : List D → Option Gst → Prop} (c : γ → D) (l : List γ) (g : γ → D) (hl : l.length ≤ 16777216)
    (step : ∀ a ∈ l, ∃ σ1, tg (c a) σ = some σ1 ∧ wR (cf σ1 x) (fun b y => keep (b = true ∧ y = x) ∧ wR (ef σ1 x) (fun d y => keep (d = g a ∧ y = x)) XF) XF)
    (fin : Q (l.map g) x) : wR (compF tg cf ef σ (l.map c) [] x) Q E := by
  refine wR_fmap c l (fun _ => true) g hl (fun a ha => ?_) (by rw [List.filter_eq_self.2 (fun _ _ => rfl)]; exact fin)
  obtain ⟨σ1, h1, h2⟩ := step a ha
  exact ⟨σ1, h1, wR_mono h2 (fun b y ⟨e, h⟩ => ⟨e, fun _ => h⟩) (fun _ _ _ h => h)⟩
end
end Yx

namespace Yx
open PySem PySem.Spec PyProof.Rows L2 RZ
/-! ### what each part makes, one by one -/
section
variable {tb : Tb} {cb : Cb} {K : PySem.W.Frag} {B : Bs} {σ : Sg} {x : Option Gst} {E : XE} {N Bk Ct : Sg → Option Gst → Prop} {T : D → Option Gst → Prop} {X : XO}
theorem SE.var_w {i : Nat} {Q : D → Option Gst → Prop} : wR ((SE.var i : SE K B).f σ x) Q E = wR (R.ofo (sget σ i) x) Q E := rfl
theorem SE.con_w {v : V} {d : D} {h : cV d = some v} {Q : D → Option Gst → Prop} : wR ((SE.con v d h : SE K B).f σ x) Q E = wR (.ok d x) Q E := rfl
theorem SE.bin_w {o : Op2 K} {a b : SE K B} {Q : D → Option Gst → Prop} : wR ((SE.bin o a b : SE K B).f σ x) Q E = wR ((a.f σ x).bind fun d1 x1 => (b.f σ x1).bind fun d2 x2 => R.ofo (o.f d1 d2) x2) Q E := rfl
theorem SE.un_w {o : Op1 K} {a : SE K B} {Q : D → Option Gst → Prop} : wR ((SE.un o a : SE K B).f σ x) Q E = wR ((a.f σ x).bind fun d1 x1 => R.ofo (o.f d1) x1) Q E := rfl
theorem SE.chain_w {o o' : Op2 K} {a b c : SE K B} {Q : D → Option Gst → Prop} : wR ((SE.chain o o' a b c : SE K B).f σ x) Q E = wR ((a.f σ x).bind fun d1 x1 => (b.f σ x1).bind fun d2 x2 => match o.f d1 d2 with
    | some (.bl true) => (c.f σ x2).bind fun d3 x3 => R.ofo (o'.f d2 d3) x3
    | some (.bl false) => .ok (.bl false) x2
    | _ => .bad) Q E := rfl
theorem SA.nil_w  {Q : List D → Option Gst → Prop} : wR ((SA.nil : SA K B).f σ x) Q E = wR (.ok [] x) Q E := rfl
theorem SA.cons_w {a : SE K B} {r : SA K B} {Q : List D → Option Gst → Prop} : wR ((SA.cons a r : SA K B).f σ x) Q E = wR ((a.f σ x).bind fun d1 x1 => (r.f σ x1).bind fun ds x2 => .ok (d1 :: ds) x2) Q E := rfl
theorem SE.tup_w {a : SA K B} {Q : D → Option Gst → Prop} : wR ((SE.tup a : SE K B).f σ x) Q E = wR ((a.f σ x).bind fun ds x1 => if szOk ds.length = true then .ok (.tup ds) x1 else .bad) Q E := rfl
theorem SN.lst_w {a : SA K B} {Q : List D → Option Gst → Prop} : wR ((SN.lst a : SN K B).f σ x) Q E = wR ((a.f σ x).bind fun ds x1 => if szOk ds.length = true then .ok ds x1 else .bad) Q E := rfl
theorem SE.ofN_w {a : SN K B} {Q : D → Option Gst → Prop} : wR ((SE.ofN a : SE K B).f σ x) Q E = wR ((a.f σ x).bind fun ds x1 => .ok (.lst ds) x1) Q E := rfl
theorem SQ.of_w {a : SE K B} {Q : Bool × List D → Option Gst → Prop} : wR ((SQ.of a : SQ K B).f σ x) Q E = wR ((a.f σ x).bind fun d x1 => match d with
    | .tup ds => .ok (true, ds) x1
    | .lst ds => .ok (false, ds) x1
    | _ => .bad) Q E := rfl
theorem SQ.own_w {i : Nat} {Q : Bool × List D → Option Gst → Prop} : wR ((SQ.own i : SQ K B).f σ x) Q E = wR (match sown σ i with
    | some ds => .ok (false, ds) x
    | none => .bad) Q E := rfl
theorem SQ.ofN_w {a : SN K B} {Q : Bool × List D → Option Gst → Prop} : wR ((SQ.ofN a : SQ K B).f σ x) Q E = wR ((a.f σ x).bind fun ds x1 => .ok (false, ds) x1) Q E := rfl
theorem SE.call_w {o : OpC K} {a : SA K B} {Q : D → Option Gst → Prop} : wR ((SE.call o a : SE K B).f σ x) Q E = wR ((a.f σ x).bind fun ds x1 => R.ofo (o.f ds) x1) Q E := rfl
theorem SE.seq_w {o : OpS K} {a : SQ K B} {Q : D → Option Gst → Prop} : wR ((SE.seq o a : SE K B).f σ x) Q E = wR ((a.f σ x).bind fun b x1 => R.ofo (o.f b.1 b.2) x1) Q E := rfl
theorem SN.seq_w {o : OpN K} {a : SQ K B} {Q : List D → Option Gst → Prop} : wR ((SN.seq o a : SN K B).f σ x) Q E = wR ((a.f σ x).bind fun b x1 => R.ofo (o.f b.1 b.2) x1) Q E := rfl
theorem SE.ixO_w {i : Nat} {b : SE K B} {Q : D → Option Gst → Prop} : wR ((SE.ixO i b : SE K B).f σ x) Q E = wR (match sown σ i with
    | none => .bad
    | some ds => (b.f σ x).bind fun d2 x2 => match d2 with
      | .int k => R.ofo (atD ds k) x2
      | _ => .bad) Q E := rfl
theorem SO.none_w  {Q : Option Int → Option Gst → Prop} : wR ((SO.none : SO K B).f σ x) Q E = wR (.ok Option.none x) Q E := rfl
theorem SO.some_w {a : SE K B} {Q : Option Int → Option Gst → Prop} : wR ((SO.some a : SO K B).f σ x) Q E = wR ((a.f σ x).bind fun d x1 => match d with
    | .int i => .ok (Option.some i) x1
    | _ => .bad) Q E := rfl
theorem SE.sl_w {a : SE K B} {lo hi : SO K B} {Q : D → Option Gst → Prop} : wR ((SE.sl a lo hi : SE K B).f σ x) Q E = wR ((a.f σ x).bind fun d x1 => (lo.f σ x1).bind fun l x2 => (hi.f σ x2).bind fun u x3 => match d with
    | .tup ds => .ok (.tup (cutD ds l u)) x3
    | .lst ds => .ok (.lst (cutD ds l u)) x3
    | _ => .bad) Q E := rfl
theorem ST.val_w {a : SE K B} {Q : Bool → Option Gst → Prop} : wR ((ST.val a : ST K B).f σ x) Q E = wR ((a.f σ x).bind fun d x1 => match d with
    | .bl b => .ok b x1
    | _ => .bad) Q E := rfl
theorem ST.tru_w {a : SE K B} {Q : Bool → Option Gst → Prop} : wR ((ST.tru a : ST K B).f σ x) Q E = wR ((a.f σ x).bind fun d x1 => R.ofo (truD d) x1) Q E := rfl
theorem ST.not_w {a : ST K B} {Q : Bool → Option Gst → Prop} : wR ((ST.not a : ST K B).f σ x) Q E = wR ((a.f σ x).bind fun b x1 => .ok (!b) x1) Q E := rfl
theorem ST.and_w {a b : ST K B} {Q : Bool → Option Gst → Prop} : wR ((ST.and a b : ST K B).f σ x) Q E = wR ((a.f σ x).bind fun c x1 => if c = true then b.f σ x1 else .ok false x1) Q E := rfl
theorem ST.or_w {a b : ST K B} {Q : Bool → Option Gst → Prop} : wR ((ST.or a b : ST K B).f σ x) Q E = wR ((a.f σ x).bind fun c x1 => if c = true then .ok true x1 else b.f σ x1) Q E := rfl
theorem SE.andV_w {a b : SE K B} {Q : D → Option Gst → Prop} : wR ((SE.andV a b : SE K B).f σ x) Q E = wR ((a.f σ x).bind fun d x1 => match d with
    | .bl true => b.f σ x1
    | .bl false => .ok (.bl false) x1
    | _ => .bad) Q E := rfl
theorem SE.orV_w {a b : SE K B} {Q : D → Option Gst → Prop} : wR ((SE.orV a b : SE K B).f σ x) Q E = wR ((a.f σ x).bind fun d x1 => match d with
    | .bl true => .ok (.bl true) x1
    | .bl false => b.f σ x1
    | _ => .bad) Q E := rfl
theorem SE.notV_w {a : SE K B} {Q : D → Option Gst → Prop} : wR ((SE.notV a : SE K B).f σ x) Q E = wR ((a.f σ x).bind fun d x1 => match d with
    | .bl b => .ok (.bl (!b)) x1
    | _ => .bad) Q E := rfl
theorem SE.ite_w {c : ST K B} {a b : SE K B} {Q : D → Option Gst → Prop} : wR ((SE.ite c a b : SE K B).f σ x) Q E = wR ((c.f σ x).bind fun k x1 => if k = true then a.f σ x1 else b.f σ x1) Q E := rfl
theorem SI.lst_w {a : SE K B} {Q : List D → Option Gst → Prop} : wR ((SI.lst a : SI K B).f σ x) Q E = wR ((a.f σ x).bind fun d x1 => match d with
    | .lst ds => .ok ds x1
    | _ => .bad) Q E := rfl
theorem SI.tup_w {a : SE K B} {Q : List D → Option Gst → Prop} : wR ((SI.tup a : SI K B).f σ x) Q E = wR ((a.f σ x).bind fun d x1 => match d with
    | .tup ds => .ok ds x1
    | _ => .bad) Q E := rfl
theorem SI.rng1_w {a : SE K B} {Q : List D → Option Gst → Prop} : wR ((SI.rng1 a : SI K B).f σ x) Q E = wR ((a.f σ x).bind fun d x1 => match d with
    | .int n => if i62 n = true then .ok (rngD 0 n.toNat) x1 else .bad
    | _ => .bad) Q E := rfl
theorem SI.rng2_w {a b : SE K B} {Q : List D → Option Gst → Prop} : wR ((SI.rng2 a b : SI K B).f σ x) Q E = wR ((a.f σ x).bind fun d x1 => (b.f σ x1).bind fun e x2 => match d, e with
    | .int m, .int n => if (i62 m && i62 n) = true then .ok (rngD m (n - m).toNat) x2 else .bad
    | _, _ => .bad) Q E := rfl
theorem SI.zip_w {a b : SE K B} {Q : List D → Option Gst → Prop} : wR ((SI.zip a b : SI K B).f σ x) Q E = wR ((a.f σ x).bind fun d x1 => (b.f σ x1).bind fun e x2 => match d, e with
    | .tup ds, .tup es => .ok (zipD ds es) x2
    | .lst ds, .lst es => .ok (zipD ds es) x2
    | _, _ => .bad) Q E := rfl
theorem SI.enumL_w {a : SE K B} {Q : List D → Option Gst → Prop} : wR ((SI.enumL a : SI K B).f σ x) Q E = wR ((a.f σ x).bind fun d x1 => match d with
    | .lst ds => .ok (zipD (rngD 0 ds.length) ds) x1
    | _ => .bad) Q E := rfl
theorem SN.comp_w {vs : List Nat} {s : SI K B} {tg : SG K} {c : ST K B0} {e : SE K B0} {hv : (tg.idx.all fun i => vs.contains i) = true} {Q : List D → Option Gst → Prop} : wR ((SN.comp vs s tg c e hv : SN K B).f σ x) Q E = wR ((s.f σ x).bind fun ds x1 => if calmS σ vs = true then compF tg.f c.f e.f (wipeS σ vs) ds [] x1 else .bad) Q E := rfl
theorem SN.comp2_w {vs vs2 : List Nat} {s : SI K B} {tg : SG K} {c : ST K B0} {s2 : SI K B0} {tg2 : SG K} {c2 : ST K B0} {e : SE K B0} {hv : (tg.idx.all fun i => vs.contains i) = true} {hv2 : (tg2.idx.all fun i => vs2.contains i) = true} {Q : List D → Option Gst → Prop} : wR ((SN.comp2 vs vs2 s tg c s2 tg2 c2 e hv hv2 : SN K B).f σ x) Q E = wR ((s.f σ x).bind fun ds x1 => if calmS σ vs = true then compF2 tg.f c.f s2.f tg2.f c2.f e.f vs2 (wipeS σ vs) ds [] x1 else .bad) Q E := rfl
theorem SS.skip_w  : wO ((SS.skip : SS K).f σ x) N T Bk Ct X = wO (.nx σ x) N T Bk Ct X := rfl
theorem SS.seq_w {a b : SS K} : wO ((SS.seq a b : SS K).f σ x) N T Bk Ct X = wO ((a.f σ x).then b.f) N T Bk Ct X := rfl
theorem SS.asg_w {tg : SG K} {e : SE K B0} : wO ((SS.asg tg e : SS K).f σ x) N T Bk Ct X = wO ((e.f σ x).toO σ fun d x1 => match tg.f d σ with
    | some σ1 => .nx σ1 x1
    | none => .bad) N T Bk Ct X := rfl
theorem SS.asgO_w {i : Nat} {e : SN K B0} : wO ((SS.asgO i e : SS K).f σ x) N T Bk Ct X = wO ((e.f σ x).toO σ fun ds x1 => .nx (σ.set i (some (.own ds))) x1) N T Bk Ct X := rfl
theorem SS.expr_w {e : SE K B0} : wO ((SS.expr e : SS K).f σ x) N T Bk Ct X = wO ((e.f σ x).toO σ fun _ x1 => .nx σ x1) N T Bk Ct X := rfl
theorem SS.append_w {i : Nat} {e : SE K B0} : wO ((SS.append i e : SS K).f σ x) N T Bk Ct X = wO (match sown σ i with
    | none => .bad
    | some ds => (e.f σ x).toO σ fun d x1 => if decide (ds.length < 16777216) = true then .nx (σ.set i (some (.own (ds ++ [d])))) x1 else .bad) N T Bk Ct X := rfl
theorem SS.setix_w {i : Nat} {ei e : SE K B0} : wO ((SS.setix i ei e : SS K).f σ x) N T Bk Ct X = wO (match sown σ i with
    | none => .bad
    | some ds => (e.f σ x).toO σ fun d x1 => (ei.f σ x1).toO σ fun k x2 => match k with
      | .int k => match ixN ds.length k with
        | some j => .nx (σ.set i (some (.own (ds.set j d)))) x2
        | none => .bad
      | _ => .bad) N T Bk Ct X := rfl
theorem SS.ret_w {e : SE K B0} : wO ((SS.ret e : SS K).f σ x) N T Bk Ct X = wO ((e.f σ x).toO σ fun d x1 => .rt d x1) N T Bk Ct X := rfl
theorem SS.ite_w {c : ST K B0} {a b : SS K} : wO ((SS.ite c a b : SS K).f σ x) N T Bk Ct X = wO ((c.f σ x).toO σ fun k x1 => if k = true then a.f σ x1 else b.f σ x1) N T Bk Ct X := rfl
theorem SS.brk_w  : wO ((SS.brk : SS K).f σ x) N T Bk Ct X = wO (.bk σ x) N T Bk Ct X := rfl
theorem SS.cont_w  : wO ((SS.cont : SS K).f σ x) N T Bk Ct X = wO (.ct σ x) N T Bk Ct X := rfl
theorem SS.frz_w {i : Nat} {s : SS K} : wO ((SS.frz i s : SS K).f σ x) N T Bk Ct X = wO (match sown σ i with
    | none => .bad
    | some ds => s.f (σ.set i (some (.dat (.lst ds)))) x) N T Bk Ct X := rfl
theorem SS.for_w {s : SI K B0} {tg : SG K} {b : SS K} : wO ((SS.for s tg b : SS K).f σ x) N T Bk Ct X = wO ((s.f σ x).toO σ fun ds x1 => forF tg.f b.f ds σ x1) N T Bk Ct X := rfl
theorem SS.while_w {n : Nat} {c : ST K B0} {b : SS K} : wO ((SS.while n c b : SS K).f σ x) N T Bk Ct X = wO (whileF c.f b.f n σ x) N T Bk Ct X := rfl
theorem SE.callF_w {m : MF} {a : SA K B} {Q : D → Option Gst → Prop} : wR ((SE.callF m a : SE K B).f σ x) Q E = wR ((a.f σ x).bind m) Q E := rfl
theorem SS.raise1_w {C : Addr} {f : Str} {e : SE K B0} : wO ((SS.raise1 C f e : SS K).f σ x) N T Bk Ct X = wO ((e.f σ x).toO σ fun d x1 => .exc C (some (f, d)) σ x1) N T Bk Ct X := rfl
theorem SS.raise0_w {C : Addr} : wO ((SS.raise0 C : SS K).f σ x) N T Bk Ct X = wO (.exc C none σ x) N T Bk Ct X := rfl
theorem SE.lam_w {N : Nat} {HS : (c : Clo K) → @SS _ (cbOf c) K} {b : SE K B0} {Q : D → Option Gst → Prop} : wR ((SE.lam N HS b : SE K B).f σ x) Q E = wR (lamP N HS (fun x1 => b.f (datS σ) x1) x) Q E := rfl
theorem SE.tupOf_w {a : SE K B} {Q : D → Option Gst → Prop} : wR ((SE.tupOf a : SE K B).f σ x) Q E = wR ((a.f σ x).bind fun d x1 => match d with
    | .tup ds => .ok (.tup ds) x1
    | .lst ds => .ok (.tup ds) x1
    | _ => .bad) Q E := rfl
theorem SE.isi_w {a : SE K B} {b : String} {Q : D → Option Gst → Prop} : wR ((SE.isi a b : SE K B).f σ x) Q E = wR ((a.f σ x).bind fun d x1 => match isiB d b with
    | some r => .ok (.bl r) x1
    | none => .bad) Q E := rfl
theorem SI.zipG_w {a b : SE K B} {Q : List D → Option Gst → Prop} : wR ((SI.zipG a b : SI K B).f σ x) Q E = wR ((twoF a.f b.f zipD) σ x) Q E := rfl
theorem SI.enumZ_w {a b : SE K B} {Q : List D → Option Gst → Prop} : wR ((SI.enumZ a b : SI K B).f σ x) Q E = wR ((twoF a.f b.f fun ds es => zipD (rngD 0 (zipD ds es).length) (zipD ds es)) σ x) Q E := rfl
theorem SI.enum_w {a : SE K B} {Q : List D → Option Gst → Prop} : wR ((SI.enum a : SI K B).f σ x) Q E = wR ((a.f σ x).bind fun d x1 => match seqD d with
    | some ds => .ok (zipD (rngD 0 ds.length) ds) x1
    | none => .bad) Q E := rfl
theorem SI.zip3G_w {a b c : SE K B} {Q : List D → Option Gst → Prop} : wR ((SI.zip3G a b c : SI K B).f σ x) Q E = wR ((a.f σ x).bind fun d x1 => (b.f σ x1).bind fun e x2 => (c.f σ x2).bind fun u x3 => match seqD d, seqD e, seqD u with
    | some ds, some es, some us => .ok (zip3D ds es us) x3
    | _, _, _ => .bad) Q E := rfl
theorem SE.stAt_w {i : Nat} {Q : D → Option Gst → Prop} : wR ((SE.stAt i : SE K B).f σ x) Q E = wR (match x with
    | some s => if isSt (sget σ i) = true then .ok (.int s.at_) x else .bad
    | none => .bad) Q E := rfl
theorem SE.stCells_w {i : Nat} {Q : D → Option Gst → Prop} : wR ((SE.stCells i : SE K B).f σ x) Q E = wR (match x with
    | some s => if isSt (sget σ i) = true then .ok (.lst (s.cells.map D.int)) x else .bad
    | none => .bad) Q E := rfl
theorem SE.stLeft_w {i : Nat} {e : SE K B} {Q : D → Option Gst → Prop} : wR ((SE.stLeft i e : SE K B).f σ x) Q E = wR (match x with
    | some _ => if isSt (sget σ i) = true then (e.f σ x).bind fun d x1 => match d, x1 with
      | .int k, some s => R.ofo ((atI s.lefts k).map D.int) x1
      | _, _ => .bad else .bad
    | none => .bad) Q E := rfl
theorem SS.stAt_w {i : Nat} {e : SE K B0} : wO ((SS.stAt i e : SS K).f σ x) N T Bk Ct X = wO ((e.f σ x).toO σ fun d x1 => match d, x1 with
    | .int n, some s => if isSt (sget σ i) = true then .nx σ (some { s with at_ := n }) else .bad
    | _, _ => .bad) N T Bk Ct X := rfl
theorem SS.stLeft_w {i : Nat} {ei e : SE K B0} : wO ((SS.stLeft i ei e : SS K).f σ x) N T Bk Ct X = wO ((e.f σ x).toO σ fun d x1 => match d, x1 with
    | .int n, some _ => if isSt (sget σ i) = true then (ei.f σ x1).toO σ fun k x2 => match k, x2 with
      | .int k, some s => match ixN s.lefts.length k with
        | some j => .nx σ (some { s with lefts := s.lefts.set j n })
        | none => .bad
      | _, _ => .bad else .bad
    | _, _ => .bad) N T Bk Ct X := rfl
theorem SE.inDic_w {i : Nat} {e : SE K B} {no : Bool} {Q : D → Option Gst → Prop} : wR ((SE.inDic i e no : SE K B).f σ x) Q E = wR (match sdic σ i with
    | none => .bad
    | some l => (e.f σ x).bind fun d x1 => match keyD d with
      | some k => .ok (.bl (if no = true then !(dgetF l k).isSome else (dgetF l k).isSome)) x1
      | none => .bad) Q E := rfl
theorem SS.dput_w {i : Nat} {ek e : SE K B0} : wO ((SS.dput i ek e : SS K).f σ x) N T Bk Ct X = wO (match sdic σ i with
    | none => .bad
    | some l => (e.f σ x).toO σ fun d x1 => (ek.f σ x1).toO σ fun kd x2 => match keyD kd with
      | some k => if decide (l.length < 16777216) = true then .nx (σ.set i (some (.dic (dputF l k d)))) x2 else .bad
      | none => .bad) N T Bk Ct X := rfl
theorem SX.nil_w  {Q : List Sl → Option Gst → Prop} : wR ((SX.nil : SX K).f σ x) Q E = wR (.ok [] x) Q E := rfl
theorem SX.cons_w {a : SE K B0} {r : SX K} {Q : List Sl → Option Gst → Prop} : wR ((SX.cons a r : SX K).f σ x) Q E = wR ((a.f σ x).bind fun d x1 => (r.f σ x1).bind fun ss x2 => .ok (.dat d :: ss) x2) Q E := rfl
theorem SX.consN_w {a : SN K B0} {r : SX K} {Q : List Sl → Option Gst → Prop} : wR ((SX.consN a r : SX K).f σ x) Q E = wR ((a.f σ x).bind fun ds x1 => (r.f σ x1).bind fun ss x2 => .ok (.own ds :: ss) x2) Q E := rfl
theorem SX.consD_w {k v : SE K B0} {r : SX K} {Q : List Sl → Option Gst → Prop} : wR ((SX.consD k v r : SX K).f σ x) Q E = wR ((k.f σ x).bind fun kd x1 => (v.f σ x1).bind fun d x2 => match keyD kd with
    | some kk => (r.f σ x2).bind fun ss x3 => .ok (.dic [(kk, d)] :: ss) x3
    | none => .bad) Q E := rfl
theorem SS.par2_w {i j : Nat} {a : SX K} : wO ((SS.par2 i j a : SS K).f σ x) N T Bk Ct X = wO ((a.f σ x).toO σ fun ss x1 => if ss.length = 2 then .nx (setAll σ [i, j] ss) x1 else .bad) N T Bk Ct X := rfl
theorem SS.par3_w {i j l : Nat} {a : SX K} : wO ((SS.par3 i j l a : SS K).f σ x) N T Bk Ct X = wO ((a.f σ x).toO σ fun ss x1 => if ss.length = 3 then .nx (setAll σ [i, j, l] ss) x1 else .bad) N T Bk Ct X := rfl
theorem SE.rv_w {a : SE K B} {lo hi : SO K B} {Q : D → Option Gst → Prop} : wR ((SE.rv a lo hi : SE K B).f σ x) Q E = wR ((a.f σ x).bind fun d x1 => (lo.f σ x1).bind fun l x2 => (hi.f σ x2).bind fun u x3 => match d with
    | .tup ds => if szOk (cutR ds l u).length = true then .ok (.tup (cutR ds l u)) x3 else .bad
    | _ => .bad) Q E := rfl
theorem SI.any_w {a : SE K B} {Q : List D → Option Gst → Prop} : wR ((SI.any a : SI K B).f σ x) Q E = wR ((a.f σ x).bind fun d x1 => match d with
    | .tup ds => .ok ds x1
    | .lst ds => .ok ds x1
    | _ => .bad) Q E := rfl
theorem SE.rvl_w {a : SE K B} {Q : D → Option Gst → Prop} : wR ((SE.rvl a : SE K B).f σ x) Q E = wR ((a.f σ x).bind fun d x1 => match d with
    | .lst ds => .ok (.lst ds.reverse) x1
    | _ => .bad) Q E := rfl
theorem ST.tru1_w  {Q : Bool → Option Gst → Prop} : wR ((ST.tru1 : ST K B).f σ x) Q E = wR (.ok true x) Q E := rfl
theorem SE.callV_w {i : Nat} {l : List (Addr × MF)} {a : SA K B} {Q : D → Option Gst → Prop} : wR ((SE.callV i l a : SE K B).f σ x) Q E = wR (match sget σ i with
    | some (.ref f) => match lookA f l with
      | some m => (a.f σ x).bind m
      | none => .bad
    | _ => .bad) Q E := rfl
theorem SN.rep_w {a : SN K B} {b : SE K B} {Q : List D → Option Gst → Prop} : wR ((SN.rep a b : SN K B).f σ x) Q E = wR ((a.f σ x).bind fun ds x1 => (b.f σ x1).bind fun d x2 => match d with
    | .int k => if (i62 k && decide (ds.length * k.toNat ≤ 16777216)) = true then .ok (List.replicate k.toNat ds).flatten x2 else .bad
    | _ => .bad) Q E := rfl
theorem SN.cat_w {a b : SE K B} {Q : List D → Option Gst → Prop} : wR ((SN.cat a b : SN K B).f σ x) Q E = wR ((a.f σ x).bind fun d x1 => (b.f σ x1).bind fun e x2 => match d, e with
    | .lst ds, .lst es => if szOk (ds.length + es.length) = true then .ok (ds ++ es) x2 else .bad
    | _, _ => .bad) Q E := rfl
theorem SI.rngDn_w {a b : SE K B} {Q : List D → Option Gst → Prop} : wR ((SI.rngDn a b : SI K B).f σ x) Q E = wR ((a.f σ x).bind fun d x1 => (b.f σ x1).bind fun e x2 => match d, e with
    | .int m, .int n => if (i62 m && i62 n) = true then .ok (rngE m (m - n).toNat) x2 else .bad
    | _, _ => .bad) Q E := rfl
theorem SA.star_w {a : SQ K B} {r : SA K B} {Q : List D → Option Gst → Prop} : wR ((SA.star a r : SA K B).f σ x) Q E = wR ((a.f σ x).bind fun b x1 => (r.f σ x1).bind fun ds x2 => .ok (b.2 ++ ds) x2) Q E := rfl
theorem SI.rev_w {a : SE K B} {Q : List D → Option Gst → Prop} : wR ((SI.rev a : SI K B).f σ x) Q E = wR ((a.f σ x).bind fun d x1 => match seqD d with
    | some ds => .ok ds.reverse x1
    | none => .bad) Q E := rfl
theorem SI.rvr1_w {a : SE K B} {Q : List D → Option Gst → Prop} : wR ((SI.rvr1 a : SI K B).f σ x) Q E = wR ((a.f σ x).bind fun d x1 => match d with
    | .int n => if i62 n = true then .ok (rngD 0 (n - 0).toNat).reverse x1 else .bad
    | _ => .bad) Q E := rfl
theorem SI.rvr2_w {a b : SE K B} {Q : List D → Option Gst → Prop} : wR ((SI.rvr2 a b : SI K B).f σ x) Q E = wR ((a.f σ x).bind fun d x1 => (b.f σ x1).bind fun e x2 => match d, e with
    | .int m, .int n => if (i62 m && i62 n) = true then .ok (rngD m (n - m).toNat).reverse x2 else .bad
    | _, _ => .bad) Q E := rfl
theorem SE.inOwn_w {i : Nat} {e : SE K B} {no : Bool} {Q : D → Option Gst → Prop} : wR ((SE.inOwn i e no : SE K B).f σ x) Q E = wR (match sown σ i with
    | none => .bad
    | some ds => (e.f σ x).bind fun d x1 => R.ofo (inF no d (.lst ds)) x1) Q E := rfl
theorem SE.rvB_w {a : SE K B} {lo hi : SO K B} {Q : D → Option Gst → Prop} : wR ((SE.rvB a lo hi : SE K B).f σ x) Q E = wR ((a.f σ x).bind fun d x1 => (lo.f σ x1).bind fun l x2 => (hi.f σ x2).bind fun u x3 => match d with
    | .lst ds => if szOk (cutL ds l u).length = true then .ok (.lst (cutL ds l u)) x3 else .bad
    | _ => .bad) Q E := rfl
theorem SN.lrg1_w {a : SE K B} {Q : List D → Option Gst → Prop} : wR ((SN.lrg1 a : SN K B).f σ x) Q E = wR ((a.f σ x).bind fun d x1 => match d with
    | .int n => if (i62 n && szOk n.toNat) = true then .ok (rngD 0 n.toNat) x1 else .bad
    | _ => .bad) Q E := rfl
theorem SS.extend_w {i : Nat} {e : SN K B0} : wO ((SS.extend i e : SS K).f σ x) N T Bk Ct X = wO (match sown σ i with
    | none => .bad
    | some ds => (e.f σ x).toO σ fun es x1 => if decide (ds.length + es.length ≤ 16777216) = true then .nx (σ.set i (some (.own (ds ++ es)))) x1 else .bad) N T Bk Ct X := rfl
theorem SS.popTo_w {j i : Nat} : wO ((SS.popTo j i : SS K).f σ x) N T Bk Ct X = wO (match sown σ i with
    | none => .bad
    | some ds => match ds.getLast? with
      | some d => if i = j then .bad else .nx ((σ.set i (some (.own ds.dropLast))).set j (some (.dat d))) x
      | none => .bad) N T Bk Ct X := rfl
theorem SS.popG_w {tg : SG K} {i : Nat} : wO ((SS.popG tg i : SS K).f σ x) N T Bk Ct X = wO (match sown σ i with
    | none => .bad
    | some ds => match ds.getLast? with
      | some d => match tg.f d (σ.set i (some (.own ds.dropLast))) with
        | some σ1 => .nx σ1 x
        | none => .bad
      | none => .bad) N T Bk Ct X := rfl
theorem ST.truO_w {i : Nat} {Q : Bool → Option Gst → Prop} : wR ((ST.truO i : ST K B).f σ x) Q E = wR (match sown σ i with
    | none => .bad
    | some ds => .ok (!ds.isEmpty) x) Q E := rfl
theorem SE.int_w {i : Int} {Q : D → Option Gst → Prop} : wR ((SE.int i : SE K B).f σ x) Q E = Q (.int i) x := wR_ok
theorem SE.bl_w {i : Bool} {Q : D → Option Gst → Prop} : wR ((SE.bl i : SE K B).f σ x) Q E = Q (.bl i) x := wR_ok
theorem SE.non_w  {Q : D → Option Gst → Prop} : wR ((SE.non : SE K B).f σ x) Q E = Q (.non) x := wR_ok
theorem SE.str_w {i : Str} {Q : D → Option Gst → Prop} : wR ((SE.str i : SE K B).f σ x) Q E = Q (.str i) x := wR_ok
theorem SE.ref_w {i : Addr} {Q : D → Option Gst → Prop} : wR ((SE.ref i : SE K B).f σ x) Q E = Q (.ref i) x := wR_ok
theorem SG.name_f {i : Nat} {d : D} : (SG.name K i).f d σ = some (σ.set i (some (.dat d))) := rfl
theorem SGs.nil_f : (SGs.nil K).f [] σ = some σ := rfl
theorem SGs.cons_f {a : SG K} {b : SGs K} {d : D} {ds : List D} : (SGs.cons a b).f (d :: ds) σ = (match a.f d σ with
  | some σ1 => b.f ds σ1
  | none => none) := rfl
theorem SG.tup_f {n : Nat} {b : SGs K} {ds : List D} : (SG.tup n b).f (.tup ds) σ = if ds.length = n then b.f ds σ else none := rfl
theorem hole_w {m : Option Gst → R D} {σ : Sg} {Q : D → Option Gst → Prop} : wR (@SE.f _ (cbOf (Clo.plain K m)) K B (SE.hole (Clo.plain K m) B) (some .clo :: σ) x) Q E = wR (m x) Q E := rfl
theorem twoF_w {a b : Sg → Option Gst → R D} {k : List D → List D → List D} {Q : List D → Option Gst → Prop} : wR (twoF a b k σ x) Q E = wR (a σ x) (fun d x1 => wR (b σ x1) (fun e x2 => wR (match seqD d, seqD e with
    | some xs, some ys => .ok (k xs ys) x2
    | _, _ => .bad) Q E) E) E := by
  unfold twoF
  cases a σ x with
  | ok d x1 =>
    rw [wR_ok]
    show wR ((b σ x1).bind _) Q E = wR (b σ x1) _ E
    rw [wR_bind] <;> rfl
  | exc _ _ _ => rw [wR_exc]; exact wR_exc
  | bad => rw [wR_bad]; exact wR_bad
end
end Yx

namespace Hx
open PySem PySem.Spec PyProof.Rows L2 RZ Yx
variable [Tb] [Cb]
def lim : Nat := 1000000
def S_is_from (K : PySem.W.Frag) : SS K := SS.seq (SS.ret (SE.andV (SE.isi (SE.var 0) "int") (SE.andV (SE.notV (SE.isi (SE.var 0) "bool")) (SE.bin (opGe K) (SE.var 0) (SE.var 1))))) (SS.skip)
def m_is_from (K : PySem.W.Frag) : MF := mOf 2 2 (S_is_from K).f
def S_is_whole (K : PySem.W.Frag) : SS K := SS.seq (SS.ret (SE.andV (SE.callF (m_is_from K) (SA.cons (SE.var 0) (SA.cons (SE.var 1) (SA.nil)))) (SE.bin (opLe K) (SE.var 0) (SE.var 2)))) (SS.skip)
def m_is_whole (K : PySem.W.Frag) : MF := mOf 3 3 (S_is_whole K).f
def S_is_tuple_of (K : PySem.W.Frag) : SS K := SS.seq (SS.ret (SE.andV (SE.isi (SE.var 0) "tuple") (SE.bin (opEq K) (SE.seq (opLen K) (SQ.of (SE.var 0))) (SE.var 1)))) (SS.skip)
def m_is_tuple_of (K : PySem.W.Frag) : MF := mOf 2 2 (S_is_tuple_of K).f
def S_is_numbers (K : PySem.W.Frag) : SS K := SS.seq (SS.ret (SE.andV (SE.callF (m_is_tuple_of K) (SA.cons (SE.var 1) (SA.cons (SE.bin (opAdd K) (SE.seq (opLen K) (SQ.of (SE.var 0))) (SE.int 1)) (SA.nil)))) (SE.seq (opAll K) (SQ.ofN (SN.comp [4] (SI.any (SE.var 1)) (SG.name K 4) (ST.tru1) (SE.callF (m_is_whole K) (SA.cons (SE.var 4) (SA.cons (SE.var 2) (SA.cons (SE.var 3) (SA.nil))))) (ofb rfl)))))) (SS.skip)
def m_is_numbers (K : PySem.W.Frag) : MF := mOf 4 5 (S_is_numbers K).f
def S_is_row (K : PySem.W.Frag) : SS K := SS.seq (SS.ret (SE.callF (m_is_numbers K) (SA.cons (SE.var 0) (SA.cons (SE.var 1) (SA.cons (SE.int 0) (SA.cons (SE.bin (opPow K) (SE.int 10) (SE.int 60)) (SA.nil))))))) (SS.skip)
def m_is_row (K : PySem.W.Frag) : MF := mOf 2 2 (S_is_row K).f
def S_plus (K : PySem.W.Frag) : SS K := SS.seq (SS.ret (SE.seq (opTuple K) (SQ.ofN (SN.comp [2, 3] (SI.zipG (SE.var 0) (SE.var 1)) (SG.tup 2 (SGs.cons (SG.name K 2) (SGs.cons (SG.name K 3) (SGs.nil K)))) (ST.tru1) (SE.bin (opAdd K) (SE.var 2) (SE.var 3)) (ofb rfl))))) (SS.skip)
def S_need_units (K : PySem.W.Frag) (aBadUnits : Addr) : SS K := SS.seq (SS.ite (ST.or (ST.not (ST.val (SE.isi (SE.var 0) "tuple"))) (ST.val (SE.bin (opGt K) (SE.seq (opLen K) (SQ.of (SE.var 0))) (SE.int 3)))) (SS.seq (SS.raise1 aBadUnits "value" (SE.var 0)) (SS.skip)) (SS.skip)) (SS.seq (SS.ite (ST.not (ST.val (SE.seq (opAll K) (SQ.ofN (SN.comp [1] (SI.any (SE.var 0)) (SG.name K 1) (ST.tru1) (SE.callF (m_is_whole K) (SA.cons (SE.var 1) (SA.cons (SE.int 2) (SA.cons (SE.int 10) (SA.nil))))) (ofb rfl)))))) (SS.seq (SS.raise1 aBadUnits "value" (SE.var 0)) (SS.skip)) (SS.skip)) (SS.seq (SS.ret (SE.var 0)) (SS.skip)))
def m_need_units (K : PySem.W.Frag) (aBadUnits : Addr) : MF := mOf 1 2 (S_need_units K aBadUnits).f
def S_need_row (K : PySem.W.Frag) (aBadRow aBadUnits : Addr) : SS K := SS.seq (SS.expr (SE.callF (m_need_units K aBadUnits) (SA.cons (SE.var 0) (SA.nil)))) (SS.seq (SS.ite (ST.not (ST.val (SE.callF (m_is_row K) (SA.cons (SE.var 0) (SA.cons (SE.var 1) (SA.nil)))))) (SS.seq (SS.raise1 aBadRow "value" (SE.var 1)) (SS.skip)) (SS.skip)) (SS.seq (SS.ret (SE.var 1)) (SS.skip)))
def m_need_row (K : PySem.W.Frag) (aBadRow aBadUnits : Addr) : MF := mOf 2 2 (S_need_row K aBadRow aBadUnits).f
def S_law_mixed (K : PySem.W.Frag) : SS K := SS.seq (SS.asg (SG.name K 0) (SE.bin (opMod K) (SE.call (opInt K) (SA.cons (SE.var 0) (SA.nil))) (SE.int 2147483647))) (SS.seq (SS.ret (SE.bin (opMod K) (SE.bin (opMul K) (SE.bin (opMod K) (SE.bin (opAdd K) (SE.bin (opAdd K) (SE.bin (opMul K) (SE.var 0) (SE.bin (opAdd K) (SE.int 48271) (SE.bin (opMul K) (SE.bin (opMul K) (SE.int 2) (SE.var 1)) (SE.var 1)))) (SE.bin (opMul K) (SE.int 69621) (SE.var 1))) (SE.int 11)) (SE.int 2147483647)) (SE.int 69621)) (SE.int 2147483629))) (SS.skip))
def m_law_mixed (K : PySem.W.Frag) : MF := mOf 2 2 (S_law_mixed K).f
def S_law_draw (K : PySem.W.Frag) : SS K := SS.seq (SS.asg (SG.name K 2) (SE.stAt 0)) (SS.seq (SS.stAt 0 (SE.bin (opAdd K) (SE.var 2) (SE.int 1))) (SS.seq (SS.asg (SG.name K 3) (SE.bin (opMod K) (SE.call (opInt K) (SA.cons (SE.var 2) (SA.nil))) (SE.seq (opLen K) (SQ.of (SE.stCells 0))))) (SS.seq (SS.asg (SG.name K 4) (SE.stLeft 0 (SE.var 3))) (SS.seq (SS.ite (ST.val (SE.bin (opGt K) (SE.var 4) (SE.int 0))) (SS.seq (SS.stLeft 0 (SE.var 3) (SE.bin (opDiv K) (SE.var 4) (SE.var 1))) (SS.seq (SS.ret (SE.bin (opMod K) (SE.call (opInt K) (SA.cons (SE.var 4) (SA.nil))) (SE.var 1))) (SS.skip))) (SS.skip)) (SS.seq (SS.asg (SG.name K 5) (SE.callF (m_law_mixed K) (SA.cons (SE.callF (m_law_mixed K) (SA.cons (SE.bin (opIx K) (SE.stCells 0) (SE.var 3)) (SA.cons (SE.var 2) (SA.nil)))) (SA.cons (SE.bin (opAdd K) (SE.int 40) (SE.var 2)) (SA.nil))))) (SS.seq (SS.ret (SE.bin (opMod K) (SE.bin (opDiv K) (SE.call (opInt K) (SA.cons (SE.bin (opAdd K) (SE.bin (opMul K) (SE.var 5) (SE.int 2147483647)) (SE.callF (m_law_mixed K) (SA.cons (SE.var 5) (SA.cons (SE.bin (opAdd K) (SE.int 7) (SE.var 2)) (SA.nil))))) (SA.nil))) (SE.int 64)) (SE.var 1))) (SS.skip)))))))
def m_law_draw (K : PySem.W.Frag) : MF := mOf 2 6 (S_law_draw K).f
def S_law_units (K : PySem.W.Frag) : SS K := SS.seq (SS.ret (SE.seq (opTuple K) (SQ.ofN (SN.comp [1] (SI.rng1 (SE.callF (m_law_draw K) (SA.cons (SE.var 0) (SA.cons (SE.int 3) (SA.nil))))) (SG.name K 1) (ST.tru1) (SE.bin (opAdd K) (SE.int 2) (SE.callF (m_law_draw K) (SA.cons (SE.var 0) (SA.cons (SE.int 3) (SA.nil))))) (ofb rfl))))) (SS.skip)
def m_law_units (K : PySem.W.Frag) : MF := mOf 1 2 (S_law_units K).f
def S_law_sizes (K : PySem.W.Frag) : SS K := SS.seq (SS.asg (SG.name K 1) (SE.tup (SA.cons (SE.int 1) (SA.nil)))) (SS.seq (SS.for (SI.any (SE.rv (SE.var 0) (SO.none) (SO.none))) (SG.name K 2) (SS.seq (SS.asg (SG.name K 1) (SE.bin (opAdd K) (SE.tup (SA.cons (SE.bin (opMul K) (SE.bin (opIx K) (SE.var 1) (SE.int 0)) (SE.var 2)) (SA.nil))) (SE.var 1))) (SS.skip))) (SS.seq (SS.ret (SE.var 1)) (SS.skip)))
def m_law_sizes (K : PySem.W.Frag) : MF := mOf 1 3 (S_law_sizes K).f
def S_law_like (K : PySem.W.Frag) : SS K := SS.seq (SS.ret (SE.bin (opEq K) (SE.call (opRepr K) (SA.cons (SE.var 0) (SA.nil))) (SE.call (opRepr K) (SA.cons (SE.var 1) (SA.nil))))) (SS.skip)
def m_law_like (K : PySem.W.Frag) : MF := mOf 2 2 (S_law_like K).f
def S_sizes (K : PySem.W.Frag) (aBadUnits : Addr) : SS K := SS.seq (SS.expr (SE.callF (m_need_units K aBadUnits) (SA.cons (SE.var 0) (SA.nil)))) (SS.seq (SS.asgO 1 (SN.lst (SA.cons (SE.int 1) (SA.nil)))) (SS.seq (SS.for (SI.rev (SE.var 0)) (SG.name K 2) (SS.seq (SS.append 1 (SE.bin (opMul K) (SE.var 2) (SE.ixO 1 (SE.un (opNeg K) (SE.int 1))))) (SS.skip))) (SS.frz 1 (SS.seq (SS.ret (SE.seq (opTuple K) (SQ.of (SE.rvl (SE.var 1))))) (SS.skip)))))
def m_sizes (K : PySem.W.Frag) (aBadUnits : Addr) : MF := mOf 1 3 (S_sizes K aBadUnits).f
def S_law_total (K : PySem.W.Frag) : SS K := SS.seq (SS.ret (SE.seq (opSum K) (SQ.ofN (SN.comp [2, 3] (SI.zipG (SE.var 1) (SE.callF (m_law_sizes K) (SA.cons (SE.var 0) (SA.nil)))) (SG.tup 2 (SGs.cons (SG.name K 2) (SGs.cons (SG.name K 3) (SGs.nil K)))) (ST.tru1) (SE.bin (opMul K) (SE.var 2) (SE.var 3)) (ofb rfl))))) (SS.skip)
def m_law_total (K : PySem.W.Frag) : MF := mOf 2 4 (S_law_total K).f
def S_law_parts_b1 (K : PySem.W.Frag) : SS K := SS.seq (SS.asg (SG.name K 3) (SE.bin (opAdd K) (SE.var 3) (SE.ofN (SN.comp [5] (SI.rng1 (SE.bin (opAdd K) (SE.var 2) (SE.int 1))) (SG.name K 5) (ST.tru1) (SE.bin (opAdd K) (SE.var 4) (SE.tup (SA.cons (SE.var 5) (SA.nil)))) (ofb rfl))))) (SS.skip)
def S_law_parts_b2 (K : PySem.W.Frag) : SS K := SS.seq (SS.asg (SG.name K 3) (SE.ofN (SN.lst (SA.nil)))) (SS.seq (SS.for (SI.any (SE.var 1)) (SG.name K 4) (S_law_parts_b1 K)) (SS.seq (SS.asg (SG.name K 1) (SE.ofN (SN.seq (opList K) (SQ.of (SE.var 3))))) (SS.skip)))
def S_law_parts (K : PySem.W.Frag) : SS K := SS.seq (SS.asg (SG.name K 1) (SE.ofN (SN.lst (SA.cons (SE.tup (SA.nil)) (SA.nil))))) (SS.seq (SS.for (SI.any (SE.var 0)) (SG.name K 2) (S_law_parts_b2 K)) (SS.seq (SS.ret (SE.var 1)) (SS.skip)))
def m_law_parts (K : PySem.W.Frag) : MF := mOf 1 6 (S_law_parts K).f
end Hx

/-! # Rows, stairs, cuts: plain mathematics over lists of integers -/
namespace Rm
abbrev Rw := List Int

/-- the stair, with a carry -/
def S : Int → Rw → Rw → Rw
  | c, u :: us, x :: xs => (c + x) :: S (u * (c + x)) us xs
  | c, [], x :: _ => [c + x]
  | _, _, [] => []
def tot : Int → Rw → Rw → Int
  | c, u :: us, x :: xs => tot (u * (c + x)) us xs
  | c, [], x :: _ => c + x
  | _, _, [] => 0
def Le : Rw → Rw → Prop
  | [], [] => True
  | a :: x, b :: y => a ≤ b ∧ Le x y
  | _, _ => False
instance decLe : (x y : Rw) → Decidable (Le x y)
  | [], [] => .isTrue trivial
  | [], _ :: _ => .isFalse id
  | _ :: _, [] => .isFalse id
  | a :: x, b :: y => match decLe x y with
    | .isTrue h => if h2 : a ≤ b then .isTrue ⟨h2, h⟩ else .isFalse fun z => h2 z.1
    | .isFalse h => .isFalse fun z => h z.2
def NN : Rw → Prop
  | [] => True
  | a :: x => 0 ≤ a ∧ NN x
instance decNN : (x : Rw) → Decidable (NN x)
  | [] => .isTrue trivial
  | a :: x => match decNN x with
    | .isTrue h => if h2 : 0 ≤ a then .isTrue ⟨h2, h⟩ else .isFalse fun z => h2 z.1
    | .isFalse h => .isFalse fun z => h z.2
/-- units: ratios from 1 on -/
def U : Rw → Prop
  | [] => True
  | a :: x => 1 ≤ a ∧ U x
theorem Le.refl : ∀ x : Rw, Le x x
  | [] => trivial
  | a :: x => ⟨Int.le_refl a, Le.refl x⟩
theorem Le.trans : ∀ {x y z : Rw}, Le x y → Le y z → Le x z
  | [], [], [], _, _ => trivial
  | _ :: _, _ :: _, _ :: _, a, b => ⟨Int.le_trans a.1 b.1, Le.trans a.2 b.2⟩
  | [], [], _ :: _, _, b => b.elim
  | [], _ :: _, _, a, _ => a.elim
  | _ :: _, [], _, a, _ => a.elim
  | _ :: _, _ :: _, [], _, b => b.elim
theorem Le.length : ∀ {x y : Rw}, Le x y → x.length = y.length
  | [], [], _ => rfl
  | a :: x, b :: y, h => by simp [Le.length h.2]
  | [], _ :: _, a => a.elim
  | _ :: _, [], a => a.elim

/-- a cut -/
def cut : Rw → Rw → Nat → Rw
  | u :: _, a :: b :: r, 0 => (a - 1) :: (b + u) :: r
  | _ :: us, a :: r, p + 1 => a :: cut us r p
  | _, r, _ => r
theorem cut_s (u a : Int) (us r : Rw) (p : Nat) : cut (u :: us) (a :: r) (p + 1) = a :: cut us r p := by cases r <;> rfl
def pick : Rw → Nat → Int
  | a :: _, 0 => a
  | _ :: r, p + 1 => pick r p
  | [], _ => 0
def dec : Rw → Nat → Rw
  | a :: r, 0 => (a - 1) :: r
  | a :: r, p + 1 => a :: dec r p
  | [], _ => []
theorem S_carry (c d x : Int) (us xs : Rw) : S (c - d) us ((x + d) :: xs) = S c us (x :: xs) := by
  have e : c - d + (x + d) = c + x := by omega
  cases us with
  | nil => simp [S, e]
  | cons u us => simp [S, e]
theorem S_cut : ∀ (us r : Rw) (c : Int) (p : Nat), r.length = us.length + 1 → p < us.length → S c us (cut us r p) = dec (S c us r) p
  | u :: us, a :: b :: r, c, 0, _, _ => by
    show (c + (a - 1)) :: S (u * (c + (a - 1))) us ((b + u) :: r) = dec ((c + a) :: S (u * (c + a)) us (b :: r)) 0
    have e : c + (a - 1) = c + a - 1 := by omega
    have e2 : u * (c + (a - 1)) = u * (c + a) - u := by rw [e, Int.mul_sub, Int.mul_one]
    rw [e2, e, S_carry]
    rfl
  | u :: us, a :: r, c, p + 1, h, hp => by
    rw [cut_s]
    show (c + a) :: S (u * (c + a)) us (cut us r p) = (c + a) :: dec (S (u * (c + a)) us r) p
    rw [S_cut us r _ p (by simpa using h) (by simpa using hp)]
  | [], _, _, _, _, hp => by simp at hp
  | _ :: _, [_], _, 0, h, _ => by simp at h
  | _ :: _, [], _, _, h, _ => by simp at h
theorem cut_length : ∀ (us r : Rw) (p : Nat), (cut us r p).length = r.length
  | u :: us, a :: b :: r, 0 => rfl
  | u :: us, a :: r, p + 1 => by simp [cut, cut_length us r p]
  | [], r, p => by cases r <;> cases p <;> rfl
  | _ :: _, [], p => by cases p <;> rfl
  | _ :: _, [_], 0 => rfl
theorem cut_NN : ∀ (us r : Rw) (p : Nat), U us → NN r → 0 < pick r p → NN (cut us r p)
  | u :: us, a :: b :: r, 0, hu, h, hp => ⟨by simp [pick] at hp; omega, by have := h.2.1; have := hu.1; omega, h.2.2⟩
  | u :: us, a :: r, p + 1, hu, h, hp => by rw [cut_s]; exact ⟨h.1, cut_NN us r p hu.2 h.2 hp⟩
  | [], r, p, _, h, _ => by cases r <;> cases p <;> exact h
  | _ :: _, [], p, _, h, _ => by cases p <;> exact h
  | _ :: _, [_], 0, _, h, _ => h
theorem tot_carry (c d x : Int) (us xs : Rw) : tot (c - d) us ((x + d) :: xs) = tot c us (x :: xs) := by
  have e : c - d + (x + d) = c + x := by omega
  cases us with
  | nil => simp [tot, e]
  | cons u us => simp [tot, e]
theorem tot_cut : ∀ (us r : Rw) (c : Int) (p : Nat), r.length = us.length + 1 → p < us.length → tot c us (cut us r p) = tot c us r
  | u :: us, a :: b :: r, c, 0, _, _ => by
    show tot (u * (c + (a - 1))) us ((b + u) :: r) = tot (u * (c + a)) us (b :: r)
    have e : c + (a - 1) = c + a - 1 := by omega
    have e2 : u * (c + (a - 1)) = u * (c + a) - u := by rw [e, Int.mul_sub, Int.mul_one]
    rw [e2, tot_carry]
  | u :: us, a :: r, c, p + 1, h, hp => by rw [cut_s]; exact tot_cut us r _ p (by simpa using h) (by simpa using hp)
  | [], _, _, _, _, hp => by simp at hp
  | _ :: _, [_], _, 0, h, _ => by simp at h
  | _ :: _, [], _, _, h, _ => by simp at h
theorem dec_le : ∀ (s : Rw) (p : Nat), Le (dec s p) s
  | [], _ => trivial
  | a :: s, 0 => ⟨by omega, Le.refl s⟩
  | a :: s, p + 1 => ⟨Int.le_refl a, dec_le s p⟩

/-- what single cuts lead to -/
inductive Reach (us r : Rw) : Rw → Prop
  | refl : Reach us r r
  | step {r' : Rw} {p : Nat} : Reach us r r' → p < us.length → 0 < pick r' p → Reach us r (cut us r' p)
theorem Reach.facts {us r r' : Rw} (hu : U us) (hl : r.length = us.length + 1) (hn : NN r) (h : Reach us r r') :
    r'.length = us.length + 1 ∧ NN r' ∧ Le (S 0 us r') (S 0 us r) ∧ tot 0 us r' = tot 0 us r := by
  induction h with
  | refl => exact ⟨hl, hn, Le.refl _, rfl⟩
  | step h hp h0 ih =>
    obtain ⟨i1, i2, i3, i4⟩ := ih
    exact ⟨by rw [cut_length]; exact i1, cut_NN us _ _ hu i2 h0, by rw [S_cut us _ 0 _ i1 hp]; exact (dec_le _ _).trans i3, by rw [tot_cut us _ 0 _ i1 hp]; exact i4⟩
theorem Reach.head {us r r' : Rw} {p : Nat} (hp : p < us.length) (h0 : 0 < pick r p) (h : Reach us (cut us r p) r') : Reach us r r' := by
  induction h with
  | refl => exact .step .refl hp h0
  | step _ hp' h0' ih => exact .step ih hp' h0'
def sumR : Rw → Int
  | [] => 0
  | a :: r => a + sumR r
theorem Le.sum : ∀ {x y : Rw}, Le x y → sumR x ≤ sumR y
  | [], [], _ => Int.le_refl _
  | a :: x, b :: y, h => by have := h.1; have := Le.sum h.2; simp only [sumR]; omega
  | [], _ :: _, a => a.elim
  | _ :: _, [], a => a.elim
end Rm

namespace Rm
/-! ### sums, fitting -/
def plus : Rw → Rw → Rw
  | a :: x, b :: y => (a + b) :: plus x y
  | _, _ => []
/-- pieces of the least unit more -/
def more : Rw → Int → Rw
  | [], _ => []
  | [a], d => [a + d]
  | a :: b :: r, d => a :: more (b :: r) d
theorem Le.NN : ∀ {x y : Rw}, Le x y → NN x → NN y
  | [], [], _, _ => trivial
  | a :: x, b :: y, h, n => ⟨Int.le_trans n.1 h.1, Le.NN h.2 n.2⟩
  | [], _ :: _, a, _ => a.elim
  | _ :: _, [], a, _ => a.elim
theorem plus_length : ∀ (x y : Rw), x.length = y.length → (plus x y).length = x.length
  | a :: x, b :: y, h => by simp [plus, plus_length x y (by simpa using h)]
  | [], [], _ => rfl
  | [], _ :: _, h => by simp at h
  | _ :: _, [], h => by simp at h
theorem plus_NN : ∀ {x y : Rw}, NN x → NN y → NN (plus x y)
  | a :: x, b :: y, h, k => ⟨by have := h.1; have := k.1; omega, plus_NN h.2 k.2⟩
  | [], [], _, _ => trivial
  | [], _ :: _, _, _ => trivial
  | _ :: _, [], _, _ => trivial
/-- stairs of rows side by side are added -/
theorem S_plus : ∀ (us x y : Rw) (c d : Int), x.length = us.length + 1 → y.length = us.length + 1 → S (c + d) us (plus x y) = plus (S c us x) (S d us y)
  | u :: us, a :: x, b :: y, c, d, hx, hy => by
    have e : c + d + (a + b) = (c + a) + (d + b) := by omega
    show (c + d + (a + b)) :: S (u * (c + d + (a + b))) us (plus x y) = ((c + a) + (d + b)) :: plus (S (u * (c + a)) us x) (S (u * (d + b)) us y)
    rw [e, Int.mul_add, S_plus us x y _ _ (by simpa using hx) (by simpa using hy)]
  | [], [a], [b], c, d, _, _ => by
    have e : c + d + (a + b) = (c + a) + (d + b) := by omega
    show [c + d + (a + b)] = [(c + a) + (d + b)]
    rw [e]
  | [], [], _, _, _, h, _ => by simp at h
  | _ :: _, [], _, _, _, h, _ => by simp at h
  | [], _ :: _ :: _, _, _, _, h, _ => by simp at h
  | [], [_], [], _, _, _, h => by simp at h
  | _ :: _, _ :: _, [], _, _, _, h => by simp at h
  | [], [_], _ :: _ :: _, _, _, _, h => by simp at h
theorem tot_plus : ∀ (us x y : Rw) (c d : Int), x.length = us.length + 1 → y.length = us.length + 1 → tot (c + d) us (plus x y) = tot c us x + tot d us y
  | u :: us, a :: x, b :: y, c, d, hx, hy => by
    have e : c + d + (a + b) = (c + a) + (d + b) := by omega
    show tot (u * (c + d + (a + b))) us (plus x y) = tot (u * (c + a)) us x + tot (u * (d + b)) us y
    rw [e, Int.mul_add, tot_plus us x y _ _ (by simpa using hx) (by simpa using hy)]
  | [], [a], [b], c, d, _, _ => by
    show c + d + (a + b) = (c + a) + (d + b)
    omega
  | [], [], _, _, _, h, _ => by simp at h
  | _ :: _, [], _, _, _, h, _ => by simp at h
  | [], _ :: _ :: _, _, _, _, h, _ => by simp at h
  | [], [_], [], _, _, _, h => by simp at h
  | _ :: _, _ :: _, [], _, _, _, h => by simp at h
  | [], [_], _ :: _ :: _, _, _, _, h => by simp at h
theorem tot0_plus (us x y : Rw) (hx : x.length = us.length + 1) (hy : y.length = us.length + 1) : tot 0 us (plus x y) = tot 0 us x + tot 0 us y := tot_plus us x y 0 0 hx hy
/-! ### stairs, DOWN, UP -/
/-- a stair, whose item ahead times the ratio is c -/
def Stair : Int → Rw → Rw → Prop
  | c, u :: us, a :: s => c ≤ a ∧ Stair (u * a) us s
  | c, [], [a] => c ≤ a
  | _, _, _ => False
theorem Stair.length : ∀ {us s : Rw} {c : Int}, Stair c us s → s.length = us.length + 1
  | u :: us, a :: s, c, h => by simp [Stair.length h.2]
  | [], [a], c, _ => rfl
  | [], [], _, h => h.elim
  | _ :: _, [], _, h => h.elim
  | [], _ :: _ :: _, _, h => h.elim
theorem stair_iff : ∀ (us r : Rw) (c : Int), r.length = us.length + 1 → (Stair c us (S c us r) ↔ NN r)
  | u :: us, a :: r, c, h => by
    show (c ≤ c + a ∧ Stair (u * (c + a)) us (S (u * (c + a)) us r)) ↔ (0 ≤ a ∧ NN r)
    rw [stair_iff us r _ (by simpa using h)]
    constructor
    · rintro ⟨h1, h2⟩; exact ⟨by omega, h2⟩
    · rintro ⟨h1, h2⟩; exact ⟨by omega, h2⟩
  | [], [a], c, _ => by
    show c ≤ c + a ↔ (0 ≤ a ∧ True)
    constructor
    · intro h; exact ⟨by omega, trivial⟩
    · rintro ⟨h, _⟩; omega
  | [], [], _, h => by simp at h
  | _ :: _, [], _, h => by simp at h
  | [], _ :: _ :: _, _, h => by simp at h
def hd : Rw → Int
  | a :: _ => a
  | [] => 0
/-- DOWN -/
def down : Rw → Rw → Rw
  | u :: us, a :: d => let r := down us d; min a (hd r / u) :: r
  | [], a :: _ => [a]
  | _, [] => []
def last : Rw → Int
  | [] => 0
  | [a] => a
  | _ :: b :: r => last (b :: r)
/-- UP -/
def up : Int → Rw → Rw → Rw
  | c, u :: us, a :: d => max c a :: up (u * max c a) us d
  | c, [], a :: _ => [max c a]
  | _, _, [] => []
end Rm

namespace Hx
open PySem PySem.Spec PyProof.Rows L2 RZ Yx Rm
variable [Tb] [Cb]

/-! ### plain evaluation: more facts -/
theorem sl0 {x : D} : cutD [x] (some 1) none = [] := by with_unfolding_all rfl
theorem sl1 {x y : D} : cutD [x, y] (some 1) none = [y] := by with_unfolding_all rfl
theorem sl2 {x y z : D} : cutD [x, y, z] (some 1) none = [y, z] := by with_unfolding_all rfl
theorem sl3 {x y z w : D} : cutD [x, y, z, w] (some 1) none = [y, z, w] := by with_unfolding_all rfl
theorem rev4 {α : Type} {a b c d : α} : cutR [a, b, c, d] none none = [d, c, b, a] := by with_unfolding_all rfl
theorem atD_eq {l : List D} {i : Int} : atD l i = atI l i := rfl
theorem atI_3 {α : Type} {a b c d : α} {l : List α} : atI (a :: b :: c :: d :: l) 3 = some d := atI_of (l := a :: b :: c :: d :: l) (k := 3) (by decide) (by simp only [List.length_cons]; omega)
theorem is_int {v : Int} : isiB (.int v) "int" = some true := by with_unfolding_all rfl
theorem is_bool {v : Int} : isiB (.int v) "bool" = some false := by with_unfolding_all rfl
theorem is_tuple {l : List D} : isiB (.tup l) "tuple" = some true := by with_unfolding_all rfl
theorem is_tuple_l {l : List D} : isiB (.lst l) "tuple" = some false := by with_unfolding_all rfl
theorem is_tuple_n : isiB .non "tuple" = some false := by with_unfolding_all rfl
theorem is_tuple_i {v : Int} : isiB (.int v) "tuple" = some false := by with_unfolding_all rfl
theorem is_tuple_s {v : Str} : isiB (.str v) "tuple" = some false := by with_unfolding_all rfl
theorem is_tuple_b {v : Bool} : isiB (.bl v) "tuple" = some false := by with_unfolding_all rfl
theorem is_int_l {l : List D} : isiB (.lst l) "int" = some false := by with_unfolding_all rfl
theorem is_int_t {l : List D} : isiB (.tup l) "int" = some false := by with_unfolding_all rfl
theorem is_int_n : isiB .non "int" = some false := by with_unfolding_all rfl
theorem is_int_s {v : Str} : isiB (.str v) "int" = some false := by with_unfolding_all rfl
theorem is_int_b {v : Bool} : isiB (.bl v) "int" = some true := by with_unfolding_all rfl
theorem is_bool_b {v : Bool} : isiB (.bl v) "bool" = some true := by with_unfolding_all rfl
theorem allT0 {K : PySem.W.Frag} : (opAll K).f false [] = some (.bl true) := rfl
theorem allT1 {K : PySem.W.Frag} {a : Bool} : (opAll K).f false [.bl a] = some (.bl a) := by cases a <;> rfl
theorem allT2 {K : PySem.W.Frag} {a b : Bool} : (opAll K).f false [.bl a, .bl b] = some (.bl (a && b)) := by cases a <;> cases b <;> rfl
theorem allT3 {K : PySem.W.Frag} {a b c : Bool} : (opAll K).f false [.bl a, .bl b, .bl c] = some (.bl (a && (b && c))) := by cases a <;> cases b <;> cases c <;> rfl
theorem allT4 {K : PySem.W.Frag} {a b c d : Bool} : (opAll K).f false [.bl a, .bl b, .bl c, .bl d] = some (.bl (a && (b && (c && d)))) := by cases a <;> cases b <;> cases c <;> cases d <;> rfl
theorem c0 : ((0 : Nat) : Int) = 0 := rfl
theorem c1 : ((1 : Nat) : Int) = 1 := rfl
theorem c2 : ((2 : Nat) : Int) = 2 := rfl
theorem c3 : ((3 : Nat) : Int) = 3 := rfl
theorem c4 : ((4 : Nat) : Int) = 4 := rfl
theorem eqvI {i j : Int} : PyData.eqv (.int i) (.int j) = decide (i = j) := by
  simp only [PyData.eqv]
  rfl
theorem neI {K : PySem.W.Frag} {i j : Int} : (opNe K).f (.int i) (.int j) = some (.bl (!decide (i = j))) := by
  show Yx.eqF true (.int i) (.int j) = _
  have e : (shD (.int i) && shD (.int j)) = true := rfl
  unfold Yx.eqF
  rw [if_pos e, if_pos rfl]
  simp only [D.py, eqvI]
theorem eqI {K : PySem.W.Frag} {i j : Int} : (opEq K).f (.int i) (.int j) = some (.bl (decide (i = j))) := by
  show Yx.eqF false (.int i) (.int j) = _
  have e : (shD (.int i) && shD (.int j)) = true := rfl
  unfold Yx.eqF
  rw [if_pos e, if_neg (by decide)]
  simp only [D.py, eqvI]
theorem pow60 {K : PySem.W.Frag} : (opPow K).f (.int 10) (.int 60) = some (.int (10 ^ 60)) := by with_unfolding_all rfl
theorem isI {K : PySem.W.Frag} {i : Int} : (opIs K).f (.int i) .non = some (.bl false) := rfl
theorem isT {K : PySem.W.Frag} {l : List D} : (opIs K).f (.tup l) .non = some (.bl false) := rfl
theorem isN {K : PySem.W.Frag} : (opIs K).f .non .non = some (.bl true) := rfl
theorem min2I {K : PySem.W.Frag} {i j : Int} : (opMin2 K).f [.int i, .int j] = some (.int (if j < i then j else i)) := rfl
theorem max2I {K : PySem.W.Frag} {i j : Int} : (opMax2 K).f [.int i, .int j] = some (.int (if j > i then j else i)) := rfl
theorem ixN_01 : ixN 1 0 = some 0 := rfl
theorem ixN_02 : ixN 2 0 = some 0 := rfl
theorem ixN_03 : ixN 3 0 = some 0 := rfl
theorem ixN_04 : ixN 4 0 = some 0 := rfl
theorem ixN_12 : ixN 2 1 = some 1 := rfl
theorem ixN_13 : ixN 3 1 = some 1 := rfl
theorem ixN_14 : ixN 4 1 = some 1 := rfl
theorem ixN_23 : ixN 3 2 = some 2 := rfl
theorem ixN_24 : ixN 4 2 = some 2 := rfl
theorem ixN_34 : ixN 4 3 = some 3 := rfl
/-- a row as data -/
def dR (r : Rw) : D := .tup (r.map D.int)
theorem dR_eq (r : Rw) : dR r = .tup (r.map D.int) := rfl
end Hx
local macro_rules | `(tactic| simp_arith! [$xs,*]) => `(tactic| simp only [Yx.startS, List.length_cons, List.length_nil, Nat.zero_add, Nat.reduceAdd, if_true, List.map_cons, List.map_nil, Nat.sub_self, Nat.reduceSub, Yx.rep0, Yx.rep1, List.append_nil, List.nil_append, List.cons_append, Yx.sget_z, Yx.sget_s, Yx.sown_z, Yx.sown_s, Yx.ofo_some, Yx.ofo_none, Yx.bind_ok, Yx.bind_bad, Yx.toO_ok, Yx.then_nx, Yx.then_rt, List.set_cons_zero, List.set_cons_succ, List.getElem?_cons_zero, List.getElem?_cons_succ, Nat.reduceLT, Bool.false_eq_true, if_false, Yx.addI, Yx.subI, Yx.modI, Yx.divI, Yx.ltI, Yx.leI, Yx.gtI, Yx.geI, Yx.negI, Yx.intI, Yx.lenI, Yx.tupI, Yx.listI, Yx.isSt_y, Yx.ixL, Yx.ixT, decide_eq_true_eq, Int.reduceLT, Yx.szOk_lit, Nat.reduceLeDiff, Yx.atI_0, Yx.atI_1, Yx.atI_2, Yx.atI_last, List.getLast_cons_cons, List.getLast_singleton, Yx.addT, Yx.rev0, Yx.rev1, Yx.rev2, Yx.rev3, Yx.forF, Yx.calm_nil, Yx.calm_none, Yx.calm_dat, Yx.wipeS, Yx.compF, Yx.rngD0, Yx.rngD_s, Int.toNat_natCast, Int.reduceToNat, Int.reduceLE, Int.reducePow, Int.reduceNeg, Hx.dR_eq, Hx.sl0, Hx.sl1, Hx.sl2, Hx.sl3, Hx.rev4, Hx.atD_eq, Hx.atI_3, Hx.is_int, Hx.is_bool, Hx.is_tuple, Hx.is_tuple_l, Hx.is_tuple_n, Hx.is_tuple_i, Hx.is_tuple_s, Hx.is_tuple_b, Hx.is_int_l, Hx.is_int_t, Hx.is_int_n, Hx.is_int_s, Hx.is_int_b, Hx.is_bool_b, Hx.allT0, Hx.allT1, Hx.allT2, Hx.allT3, Hx.allT4, Hx.c0, Hx.c1, Hx.c2, Hx.c3, Hx.c4, Hx.neI, Hx.eqI, Hx.isI, Hx.isT, Hx.isN, Hx.min2I, Hx.max2I, Hx.ixN_01, Hx.ixN_02, Hx.ixN_03, Hx.ixN_04, Hx.ixN_12, Hx.ixN_13, Hx.ixN_14, Hx.ixN_23, Hx.ixN_24, Hx.ixN_34, Yx.twoF, Yx.seqD, Yx.zipD, Yx.setAll, List.zip_cons_cons, List.zip_nil_left, List.zip_nil_right, decide_true, decide_false, Bool.not_true, Bool.not_false, Int.reduceAdd, Int.reduceSub, Int.reduceMul, Int.reduceEq, Int.zero_add, Yx.then_exc, Yx.toO_exc, Yx.bind_exc, List.reverse_cons, List.reverse_nil, Bool.and_true, Bool.true_and, Bool.and_false, Bool.false_and, $xs,*])
namespace Hx
open PySem PySem.Spec PyProof.Rows L2 RZ Yx Rm
variable [Tb] [Cb]
theorem shape {us r : Rw} (h : us.length ≤ 3) (hr : r.length = us.length + 1) : (∃ x, us = [] ∧ r = [x]) ∨ (∃ a x y, us = [a] ∧ r = [x, y]) ∨ (∃ a b x y z, us = [a, b] ∧ r = [x, y, z]) ∨ (∃ a b c x y z w, us = [a, b, c] ∧ r = [x, y, z, w]) := by
  match us, r, h, hr with
  | [], [x], _, _ => exact .inl ⟨x, rfl, rfl⟩
  | [a], [x, y], _, _ => exact .inr (.inl ⟨a, x, y, rfl, rfl⟩)
  | [a, b], [x, y, z], _, _ => exact .inr (.inr (.inl ⟨a, b, x, y, z, rfl, rfl⟩))
  | [a, b, c], [x, y, z, w], _, _ => exact .inr (.inr (.inr ⟨a, b, c, x, y, z, w, rfl, rfl⟩))
/-- units as they are drawn and told -/
structure UO (us : Rw) : Prop where
  len : us.length ≤ 3
  two : ∀ u ∈ us, 2 ≤ u ∧ u ≤ 10
theorem UO.u {us : Rw} (h : UO us) : U us := by
  have := h.two
  clear h
  induction us with
  | nil => trivial
  | cons u us ih => exact ⟨by have := this u (by simp); omega, ih fun v hv => this v (List.mem_cons_of_mem _ hv)⟩
/-- numbers of ordinary size -/
def Big (n : Int) (r : Rw) : Prop := ∀ a ∈ r, -n ≤ a ∧ a ≤ n
theorem one {r : Rw} (h : r.length = 1) : ∃ x, r = [x] := by
  match r, h with
  | [x], _ => exact ⟨x, rfl⟩
theorem two {r : Rw} (h : r.length = 2) : ∃ x y, r = [x, y] := by
  match r, h with
  | [x, y], _ => exact ⟨x, y, rfl⟩
theorem three {r : Rw} (h : r.length = 3) : ∃ x y z, r = [x, y, z] := by
  match r, h with
  | [x, y, z], _ => exact ⟨x, y, z, rfl⟩
section
variable {K : PySem.W.Frag} {x : Option Gst}
end
end Hx

/-- begins a def -/
local macro_rules | `(tactic| simp_arith [$xs,*]) => `(tactic| simp only [Yx.startS, List.length_cons, List.length_nil, Nat.zero_add, Nat.reduceAdd, if_true, List.map_cons, List.map_nil, Nat.sub_self, Nat.reduceSub, Yx.rep0, Yx.rep1, List.append_nil, List.nil_append, List.cons_append, Yx.sget_z, Yx.sget_s, Yx.sown_z, Yx.sown_s, Yx.ofo_some, Yx.ofo_none, Yx.bind_ok, Yx.bind_bad, Yx.toO_ok, Yx.then_nx, Yx.then_rt, List.set_cons_zero, List.set_cons_succ, List.getElem?_cons_zero, List.getElem?_cons_succ, Nat.reduceLT, Bool.false_eq_true, if_false, Yx.addI, Yx.subI, Yx.modI, Yx.divI, Yx.ltI, Yx.leI, Yx.gtI, Yx.geI, Yx.negI, Yx.intI, Yx.lenI, Yx.tupI, Yx.listI, Yx.isSt_y, Yx.ixL, Yx.ixT, decide_eq_true_eq, Int.reduceLT, Yx.szOk_lit, Nat.reduceLeDiff, Yx.atI_0, Yx.atI_1, Yx.atI_2, Yx.atI_last, List.getLast_cons_cons, List.getLast_singleton, Yx.addT, Yx.rev0, Yx.rev1, Yx.rev2, Yx.rev3, Yx.calm_nil, Yx.calm_none, Yx.calm_dat, Yx.wipeS, Yx.rngD0, Yx.rngD_s, Int.toNat_natCast, Int.reduceToNat, Int.reduceLE, Int.reducePow, Int.reduceNeg, Hx.dR_eq, Hx.sl0, Hx.sl1, Hx.sl2, Hx.sl3, Hx.rev4, Hx.atD_eq, Hx.atI_3, Hx.is_int, Hx.is_bool, Hx.is_tuple, Hx.is_tuple_l, Hx.is_tuple_n, Hx.is_tuple_i, Hx.is_tuple_s, Hx.is_tuple_b, Hx.is_int_l, Hx.is_int_t, Hx.is_int_n, Hx.is_int_s, Hx.is_int_b, Hx.is_bool_b, Hx.allT0, Hx.allT1, Hx.allT2, Hx.allT3, Hx.allT4, Hx.c0, Hx.c1, Hx.c2, Hx.c3, Hx.c4, Hx.neI, Hx.eqI, Hx.isI, Hx.isT, Hx.isN, Hx.min2I, Hx.max2I, Hx.ixN_01, Hx.ixN_02, Hx.ixN_03, Hx.ixN_04, Hx.ixN_12, Hx.ixN_13, Hx.ixN_14, Hx.ixN_23, Hx.ixN_24, Hx.ixN_34, Yx.seqD, Yx.zipD, Yx.setAll, List.zip_cons_cons, List.zip_nil_left, List.zip_nil_right, decide_true, decide_false, Bool.not_true, Bool.not_false, Int.reduceAdd, Int.reduceSub, Int.reduceMul, Int.reduceEq, Int.zero_add, Yx.then_exc, Yx.toO_exc, Yx.bind_exc, List.reverse_cons, List.reverse_nil, Bool.and_true, Bool.true_and, Bool.and_false, Bool.false_and, Nat.reduceMul, List.flatten_cons, List.flatten_nil, Bool.and_self, Bool.or_true, Bool.or_false, Bool.true_or, Bool.false_or, ↓Yx.SE.var_w, ↓Yx.SE.con_w, ↓Yx.SE.bin_w, ↓Yx.SE.un_w, ↓Yx.SE.chain_w, ↓Yx.SA.nil_w, ↓Yx.SA.cons_w, ↓Yx.SE.tup_w, ↓Yx.SN.lst_w, ↓Yx.SE.ofN_w, ↓Yx.SQ.of_w, ↓Yx.SQ.own_w, ↓Yx.SQ.ofN_w, ↓Yx.SE.call_w, ↓Yx.SE.seq_w, ↓Yx.SN.seq_w, ↓Yx.SE.ixO_w, ↓Yx.SO.none_w, ↓Yx.SO.some_w, ↓Yx.SE.sl_w, ↓Yx.ST.val_w, ↓Yx.ST.tru_w, ↓Yx.ST.not_w, ↓Yx.ST.and_w, ↓Yx.ST.or_w, ↓Yx.SE.andV_w, ↓Yx.SE.orV_w, ↓Yx.SE.notV_w, ↓Yx.SE.ite_w, ↓Yx.SI.lst_w, ↓Yx.SI.tup_w, ↓Yx.SI.rng1_w, ↓Yx.SI.rng2_w, ↓Yx.SI.zip_w, ↓Yx.SI.enumL_w, ↓Yx.SN.comp_w, ↓Yx.SN.comp2_w, ↓Yx.SS.skip_w, ↓Yx.SS.seq_w, ↓Yx.SS.asg_w, ↓Yx.SS.asgO_w, ↓Yx.SS.expr_w, ↓Yx.SS.append_w, ↓Yx.SS.setix_w, ↓Yx.SS.ret_w, ↓Yx.SS.ite_w, ↓Yx.SS.brk_w, ↓Yx.SS.cont_w, ↓Yx.SS.frz_w, ↓Yx.SS.for_w, ↓Yx.SS.while_w, ↓Yx.SE.callF_w, ↓Yx.SS.raise1_w, ↓Yx.SS.raise0_w, ↓Yx.SE.lam_w, ↓Yx.SE.tupOf_w, ↓Yx.SE.isi_w, ↓Yx.SI.zipG_w, ↓Yx.SI.enumZ_w, ↓Yx.SI.enum_w, ↓Yx.SI.zip3G_w, ↓Yx.SE.stAt_w, ↓Yx.SE.stCells_w, ↓Yx.SE.stLeft_w, ↓Yx.SS.stAt_w, ↓Yx.SS.stLeft_w, ↓Yx.SE.inDic_w, ↓Yx.SS.dput_w, ↓Yx.SX.nil_w, ↓Yx.SX.cons_w, ↓Yx.SX.consN_w, ↓Yx.SX.consD_w, ↓Yx.SS.par2_w, ↓Yx.SS.par3_w, ↓Yx.SE.rv_w, ↓Yx.SI.any_w, ↓Yx.SE.rvl_w, ↓Yx.ST.tru1_w, ↓Yx.SE.callV_w, ↓Yx.SN.rep_w, ↓Yx.SN.cat_w, ↓Yx.SI.rngDn_w, ↓Yx.SA.star_w, ↓Yx.SI.rev_w, ↓Yx.SI.rvr1_w, ↓Yx.SI.rvr2_w, ↓Yx.SE.inOwn_w, ↓Yx.SE.rvB_w, ↓Yx.SN.lrg1_w, ↓Yx.SS.extend_w, ↓Yx.SS.popTo_w, ↓Yx.SS.popG_w, ↓Yx.ST.truO_w, ↓Yx.SE.int_w, ↓Yx.SE.bl_w, ↓Yx.SE.non_w, ↓Yx.SE.str_w, ↓Yx.SE.ref_w, Yx.SG.name_f, Yx.SGs.nil_f, Yx.SGs.cons_f, Yx.SG.tup_f, ↓Yx.hole_w, ↓Yx.twoF_w, ↓Yx.wR_bind, ↓Yx.wO_toO, ↓Yx.wO_then, Yx.wR_bind, Yx.wO_toO, Yx.wO_then, Yx.sget_datS, Yx.wR_ok, Yx.wR_exc, Yx.wO_exc, ↓Yx.wO_try, Yx.wO_nx, Yx.wO_rt, Yx.wO_bk, Yx.wO_ct, Yx.wO_forN, ↓Yx.wO_forC, Yx.wR_compN, Yx.truD, List.isEmpty_cons, List.isEmpty_nil, $xs,*])

namespace Hx
open PySem PySem.Spec PyProof.Rows L2 RZ Yx Rm
variable [Tb] [Cb]
theorem ten60 : (10 : Int) ^ 60 = 1000000000000000000000000000000000000000000000000000000000000 := by decide
theorem ten100 : (10 : Int) ^ 100 = 10000000000000000000000000000000000000000000000000000000000000000000000000000000000000000000000000000 := by decide
def N8 : Int := 100000000000000000000000000000000000000000000000000000000000000000000000000000000
theorem sm8 {a : Int} (h0 : -N8 * 100000000 ≤ a) (h1 : a ≤ N8 * 100000000) : Sm a := by
  unfold N8 at h0 h1
  exact .of (by rw [ten100]; omega) (by rw [ten100]; omega)
theorem smu {u : Int} (h : 2 ≤ u ∧ u ≤ 10) : Sm u := .of (by omega) (by omega)
theorem mul_bd {u a m : Int} (h : 2 ≤ u ∧ u ≤ 10) (h0 : -m ≤ a) (h1 : a ≤ m) : -(10 * m) ≤ u * a ∧ u * a ≤ 10 * m := by
  obtain ⟨hu0, hu1⟩ := h
  have m0 : 0 ≤ m := by omega
  have k1 : u * a ≤ u * m := Int.mul_le_mul_of_nonneg_left h1 (by omega)
  have k2 : u * m ≤ 10 * m := Int.mul_le_mul_of_nonneg_right hu1 m0
  have k3 : u * -m ≤ u * a := Int.mul_le_mul_of_nonneg_left h0 (by omega)
  rw [Int.mul_neg] at k3
  omega
section
variable {K : PySem.W.Frag} {x : Option Gst}
theorem v_is_whole {v lo hi : Int} : m_is_whole K [.int v, .int lo, .int hi] x = .ok (.bl (decide (lo ≤ v) && decide (v ≤ hi))) x := by
  unfold m_is_whole mOf
  simp_all_arith! [S_is_whole]
  unfold m_is_from mOf
  simp_all_arith! [S_is_from]
  by_cases k : lo ≤ v
  · simp_arith! [k]
  · simp_arith! [k]
theorem v_is_row {us r : Rw} (hr : r.length = us.length + 1) (h3 : us.length ≤ 3) : m_is_row K [dR us, dR r] x = .ok (.bl (decide (∀ a ∈ r, 0 ≤ a ∧ a ≤ 10 ^ 60))) x := by
  have w := fun v => v_is_whole (K := K) (x := x) (v := v) (lo := 0) (hi := 10 ^ 60)
  unfold m_is_row mOf
  simp_all_arith! [S_is_row]
  unfold m_is_numbers mOf
  simp_all_arith! [S_is_numbers]
  unfold m_is_tuple_of mOf
  simp_all_arith! [S_is_tuple_of]
  rw [ten60] at *
  rcases shape h3 hr with ⟨p, rfl, rfl⟩ | ⟨a, p, q, rfl, rfl⟩ | ⟨a, b, p, q, r, rfl, rfl⟩ | ⟨a, b, c, p, q, r, s, rfl, rfl⟩
  · simp_arith! [pow60, w, List.mem_singleton, forall_eq, Bool.decide_and]
  · simp_arith! [pow60, w, List.mem_cons, forall_eq_or_imp, List.not_mem_nil, forall_eq, Bool.decide_and, false_implies, implies_true, Bool.and_assoc]
  · simp_arith! [pow60, w, List.mem_cons, forall_eq_or_imp, List.not_mem_nil, forall_eq, Bool.decide_and, false_implies, implies_true, Bool.and_assoc]
  · simp_arith! [pow60, w, List.mem_cons, forall_eq_or_imp, List.not_mem_nil, forall_eq, Bool.decide_and, false_implies, implies_true, Bool.and_assoc]
end
end Hx

namespace Hx
open PySem PySem.Spec PyProof.Rows L2 RZ Yx Rm
variable [Tb] [Cb]

/-! ### loops -/
theorem comp_map {α : Type} {gf : D → Sg → Option Sg} {cf : Sg → Option Gst → R Bool} {ef : Sg → Option Gst → R D} {σ : Sg} {x : Option Gst} (c : α → D) (g : α → D) :
    ∀ (l : List α) (acc : List D), acc.length + l.length ≤ 16777216 → (∀ a ∈ l, ∃ σ1, gf (c a) σ = some σ1 ∧ cf σ1 x = .ok true x ∧ ef σ1 x = .ok (g a) x) →
      compF gf cf ef σ (l.map c) acc x = .ok (acc ++ l.map g) x
  | [], acc, _, _ => by simp [compF]
  | a :: l, acc, h, hh => by
    obtain ⟨σ1, h1, h2, h3⟩ := hh a (by simp)
    simp only [List.length_cons] at h
    simp only [List.map_cons, compF, h1, h2, h3]
    rw [if_pos (by simp only [decide_eq_true_eq]; omega)]
    rw [comp_map c g l _ (by simp only [List.length_append, List.length_cons, List.length_nil]; omega) fun b hb => hh b (List.mem_cons_of_mem _ hb)]
    simp
/-- a loop by its invariant: I (done) (left) -/
theorem for_inv {α : Type} {tg : D → Sg → Option Sg} {bf : Sg → Option Gst → O} (c : α → D) (I : List α → List α → Sg → Option Gst → Prop)
    (step : ∀ done a left σ x, I done (a :: left) σ x → ∃ σ1, tg (c a) σ = some σ1 ∧ ∃ σ2 x2, bf σ1 x = .nx σ2 x2 ∧ I (done ++ [a]) left σ2 x2) :
    ∀ (left done : List α) (σ : Sg) (x : Option Gst), I done left σ x → ∃ σ' x', forF tg bf (left.map c) σ x = .nx σ' x' ∧ I (done ++ left) [] σ' x'
  | [], done, σ, x, h => ⟨σ, x, rfl, by rw [List.append_nil]; exact h⟩
  | a :: left, done, σ, x, h => by
    obtain ⟨σ1, h1, σ2, x2, h2, h3⟩ := step done a left σ x h
    obtain ⟨σ', x', h4, h5⟩ := for_inv c I step left (done ++ [a]) σ2 x2 h3
    refine ⟨σ', x', ?_, by rw [List.append_assoc] at h5; exact h5⟩
    simp only [List.map_cons, forF, h1, h2, h4]
/-! ### all that single cuts lead to -/
theorem pick_get : ∀ (r : Rw) (p : Nat) (h : p < r.length), pick r p = r[p]
  | a :: r, 0, _ => rfl
  | a :: r, p + 1, h => by simp only [pick, List.getElem_cons_succ]; exact pick_get r p (by simpa using h)
  | [], _, h => by simp at h
theorem ints_map : ∀ r : Rw, intsD (r.map D.int) = some r
  | [] => rfl
  | a :: r => by simp only [List.map_cons, intsD, ints_map r, Option.map_some]
theorem sdic_z {ds : List (List Int × D)} {σ : Sg} : sdic (some (.dic ds) :: σ) 0 = some ds := rfl
theorem sdic_s {s : Option Sl} {σ : Sg} {i : Nat} : sdic (s :: σ) (i + 1) = sdic σ i := rfl
section
variable {K : PySem.W.Frag} {x : Option Gst}
theorem rngD0_map (n : Nat) : rngD 0 n = (List.range n).map fun i => D.int (i : Nat) := by
  unfold rngD
  apply List.map_congr_left
  intro i _
  rw [Int.zero_add]
/-! the whole of it -/
theorem tot_ge : ∀ (us r : Rw) (c : Int), U us → r.length = us.length + 1 → NN r → 0 ≤ c → c ≤ tot c us r ∧ ∀ a ∈ r, a ≤ tot c us r
  | u :: us, a :: r, c, hu, h, hn, hc => by
    have h0 := hn.1
    have m : 1 * (c + a) ≤ u * (c + a) := Int.mul_le_mul_of_nonneg_right hu.1 (by omega)
    obtain ⟨h1, h2⟩ := tot_ge us r (u * (c + a)) hu.2 (by simpa using h) hn.2 (by omega)
    show c ≤ tot (u * (c + a)) us r ∧ ∀ b ∈ a :: r, b ≤ tot (u * (c + a)) us r
    refine ⟨by omega, fun b hb => ?_⟩
    rcases List.mem_cons.mp hb with e | hb
    · subst e; omega
    · exact h2 b hb
  | [], [a], c, _, _, hn, hc => by
    have := hn.1
    exact ⟨show c ≤ c + a by omega, fun b hb => by rw [List.mem_singleton] at hb; subst hb; show b ≤ c + b; omega⟩
  | [], [], _, _, h, _, _ => by simp at h
  | _ :: _, [], _, _, h, _, _ => by simp at h
  | [], _ :: _ :: _, _, _, h, _, _ => by simp at h
theorem NN_mem : ∀ {r : Rw}, NN r ↔ ∀ a ∈ r, 0 ≤ a
  | [] => by simp [NN]
  | a :: r => by simp only [NN, NN_mem (r := r), List.mem_cons, forall_eq_or_imp]
end
end Hx

namespace Hx
open PySem PySem.Spec PyProof.Rows L2 RZ Yx Rm
variable [Tb] [Cb]

/-! ### data that can be shown, told apart -/
structure Rp (k n : Nat) (d : D) : Prop where
  pure : D.pure d = true
  lay : (D.py d).canLay0 = true
  show_ : (D.py d).showable = true
  sh : (D.py d).intsShort 90 = true
  dep : (D.py d).depth ≤ k
  wt : (D.py d).weight ≤ n
structure Rps (k n : Nat) (l : List D) : Prop where
  pure : D.pures l = true
  lay : PyData.canLayAll0 (D.pys l) = true
  show_ : PyData.showableAll (D.pys l) = true
  sh : PyData.intsShortAll 90 (D.pys l) = true
  dep : PyData.depthAll (D.pys l) ≤ k
  wt : PyData.weightAll (D.pys l) ≤ n
theorem Rp.mono {k n k' n' : Nat} {d : D} (h : Rp k n d) (hk : k ≤ k') (hn : n ≤ n') : Rp k' n' d := ⟨h.pure, h.lay, h.show_, h.sh, Nat.le_trans h.dep hk, Nat.le_trans h.wt hn⟩
theorem Rp.non : Rp 0 0 .non := ⟨rfl, rfl, rfl, rfl, Nat.le_refl _, Nat.le_refl _⟩
theorem Rp.bl {b : Bool} : Rp 0 0 (.bl b) := ⟨rfl, rfl, rfl, rfl, Nat.le_refl _, Nat.le_refl _⟩
theorem Rp.str {x : Str} (h : PyData.strOk x = true) : Rp 0 x.cps.size (.str x) := ⟨rfl, h, rfl, rfl, Nat.le_refl _, Nat.le_refl _⟩
theorem Rp.int {i : Int} (h0 : -N8 ≤ i) (h1 : i ≤ N8) : Rp 0 270 (.int i) := by
  have hn : i.natAbs < 10 ^ 81 := by
    have e : (10 : Nat) ^ 81 = 1000000000000000000000000000000000000000000000000000000000000000000000000000000000 := by decide
    unfold N8 at h0 h1
    rw [e]
    omega
  have hb : i.natAbs < 2 ^ 270 := Nat.lt_of_lt_of_le hn (by decide)
  have hl := log_lt hb (by decide)
  refine ⟨rfl, rfl, ?_, ?_, Nat.le_refl _, ?_⟩
  · show decide (i.natAbs.log2 < 1920) = true
    rw [decide_eq_true_eq]; omega
  · show decide (((toString i : String) : Str).length ≤ 90) = true
    rw [decide_eq_true_eq]
    have h := int_text_length_le10 (k := 81) (by decide) hn
    rw [Str.ofString_eq_toList]
    show ((toString i).toList.map Char.toNat).toArray.size ≤ 90
    rw [List.size_toArray, List.length_map]
    have : (toString i).toList.length = (toString i).length := by rw [String.length_toList]
    omega
  · show (if i == 0 then 0 else i.natAbs.log2 + 1) ≤ 270
    split <;> omega
theorem Rps.nil : Rps 0 0 [] := ⟨rfl, rfl, rfl, rfl, Nat.le_refl _, Nat.le_refl _⟩
theorem Rps.cons {k n m : Nat} {d : D} {l : List D} (h : Rp k n d) (t : Rps k m l) : Rps k (n + 1 + m) (d :: l) where
  pure := by simp only [D.pures, h.pure, t.pure, Bool.and_self]
  lay := by simp only [D.pys, PyData.canLayAll0, h.lay, t.lay, Bool.and_self]
  show_ := by simp only [D.pys, PyData.showableAll, h.show_, t.show_, Bool.and_self]
  sh := by simp only [D.pys, PyData.intsShortAll, h.sh, t.sh, Bool.and_self]
  dep := by
    have h1 := h.dep
    have h2 := t.dep
    simp only [D.pys, PyData.depthAll]
    omega
  wt := by
    have h1 := h.wt
    have h2 := t.wt
    simp only [D.pys, PyData.weightAll]
    omega
theorem Rps.mono {k n k' n' : Nat} {d : List D} (h : Rps k n d) (hk : k ≤ k') (hn : n ≤ n') : Rps k' n' d := ⟨h.pure, h.lay, h.show_, h.sh, Nat.le_trans h.dep hk, Nat.le_trans h.wt hn⟩
theorem Rp.tup {k n : Nat} {l : List D} (t : Rps k n l) : Rp (k + 1) n (.tup l) where
  pure := by simp only [D.pure, t.pure]
  lay := by simp only [D.py, PyData.canLay0, t.lay]
  show_ := by simp only [D.py, PyData.showable, t.show_]
  sh := by simp only [D.py, PyData.intsShort, t.sh]
  dep := by have := t.dep; simp only [D.py, PyData.depth]; omega
  wt := by have := t.wt; simp only [D.py, PyData.weight]; omega
theorem Rp.lst {k n : Nat} {l : List D} (t : Rps k n l) : Rp (k + 1) n (.lst l) where
  pure := by simp only [D.pure, t.pure]
  lay := by simp only [D.py, PyData.canLay0, t.lay]
  show_ := by simp only [D.py, PyData.showable, t.show_]
  sh := by simp only [D.py, PyData.intsShort, t.sh]
  dep := by have := t.dep; simp only [D.py, PyData.depth]; omega
  wt := by have := t.wt; simp only [D.py, PyData.weight]; omega
theorem Rps.ints : ∀ {r : Rw}, Big N8 r → Rps 0 (271 * r.length) (r.map D.int)
  | [], _ => Rps.nil
  | a :: r, h => by
    have h1 := h a (by simp)
    exact (Rps.cons (Rp.int h1.1 h1.2) (Rps.ints fun b hb => h b (List.mem_cons_of_mem _ hb))).mono (Nat.le_refl _) (by simp only [List.length_cons, Nat.mul_add]; omega)
theorem Rp.row {r : Rw} (h : Big N8 r) (hl : r.length ≤ 4) : Rp 1 1084 (dR r) := (Rp.tup (Rps.ints h)).mono (by omega) (by omega)
theorem Rps.rows : ∀ {L : List Rw}, (∀ r ∈ L, Big N8 r ∧ r.length ≤ 4) → Rps 1 (1085 * L.length) (L.map dR)
  | [], _ => Rps.nil.mono (by omega) (by omega)
  | a :: L, h => by
    have h1 := h a (by simp)
    exact (Rps.cons (Rp.row h1.1 h1.2) (Rps.rows fun b hb => h b (List.mem_cons_of_mem _ hb))).mono (Nat.le_refl _) (by simp only [List.length_cons, Nat.mul_add]; omega)
theorem Rp.shD {k n : Nat} {d : D} (h : Rp k n d) (hk : k ≤ 64) : Yx.shD d = true := by
  have h1 := h.dep
  unfold Yx.shD SeqAt.shaped
  simp only [h.pure, h.lay, Bool.true_and, decide_eq_true_eq]
  omega
theorem Rp.shown {k n : Nat} {d : D} (h : Rp k n d) (hk : k ≤ 64) (hn : n ≤ 180000) : shownOk d = true := by
  have h1 := h.dep
  have h2 := h.wt
  have h3 := PyData.hasDict_of_canLay _ h.lay
  have h4 := PyData.shown_le 90 (by decide) (D.py d) (PyData.leavesShort_of_canLay0 90 _ h.lay h.sh)
  unfold shownOk
  simp only [h.pure, h.show_, h3, Bool.true_and, Bool.not_false, decide_eq_true_eq, Bool.and_eq_true]
  exact ⟨by omega, by omega⟩
/-! equality -/
structure Flat (l : List D) (k : Nat) : Prop where
  pure : D.pures l = true
  lay : PyData.canLayAll0 (D.pys l) = true
  dep : PyData.depthAll (D.pys l) ≤ k
section
variable {K : PySem.W.Frag} {x : Option Gst}
theorem eqS {a b : Str} : (opEq K).f (.str a) (.str b) = some (.bl (decide (a = b))) := rfl
theorem v_like {k n : Nat} {d : D} (h : Rp k n d) (hk : k ≤ 64) (hn : n ≤ 180000) : m_law_like K [d, d] x = .ok (.bl true) x := by
  have e : (opRepr K).f [d] = some (.str (D.py d).shown) := by
    show (if shownOk d = true then some (D.str (D.py d).shown) else none) = _
    rw [if_pos (h.shown hk hn)]
  unfold m_law_like mOf
  simp_all_arith! [S_law_like]
  simp_all_arith [e, eqS, decide_true]
/-! ### rows taken away, least numbers -/
end
end Hx

namespace Hx
open PySem PySem.Spec PyProof.Rows L2 RZ Yx Rm
variable [Tb] [Cb]
section
variable {K : PySem.W.Frag} {x : Option Gst}
end
section
variable {K : PySem.W.Frag} {x : Option Gst}
end
end Hx

namespace Hx
open PySem PySem.Spec PyProof.Rows L2 RZ Yx Rm
variable [Tb] [Cb]
theorem _root_.Rm.Le.pick : ∀ {x y : Rw} (n : Nat), Le x y → pick x n ≤ pick y n
  | [], [], n, _ => by cases n <;> exact Int.le_refl 0
  | a :: x, b :: y, 0, h => h.1
  | a :: x, b :: y, n + 1, h => Rm.Le.pick n h.2
  | [], _ :: _, _, h => h.elim
  | _ :: _, [], _, h => h.elim
section
variable {K : PySem.W.Frag} {x : Option Gst}
end
end Hx

namespace Hx
open PySem PySem.Spec PyProof.Rows L2 RZ Yx Rm
variable [Tb] [Cb]
section
variable {K : PySem.W.Frag} {x : Option Gst}
theorem v_mixed (c k : Int) (h0 : 0 ≤ k) (h1 : k ≤ 1000000) : ∃ r : Int, m_law_mixed K [.int c, .int k] x = .ok (.int r) x ∧ 0 ≤ r ∧ r < 2147483629 := by
  have kk : k * k ≤ 1000000000000 := Int.le_trans (Int.mul_le_mul h1 h1 h0 (by decide)) (by decide)
  have k0 : 0 ≤ k * k := Int.mul_nonneg h0 h0
  have e2 : 2 * k * k = 2 * (k * k) := Int.mul_assoc ..
  have a1 : Sm 2 := .of (by decide) (by decide)
  have a2 : Sm k := .of (by omega) (by omega)
  have a3 : Sm (2 * k) := .of (by omega) (by omega)
  have a4 : Sm (c % 2147483647) := .of (by omega) (by omega)
  have a5 : Sm (48271 + 2 * k * k) := .of (by rw [e2]; omega) (by rw [e2]; omega)
  have a6 : Sm 69621 := .of (by decide) (by decide)
  unfold m_law_mixed mOf
  simp_all_arith! [S_law_mixed]
  simp_all_arith [mulF_int a1 a2, mulF_int a3 a2, mulF_int a4 a5, mulF_int a6 a2]
  rw [mulF_int (.of (by omega) (by omega)) a6]
  simp_all_arith [Yx.startS]
  refine ⟨_, rfl, by omega, by omega⟩
/-- the drawing state, after at most n draws -/
structure GOk (n : Nat) (s : Gst) : Prop where
  len : s.lefts.length = s.cells.length
  pos : 0 < s.cells.length
  left : ∀ l ∈ s.lefts, (0 : Int) ≤ l
  at0 : 0 ≤ s.at_
  at1 : s.at_ ≤ n
theorem GOk.mono {n m : Nat} {s : Gst} (h : GOk n s) (e : n ≤ m) : GOk m s := ⟨h.len, h.pos, h.left, h.at0, by have := h.at1; omega⟩
theorem v_draw {m : Nat} {s : Gst} {n : Int} (g : GOk m s) (h : m ≤ 900000) (n0 : 0 < n) (n1 : n ≤ 10 ^ 100) :
    ∃ (r : Int) (s' : Gst), m_law_draw K [.st, .int n] (some s) = .ok (.int r) (some s') ∧ 0 ≤ r ∧ r < n ∧ GOk (m + 1) s' := by
  obtain ⟨g1, g2, g3, g4, g5⟩ := g
  have hl : (s.cells.map D.int).length = s.cells.length := List.length_map ..
  have hc : (0 : Int) < (s.cells.map D.int).length := by rw [hl]; omega
  have k0 : 0 ≤ s.at_ % (s.cells.map D.int).length := Int.emod_nonneg _ (by omega)
  have k1 : s.at_ % (s.cells.map D.int).length < (s.cells.map D.int).length := Int.emod_lt_of_pos _ hc
  have k2 : s.at_ % (s.cells.map D.int).length < s.lefts.length := by rw [g1]; rw [hl] at k1 ⊢; exact k1
  unfold m_law_draw mOf
  simp_all_arith! [S_law_draw]
  simp_all_arith [modI hc, atI_of k0 k2, Option.map_some]
  generalize s.at_ % (s.cells.map D.int).length = k at *
  have lm : s.lefts[k.toNat]'(by omega) ∈ s.lefts := List.getElem_mem _
  generalize e1 : s.lefts[k.toNat]'(by omega) = left at *
  have l0 := g3 _ lm
  by_cases c : 0 < left
  · simp_all_arith [c, divI n0 n1, modI n0, ixN_of k0 k2]
    refine ⟨_, _, rfl, Int.emod_nonneg _ (by omega), Int.emod_lt_of_pos _ n0, ⟨?_, g2, ?_, ?_, ?_⟩⟩
    · simpa using g1
    · intro l hl
      rcases List.mem_or_eq_of_mem_set hl with z | z
      · exact g3 l z
      · subst z; exact Int.ediv_nonneg l0 (by omega)
    · show 0 ≤ s.at_ + 1
      omega
    · show s.at_ + 1 ≤ ((m + 1 : Nat) : Int)
      omega
  · obtain ⟨r1, e1, p1, q1⟩ := v_mixed (K := K) (x := some { s with at_ := s.at_ + 1 }) (s.cells[k.toNat]'(by omega)) s.at_ g4 (by omega)
    obtain ⟨r2, e2, p2, q2⟩ := v_mixed (K := K) (x := some { s with at_ := s.at_ + 1 }) r1 (40 + s.at_) (by omega) (by omega)
    obtain ⟨r3, e3, p3, q3⟩ := v_mixed (K := K) (x := some { s with at_ := s.at_ + 1 }) r2 (7 + s.at_) (by omega) (by omega)
    simp_all_arith [c, atI_of k0 k1, List.getElem_map, e1, e2, e3, mulF_int (.of (by omega) (by omega) : Sm r2) (.of (by decide) (by decide) : Sm 2147483647), divI (show (0 : Int) < 64 by decide) (by decide), modI n0, if_false, Bool.false_eq_true]
    refine ⟨_, _, rfl, Int.emod_nonneg _ (by omega), Int.emod_lt_of_pos _ n0, ⟨g1, g2, g3, ?_, ?_⟩⟩
    · show 0 ≤ s.at_ + 1
      omega
    · show s.at_ + 1 ≤ ((m + 1 : Nat) : Int)
      omega
/-- units as they are drawn: at most two ratios of 2 to 4 -/
structure UD (us : Rw) : Prop where
  len : us.length ≤ 2
  two : ∀ u ∈ us, 2 ≤ u ∧ u ≤ 4
theorem UD.uo {us : Rw} (h : UD us) : UO us := ⟨by have := h.len; omega, fun u hu => by have := h.two u hu; omega⟩
theorem v_units {m : Nat} {s : Gst} (g : GOk m s) (h : m ≤ 800000) : ∃ (us : Rw) (s' : Gst), m_law_units K [.st] (some s) = .ok (dR us) (some s') ∧ UD us ∧ GOk (m + 3) s' := by
  obtain ⟨r, s1, e1, p1, q1, g1⟩ := v_draw (K := K) (n := 3) g (by omega) (by decide) (by decide)
  obtain ⟨r2, s2, e2, p2, q2, g2⟩ := v_draw (K := K) (n := 3) g1 (by omega) (by decide) (by decide)
  obtain ⟨r3, s3, e3, p3, q3, g3⟩ := v_draw (K := K) (n := 3) g2 (by omega) (by decide) (by decide)
  unfold m_law_units mOf
  simp_all_arith! [S_law_units]
  have hr : r = 0 ∨ r = 1 ∨ r = 2 := by omega
  rcases hr with rfl | rfl | rfl
  · simp_all_arith [e1, i62_of]
    exact ⟨[], s1, rfl, ⟨by decide, nofun⟩, g1.mono (by omega)⟩
  · simp_all_arith [e1, e2, i62_of]
    exact ⟨[2 + r2], s2, rfl, ⟨by simp, fun u hu => by rw [List.mem_singleton] at hu; omega⟩, g2.mono (by omega)⟩
  · simp_all_arith [e1, e2, e3, i62_of]
    exact ⟨[2 + r2, 2 + r3], s3, rfl, ⟨by simp, fun u hu => by simp only [List.mem_cons, List.not_mem_nil, or_false] at hu; omega⟩, g3.mono (by omega)⟩
/-- sizes of the units -/
def szs : Rw → Rw
  | [] => [1]
  | u :: us => (hd (szs us) * u) :: szs us
theorem sm1 : Sm 1 := .of (by decide) (by decide)
theorem v_sizes {us : Rw} (hu : UO us) : m_law_sizes K [dR us] x = .ok (dR (szs us)) x := by
  obtain ⟨h3, h2⟩ := hu
  unfold m_law_sizes mOf
  simp_all_arith! [S_law_sizes]
  match us, h3, h2 with
  | [], _, _ => simp_arith! [szs]
  | [a], _, h2 =>
    have ha := h2 a (by simp)
    simp_arith! [szs, hd, mulF_int sm1 (smu ha)]
  | [a, b], _, h2 =>
    have ha := h2 a (by simp)
    have hb := h2 b (by simp)
    have k1 : Sm (1 * b) := by rw [Int.one_mul]; exact smu hb
    simp_arith! [szs, hd, mulF_int sm1 (smu hb), mulF_int k1 (smu ha)]
  | [a, b, c], _, h2 =>
    have ha := h2 a (by simp)
    have hb := h2 b (by simp)
    have hc := h2 c (by simp)
    have k1 : Sm (1 * c) := by rw [Int.one_mul]; exact smu hc
    have k2 : Sm (1 * c * b) := by
      have := mul_bd (u := c) (a := b) (m := 10) hc (by omega) (by omega)
      rw [Int.one_mul]; exact .of (by omega) (by omega)
    simp_arith! [szs, hd, mulF_int sm1 (smu hc), mulF_int k1 (smu hb), mulF_int k2 (smu ha)]
  | _ :: _ :: _ :: _ :: _, h3, _ => simp only [List.length_cons] at h3; omega
theorem ediv_ok {l z n : Int} (hz : 0 < z) (h : n < l / z + 1) : n * z ≤ l := by
  have : n ≤ l / z := by omega
  exact (Int.le_ediv_iff_mul_le hz).1 this
theorem ediv_le {l z : Int} (hz : 0 < z) (h0 : 0 ≤ l) : 0 ≤ l / z ∧ l / z ≤ l := ⟨Int.ediv_nonneg h0 (by omega), Int.ediv_le_self _ h0⟩
end
end Hx

namespace Hx
open PySem PySem.Spec PyProof.Rows L2 RZ Yx Rm
variable [Tb] [Cb]
section
variable {K : PySem.W.Frag} {x : Option Gst}
end
end Hx

namespace Hx
open PySem PySem.Spec PyProof.Rows L2 RZ Yx Rm
variable [Tb] [Cb]
/-- a row as callers may pass it -/
structure RO (us r : Rw) : Prop where
  len : r.length = us.length + 1
  nn : NN r
  top : ∀ a ∈ r, a ≤ 10 ^ 60
theorem N8_eq : N8 = 10 ^ 80 := by unfold N8; decide
theorem t60_le : (10 : Int) ^ 60 ≤ N8 := by rw [N8_eq]; decide
theorem RO.big {us r : Rw} (h : RO us r) : Big N8 r := fun a ha => by
  have h1 := NN_mem.1 h.nn a ha
  have h2 := h.top a ha
  have h3 := t60_le
  exact ⟨by unfold N8 at *; omega, by omega⟩
/-- items of a stair are at most so great -/
theorem S_top : ∀ (us r : Rw) (c m : Int), (∀ u ∈ us, 2 ≤ u ∧ u ≤ 10) → r.length = us.length + 1 → (∀ a ∈ r, 0 ≤ a ∧ a ≤ m) → 0 ≤ c → 0 ≤ m →
    ∀ a ∈ S c us r, 0 ≤ a ∧ a ≤ 10 ^ us.length * (c + (us.length + 1) * m)
  | u :: us, b :: r, c, m, hu, hr, hm, hc, h0 => by
    have hb := hm b (by simp)
    have h1 := hu u (by simp)
    have e0 : 0 ≤ u * (c + b) := Int.mul_nonneg (by omega) (by omega)
    have e1 : u * (c + b) ≤ 10 * (c + m) := Int.mul_le_mul h1.2 (by omega) (by omega) (by omega)
    have ih := S_top us r (u * (c + b)) m (fun v hv => hu v (List.mem_cons_of_mem _ hv)) (by simpa using hr) (fun a ha => hm a (List.mem_cons_of_mem _ ha)) e0 h0
    have p0 : (0 : Int) < 10 ^ us.length := Int.pow_pos (by decide)
    have lm : 0 ≤ (us.length : Int) * m := Int.mul_nonneg (by omega) h0
    have l2 : ((us.length : Int) + 1) * m = (us.length : Int) * m + m := by rw [Int.add_mul, Int.one_mul]
    have l3 : (((us.length + 1 : Nat) : Int) + 1) * m = (us.length : Int) * m + m + m := by
      rw [Int.natCast_add, Int.add_mul, Int.add_mul, Int.one_mul]
      show (us.length : Int) * m + 1 * m + m = _
      rw [Int.one_mul]
    have top : 10 ^ us.length * (u * (c + b) + ((us.length : Int) + 1) * m) ≤ 10 ^ (us.length + 1) * (c + (((us.length + 1 : Nat) : Int) + 1) * m) := by
      rw [Int.pow_succ, Int.mul_assoc]
      refine Int.mul_le_mul_of_nonneg_left ?_ (by omega)
      rw [l2, l3]
      omega
    intro a ha
    simp only [S, List.mem_cons] at ha
    rcases ha with rfl | ha
    · refine ⟨by omega, ?_⟩
      have k1 : (1 : Int) ≤ 10 ^ (us.length + 1) := Int.pow_pos (by decide)
      have k2 : 1 * (c + (((us.length + 1 : Nat) : Int) + 1) * m) ≤ 10 ^ (us.length + 1) * (c + (((us.length + 1 : Nat) : Int) + 1) * m) := Int.mul_le_mul_of_nonneg_right k1 (by rw [l3]; omega)
      have k3 : (u :: us).length = us.length + 1 := rfl
      rw [k3]
      rw [l3] at k2 ⊢
      omega
    · have := ih a ha
      exact ⟨this.1, Int.le_trans this.2 top⟩
  | [], [b], c, m, _, _, hm, hc, h0 => by
    have hb := hm b (by simp)
    intro a ha
    simp only [S, List.mem_singleton] at ha
    subst ha
    refine ⟨by omega, ?_⟩
    show c + b ≤ 10 ^ 0 * (c + (((0 : Nat) : Int) + 1) * m)
    simp
    omega
  | [], [], _, _, _, h, _, _, _ => by simp at h
  | _ :: _, [], _, _, _, h, _, _, _ => by simp at h
  | [], _ :: _ :: _, _, _, _, h, _, _, _ => by simp at h
theorem RO.stair {us r : Rw} (hu : UO us) (h : RO us r) : ∀ a ∈ S 0 us r, 0 ≤ a ∧ a ≤ 4000 * 10 ^ 60 := by
  intro a ha
  have := S_top us r 0 (10 ^ 60) hu.two h.len (fun b hb => ⟨NN_mem.1 h.nn b hb, h.top b hb⟩) (Int.le_refl 0) (by decide) a ha
  refine ⟨this.1, Int.le_trans this.2 ?_⟩
  have h3 := hu.len
  generalize us.length = n at h3
  match n, h3 with
  | 0, _ => decide
  | 1, _ => decide
  | 2, _ => decide
  | 3, _ => decide
section
variable {K : PySem.W.Frag} {x : Option Gst} {aBadUnits aBadRow aNoRow aUnlike aBadRows : Addr}
theorem v_need_units {us : Rw} (hu : UO us) : m_need_units K aBadUnits [dR us] x = .ok (dR us) x := by
  have w := fun v => v_is_whole (K := K) (x := x) (v := v) (lo := 2) (hi := 10)
  obtain ⟨h3, h2⟩ := hu
  unfold m_need_units mOf
  simp_all_arith! [S_need_units]
  match us, h3, h2 with
  | [], _, _ => simp_arith! [Yx.startS]
  | [a], _, h2 =>
    have ha := h2 a (by simp)
    simp_arith! [w, ha.1, ha.2]
  | [a, b], _, h2 =>
    have ha := h2 a (by simp)
    have hb := h2 b (by simp)
    simp_arith! [w, ha.1, ha.2, hb.1, hb.2]
  | [a, b, c], _, h2 =>
    have ha := h2 a (by simp)
    have hb := h2 b (by simp)
    have hc := h2 c (by simp)
    simp_arith! [w, ha.1, ha.2, hb.1, hb.2, hc.1, hc.2]
  | _ :: _ :: _ :: _ :: _, h3, _ => simp only [List.length_cons] at h3; omega
theorem v_need_row {us r : Rw} (hu : UO us) (h : RO us r) : m_need_row K aBadRow aBadUnits [dR us, dR r] x = .ok (dR r) x := by
  have e1 := v_need_units (K := K) (x := x) (aBadUnits := aBadUnits) hu
  have e2 := v_is_row (K := K) (x := x) h.len hu.len
  have e3 : decide (∀ a ∈ r, 0 ≤ a ∧ a ≤ 10 ^ 60) = true := decide_eq_true fun a ha => ⟨NN_mem.1 h.nn a ha, h.top a ha⟩
  rw [e3] at e2
  unfold m_need_row mOf
  simp_all_arith! [S_need_row]
  simp only [dR_eq] at e1 e2
  simp_arith! [e1, e2]
end
end Hx

namespace Hx
open PySem PySem.Spec PyProof.Rows L2 RZ Yx Rm
variable [Tb] [Cb]
/-! ### one unit alone, great pieces more -/
theorem NN_rep : ∀ k : Nat, NN (List.replicate k 0)
  | 0 => trivial
  | k + 1 => ⟨Int.le_refl 0, NN_rep k⟩
end Hx

namespace Hx
open PySem PySem.Spec PyProof.Rows L2 RZ Yx Rm
variable [Tb] [Cb]
section
variable {K : PySem.W.Frag} {x : Option Gst}
end
end Hx

namespace Hx
open PySem PySem.Spec PyProof.Rows L2 RZ Yx Rm
variable [Tb] [Cb]
/-! ### the rest -/
section
variable {K : PySem.W.Frag} {x : Option Gst} {aBadUnits aBadRow aNoRow aUnlike aBadRows : Addr}
/-! ### the greatest of some rows -/
end
end Hx

namespace Hx
open PySem PySem.Spec PyProof.Rows L2 RZ Yx Rm
variable [Tb] [Cb]
/-! ### the law's own ends, written data -/
theorem noSts_ints : ∀ ns : List Int, D.noSts (iD ns) = true
  | [] => rfl
  | n :: ns => by
    show (D.noSt (.int n) && D.noSts (iD ns)) = true
    rw [noSts_ints ns]; rfl
theorem start_ok (N : Nat) (ns : List Int) : (startS N [.lst (iD ns)]).all slotOk = true := by
  unfold startS
  rw [List.all_append, Bool.and_eq_true]
  refine ⟨?_, ?_⟩
  · show (D.noSt (.lst (iD ns)) && true) = true
    rw [Bool.and_true, D.noSt]; exact noSts_ints ns
  · rw [List.all_eq_true]
    intro y hy
    rw [List.eq_of_mem_replicate hy]
    rfl
theorem begG_ok (ns : List Int) : GOk 0 (begG ns) := by
  refine ⟨by simp [begG], ?_, ?_, Int.le_refl 0, Int.le_refl 0⟩
  · show 0 < (cellsF ns).length
    unfold cellsF
    split
    · decide
    · exact List.length_pos_iff.2 ‹_›
  · intro l hl
    obtain ⟨c, _, rfl⟩ := List.mem_map.1 (show l ∈ (cellsF ns).map leftF from hl)
    unfold leftF
    split
    · rename_i h
      have : (0 : Int) ≤ 10 ^ 18 := by decide
      first | omega | (simp at h; omega)
    · exact Int.le_refl 0
def chk (d : D) : Bool := D.pure d && (D.py d).canLay0 && (D.py d).showable && (D.py d).intsShort 90 && decide ((D.py d).depth ≤ 64) && decide ((D.py d).weight ≤ 180000)
theorem rp_chk {d : D} (h : chk d = true) : Rp 64 180000 d := by
  unfold chk at h
  simp only [Bool.and_eq_true, decide_eq_true_eq] at h
  obtain ⟨⟨⟨⟨⟨a, b⟩, c⟩, d⟩, e⟩, f⟩ := h
  exact ⟨a, b, c, d, e, f⟩
section
variable {K : PySem.W.Frag} {x : Option Gst}
end
end Hx

namespace Hx
open PySem PySem.Spec PyProof.Rows L2 RZ Yx Rm
variable [Tb] [Cb]
/-! ### sums of rows, rests behind several orders -/
def zr (us : Rw) : Rw := List.replicate (us.length + 1) 0
theorem zr_length (us : Rw) : (zr us).length = us.length + 1 := by simp [zr]
theorem zr_NN (us : Rw) : NN (zr us) := NN_rep _
theorem Sz : ∀ (us : Rw) (c : Int), c = 0 → S c us (List.replicate (us.length + 1) 0) = List.replicate (us.length + 1) 0
  | [], c, h => by subst h; rfl
  | u :: us, c, h => by
    subst h
    rw [List.length_cons, List.replicate_succ]
    show (0 + 0) :: S (u * (0 + 0)) us (List.replicate (us.length + 1) 0) = _
    rw [Sz us _ (by simp)]
    rfl
theorem S_zr (us : Rw) : S 0 us (zr us) = zr us := Sz us 0 rfl
end Hx
namespace Hx
open PySem PySem.Spec PyProof.Rows L2 RZ Yx Rm
variable [Tb] [Cb]
/-! ### great pieces more -/
end Hx

namespace Hx
open PySem PySem.Spec PyProof.Rows L2 RZ Yx Rm
variable [Tb] [Cb]
section
variable {K : PySem.W.Frag} {x : Option Gst} {aBadUnits aBadRow aNoRow aUnlike aBadRows : Addr}
theorem mulT {xs : List D} {k : Int} (h : xs ≠ []) (k1 : 1 ≤ k) (k2 : k ≤ 1000) (hl : xs.length ≤ 1000) : (opMul K).f (.tup xs) (.int k) = some (.tup (List.replicate k.toNat xs).flatten) := by
  show Yx.mulF (.tup xs) (.int k) = _
  unfold Yx.mulF
  simp only
  by_cases c : k = 1
  · subst c
    rw [if_pos rfl]
    simp
  · rw [if_neg c]
    have e : xs.isEmpty = false := by
      cases xs with
      | nil => exact absurd rfl h
      | cons a l => rfl
    rw [if_neg (by rw [e]; simp only [Bool.not_false, Bool.true_and, Bool.and_eq_true, decide_eq_true_eq]; omega), if_pos (by rw [e]; simp only [Bool.not_false, Bool.true_and, Bool.and_eq_true, decide_eq_true_eq]; omega)]
end
end Hx

namespace Hx
open PySem PySem.Spec PyProof.Rows L2 RZ Yx Rm
variable [Tb] [Cb]
/-! ### pieces of one unit cut wholly into pieces of another -/
/-- how many pieces one piece makes -/
def pq : Rw → Nat → Nat → Int
  | u :: us, 0, g + 1 => u * pq us 0 g
  | _ :: us, n + 1, g + 1 => pq us n g
  | _, _, _ => 1
/-- sizes, as the program makes them -/
def zs : Rw → Rw
  | [] => [1]
  | u :: us => (u * hd (zs us)) :: zs us
theorem zs_length : ∀ us : Rw, (zs us).length = us.length + 1
  | [] => rfl
  | u :: us => by simp [zs, zs_length us]
theorem zs_pos : ∀ us : Rw, U us → ∀ n, n ≤ us.length → 1 ≤ pick (zs us) n
  | [], _, 0, _ => by decide
  | u :: us, hu, 0, _ => by
    have h1 := hu.1
    have ih := zs_pos us hu.2 0 (Nat.zero_le _)
    have e : pick (zs us) 0 = hd (zs us) := by cases us <;> rfl
    rw [e] at ih
    have : 1 * 1 ≤ u * hd (zs us) := Int.mul_le_mul h1 ih (by decide) (by omega)
    show 1 ≤ u * hd (zs us)
    omega
  | u :: us, hu, n + 1, h => zs_pos us hu.2 n (by simpa using h)
  | [], _, n + 1, h => by simp at h
theorem zs_pq : ∀ (us : Rw) (n g : Nat), n ≤ g → g ≤ us.length → pick (zs us) n = pq us n g * pick (zs us) g
  | u :: us, 0, g + 1, _, h => by
    have ih := zs_pq us 0 g (Nat.zero_le _) (by simpa using h)
    have e : pick (zs us) 0 = hd (zs us) := by cases us <;> rfl
    show u * hd (zs us) = u * pq us 0 g * pick (zs us) g
    rw [Int.mul_assoc, ← ih, e]
  | u :: us, n + 1, g + 1, h1, h => zs_pq us n g (by omega) (by simpa using h)
  | us, 0, 0, _, _ => by
    have : pq us 0 0 = 1 := by cases us <;> rfl
    rw [this, Int.one_mul]
  | [], n, g + 1, _, h => by simp at h
  | us, n + 1, 0, h1, _ => by omega
section
variable {K : PySem.W.Frag} {x : Option Gst} {aBadUnits aBadRow aNoRow aBadUnit aBadParameter : Addr}
theorem v_zs {us : Rw} (hu : UO us) : m_sizes K aBadUnits [dR us] x = .ok (dR (zs us)) x := by
  have e0 := v_need_units (K := K) (x := x) (aBadUnits := aBadUnits) hu
  obtain ⟨h3, h2⟩ := hu
  unfold m_sizes mOf
  simp_all_arith! [S_sizes]
  match us, h3, h2 with
  | [], _, _ =>
    simp only [dR_eq, List.map_cons, List.map_nil] at e0
    simp_arith! [e0, zs]
  | [a], _, h2 =>
    have ha := h2 a (by simp)
    simp only [dR_eq, List.map_cons, List.map_nil] at e0
    simp_arith! [e0, zs, hd, mulF_int (smu ha) sm1]
  | [a, b], _, h2 =>
    have ha := h2 a (by simp)
    have hb := h2 b (by simp)
    have k1 : Sm (b * 1) := by rw [Int.mul_one]; exact smu hb
    simp only [dR_eq, List.map_cons, List.map_nil] at e0
    simp_arith! [e0, zs, hd, mulF_int (smu hb) sm1, mulF_int (smu ha) k1]
  | [a, b, c], _, h2 =>
    have ha := h2 a (by simp)
    have hb := h2 b (by simp)
    have hc := h2 c (by simp)
    have k1 : Sm (c * 1) := by rw [Int.mul_one]; exact smu hc
    have k2 : Sm (b * (c * 1)) := by
      have := mul_bd (u := b) (a := c) (m := 10) hb (by omega) (by omega)
      rw [Int.mul_one]; exact .of (by omega) (by omega)
    simp only [dR_eq, List.map_cons, List.map_nil] at e0
    simp_arith! [e0, zs, hd, mulF_int (smu hc) sm1, mulF_int (smu hb) k1, mulF_int (smu ha) k2]
  | _ :: _ :: _ :: _ :: _, h3, _ => simp only [List.length_cons] at h3; omega
end
end Hx

namespace Hx
open PySem PySem.Spec PyProof.Rows L2 RZ Yx Rm
variable [Tb] [Cb]
section
variable {K : PySem.W.Frag} {x : Option Gst} {aBadUnits aBadRow aNoRow aBadUnit aBadParameter : Addr}
end
end Hx

namespace Rm
/-! # the greater and the lesser of two rows of numbers -/
def mx : Rw → Rw → Rw
  | a :: x, b :: y => max a b :: mx x y
  | _, _ => []
def mn : Rw → Rw → Rw
  | a :: x, b :: y => min a b :: mn x y
  | _, _ => []
theorem mul_max {u a b : Int} (h : 0 ≤ u) : u * max a b = max (u * a) (u * b) := by
  rcases Int.le_total a b with c | c
  · rw [Int.max_eq_right c, Int.max_eq_right (Int.mul_le_mul_of_nonneg_left c h)]
  · rw [Int.max_eq_left c, Int.max_eq_left (Int.mul_le_mul_of_nonneg_left c h)]
theorem mul_min {u a b : Int} (h : 0 ≤ u) : u * min a b = min (u * a) (u * b) := by
  rcases Int.le_total a b with c | c
  · rw [Int.min_eq_left c, Int.min_eq_left (Int.mul_le_mul_of_nonneg_left c h)]
  · rw [Int.min_eq_right c, Int.min_eq_right (Int.mul_le_mul_of_nonneg_left c h)]
theorem Stair.mx : ∀ {us x y : Rw} {c d : Int}, U us → Stair c us x → Stair d us y → Stair (max c d) us (mx x y)
  | u :: us, a :: x, b :: y, c, d, hu, h1, h2 => by
    refine ⟨by have := h1.1; have := h2.1; show max c d ≤ max a b; omega, ?_⟩
    rw [mul_max (by have := hu.1; omega)]
    exact Stair.mx hu.2 h1.2 h2.2
  | [], [a], [b], c, d, _, h1, h2 => by
    have h1 : c ≤ a := h1
    have h2 : d ≤ b := h2
    show max c d ≤ max a b
    omega
  | [], [], _, _, _, _, h1, _ => h1.elim
  | [], _ :: _ :: _, _, _, _, _, h1, _ => h1.elim
  | [], [_], [], _, _, _, _, h2 => h2.elim
  | [], [_], _ :: _ :: _, _, _, _, _, h2 => h2.elim
  | _ :: _, [], _, _, _, _, h1, _ => h1.elim
  | _ :: _, _ :: _, [], _, _, _, _, h2 => h2.elim
theorem Stair.mn : ∀ {us x y : Rw} {c d : Int}, U us → Stair c us x → Stair d us y → Stair (min c d) us (mn x y)
  | u :: us, a :: x, b :: y, c, d, hu, h1, h2 => by
    refine ⟨by have := h1.1; have := h2.1; show min c d ≤ min a b; omega, ?_⟩
    rw [mul_min (by have := hu.1; omega)]
    exact Stair.mn hu.2 h1.2 h2.2
  | [], [a], [b], c, d, _, h1, h2 => by
    have h1 : c ≤ a := h1
    have h2 : d ≤ b := h2
    show min c d ≤ min a b
    omega
  | [], [], _, _, _, _, h1, _ => h1.elim
  | [], _ :: _ :: _, _, _, _, _, h1, _ => h1.elim
  | [], [_], [], _, _, _, _, h2 => h2.elim
  | [], [_], _ :: _ :: _, _, _, _, _, h2 => h2.elim
  | _ :: _, [], _, _, _, _, h1, _ => h1.elim
  | _ :: _, _ :: _, [], _, _, _, _, h2 => h2.elim
section
variable {us a b c : Rw}
theorem mx_mem {m : Int} : ∀ {x y : Rw}, (∀ a ∈ x, a ≤ m) → (∀ a ∈ y, a ≤ m) → ∀ a ∈ mx x y, a ≤ m
  | [], _, _, _, a, h => by cases ‹Rw› <;> cases h
  | _ :: _, [], _, _, a, h => by cases h
  | p :: x, q :: y, h1, h2, a, h => by
    rcases List.mem_cons.mp h with rfl | h
    · have := h1 p (by simp)
      have := h2 q (by simp)
      omega
    · exact mx_mem (fun z hz => h1 z (by simp [hz])) (fun z hz => h2 z (by simp [hz])) a h
theorem mn_mem {m : Int} : ∀ {x y : Rw}, (∀ a ∈ x, a ≤ m) → (∀ a ∈ y, a ≤ m) → ∀ a ∈ mn x y, a ≤ m
  | [], _, _, _, a, h => by cases ‹Rw› <;> cases h
  | _ :: _, [], _, _, a, h => by cases h
  | p :: x, q :: y, h1, h2, a, h => by
    rcases List.mem_cons.mp h with rfl | h
    · have := h1 p (by simp)
      have := h2 q (by simp)
      omega
    · exact mn_mem (fun z hz => h1 z (by simp [hz])) (fun z hz => h2 z (by simp [hz])) a h
end
end Rm

namespace Hx
open PySem PySem.Spec PyProof.Rows L2 RZ Yx Rm
variable [Tb] [Cb]
section
variable {K : PySem.W.Frag} {x : Option Gst} {aBadUnits aBadRow aNoRow aUnlike aBadRows : Addr}
theorem NN_mx {a b : Rw} : NN a → NN b → NN (mx a b) := by
  intro h1 h2
  rw [NN_mem] at *
  intro z hz
  have key : ∀ {x y : Rw}, (∀ a ∈ x, 0 ≤ a) → ∀ a ∈ mx x y, (0:Int) ≤ a := by
    intro x
    induction x with
    | nil => intro y _ a h; cases y <;> cases h
    | cons p x ih =>
      intro y h a ha
      cases y with
      | nil => cases ha
      | cons q y =>
        rcases List.mem_cons.mp ha with rfl | ha
        · have := h p (by simp); omega
        · exact ih (fun z hz => h z (by simp [hz])) a ha
  exact key h1 z hz
theorem NN_mn {a b : Rw} : NN a → NN b → NN (mn a b) := by
  intro h1 h2
  rw [NN_mem] at *
  intro z hz
  have key : ∀ {x y : Rw}, (∀ a ∈ x, 0 ≤ a) → (∀ a ∈ y, 0 ≤ a) → ∀ a ∈ mn x y, (0:Int) ≤ a := by
    intro x
    induction x with
    | nil => intro y _ _ a h; cases y <;> cases h
    | cons p x ih =>
      intro y h h' a ha
      cases y with
      | nil => cases ha
      | cons q y =>
        rcases List.mem_cons.mp ha with rfl | ha
        · have := h p (by simp); have := h' q (by simp); omega
        · exact ih (fun z hz => h z (by simp [hz])) (fun z hz => h' z (by simp [hz])) a ha
  exact key h1 h2 z hz
theorem big_of {r : Rw} {m : Int} (h0 : NN r) (h : ∀ a ∈ r, a ≤ m) (hm : m ≤ N8) : Big N8 r := fun a ha => by
  have h1 := NN_mem.1 h0 a ha
  have h2 := h a ha
  exact ⟨by unfold N8 at *; omega, by omega⟩
theorem t4k_le : (4000 : Int) * 10 ^ 60 ≤ N8 := by rw [N8_eq]; decide
/-! ### all rows of up to so many least pieces -/
def pl (p : Rw × Int) : D := .tup [dR p.1, .int p.2]
def bx (z : Int) (p : Rw × Int) : List (Rw × Int) := (List.range (p.2 / z + 1).toNat).map fun i : Nat => (p.1 ++ [(i : Int)], p.2 - (i : Int) * z)
theorem catT {K : PySem.W.Frag} {a b : List D} (h : a.length + b.length ≤ 16777216) : (opAdd K).f (.tup a) (.tup b) = some (.tup (a ++ b)) := by
  show Yx.catF (.tup a) (.tup b) = _
  unfold Yx.catF
  simp only
  rw [if_pos (show szOk (a.length + b.length) = true from decide_eq_true h)]
theorem catL {K : PySem.W.Frag} {a b : List D} (h : a.length + b.length ≤ 16777216) : (opAdd K).f (.lst a) (.lst b) = some (.lst (a ++ b)) := by
  show Yx.catF (.lst a) (.lst b) = _
  unfold Yx.catF
  simp only
  rw [if_pos (show szOk (a.length + b.length) = true from decide_eq_true h)]
/-- the sizes ahead, weighed -/
def dot : Rw → Rw → Int
  | a :: x, b :: y => a * b + dot x y
  | _, _ => 0
theorem dot_snoc : ∀ (zs r : Rw) (z a : Int), zs.length = r.length → dot (zs ++ [z]) (r ++ [a]) = dot zs r + z * a
  | [], [], z, a, _ => by simp [dot]
  | p :: zs, q :: r, z, a, h => by
    show p * q + dot (zs ++ [z]) (r ++ [a]) = p * q + dot zs r + z * a
    rw [dot_snoc zs r z a (by simpa using h)]
    omega
/-- a prefix: so many items, none below 0, what is left -/
structure Px (zs : Rw) (most : Int) (p : Rw × Int) : Prop where
  len : p.1.length = zs.length
  nn : NN p.1
  left : 0 ≤ p.2
  sum : dot zs p.1 + p.2 = most
  le : p.2 ≤ most
theorem NN_snoc : ∀ {r : Rw} {a : Int}, NN r → 0 ≤ a → NN (r ++ [a])
  | [], a, _, h => ⟨h, trivial⟩
  | b :: r, a, h, h2 => ⟨h.1, NN_snoc h.2 h2⟩
theorem Px.step {zs : Rw} {most z : Int} {p q : Rw × Int} (h : Px zs most p) (hz : 1 ≤ z) (hq : q ∈ bx z p) : Px (zs ++ [z]) most q := by
  unfold bx at hq
  obtain ⟨i, hi, rfl⟩ := List.mem_map.mp hq
  have hi' : i < (p.2 / z + 1).toNat := List.mem_range.mp hi
  have d := ediv_ok (l := p.2) (z := z) (n := (i : Int)) (by omega) (by have := h.left; have := ediv_le (z := z) (by omega) h.left; omega)
  have h0 : 0 ≤ (i : Int) * z := Int.mul_nonneg (by omega) (by omega)
  have hs := h.sum
  have hl := h.le
  refine ⟨by simp [h.len], NN_snoc h.nn (by omega), by show 0 ≤ p.2 - (i : Int) * z; omega, ?_, by show p.2 - (i : Int) * z ≤ most; omega⟩
  show dot (zs ++ [z]) (p.1 ++ [(i : Int)]) + (p.2 - (i : Int) * z) = most
  rw [dot_snoc _ _ _ _ h.len.symm, Int.mul_comm z]
  omega
/-- a slot without a thing of one's own -/
def Da (s : Option Sl) : Prop := s = none ∨ ∃ d, s = some (.dat d)
theorem Da.none : Da none := .inl rfl
theorem Da.some {d : D} : Da (some (.dat d)) := .inr ⟨d, rfl⟩
theorem tot_dot : ∀ (us r : Rw) (c : Int), r.length = us.length + 1 → tot c us r = c * hd (szs us) + dot (szs us) r
  | [], [a], c, _ => by simp [tot, szs, hd, dot]
  | u :: us, a :: r, c, h => by
    have hr : r.length = us.length + 1 := by simpa using h
    show tot (u * (c + a)) us r = c * (hd (szs us) * u) + (hd (szs us) * u * a + dot (szs us) r)
    rw [tot_dot us r _ hr]
    have : u * (c + a) * hd (szs us) = c * (hd (szs us) * u) + hd (szs us) * u * a := by
      rw [Int.mul_add, Int.add_mul, Int.mul_comm u c, Int.mul_assoc, Int.mul_comm u (hd (szs us)), Int.mul_comm u a, Int.mul_assoc, Int.mul_comm u, Int.mul_comm a]
    omega
end
end Hx

namespace Hx
open PySem PySem.Spec PyProof.Rows L2 RZ Yx Rm
variable [Tb] [Cb]
section
variable {K : PySem.W.Frag} {x : Option Gst} {aBadUnits aBadRow aNoRow aUnlike aBadRows : Addr}
/-- the greater and the lesser one, as rows of the units -/
structure Two (us a b : Rw) : Prop where
  u : UO us
  a : RO us a
  b : RO us b
end
end Hx

namespace Hx
open PySem PySem.Spec PyProof.Rows L2 RZ Yx Rm
variable [Tb] [Cb]
section
variable {K : PySem.W.Frag} {x : Option Gst} {aBadUnits aBadRow aNoRow aUnlike aBadRows : Addr}
end
end Hx

namespace Hx
open PySem PySem.Spec PyProof.Rows L2 RZ Yx Rm
variable [Tb] [Cb]
/-! ### what is no number, no row, no units -/
def okd : D → Bool
  | .st => false
  | .ref _ => false
  | .dcK _ => false
  | .dcT _ => false
  | _ => true
def isw (lo hi : Int) : D → Bool
  | .int v => decide (lo ≤ v) && decide (v ≤ hi)
  | _ => false
def isn (n : Nat) (lo hi : Int) : D → Bool
  | .tup ds => decide (ds.length = n + 1) && ds.all (isw lo hi)
  | _ => false
def okt : D → Bool
  | .tup ds => ds.all okd && decide (ds.length ≤ 1000)
  | d => okd d
section
variable {K : PySem.W.Frag} {x : Option Gst} {aBadUnits aBadRow aNoRow aUnlike aBadRows : Addr}
theorem v_is_wholeD {d : D} {lo hi : Int} (h : okd d = true) : m_is_whole K [d, .int lo, .int hi] x = .ok (.bl (isw lo hi d)) x := by
  cases d with
  | int v => exact v_is_whole
  | st => cases h
  | ref a => cases h
  | dcK _ => cases h
  | dcT _ => cases h
  | non => unfold m_is_whole mOf; simp_all_arith! [S_is_whole]; unfold m_is_from mOf; simp_all_arith! [S_is_from]; simp_arith! [is_int_n, isw]
  | bl b => unfold m_is_whole mOf; simp_all_arith! [S_is_whole]; unfold m_is_from mOf; simp_all_arith! [S_is_from]; simp_arith! [is_int_b, is_bool_b, isw]
  | str z => unfold m_is_whole mOf; simp_all_arith! [S_is_whole]; unfold m_is_from mOf; simp_all_arith! [S_is_from]; simp_arith! [is_int_s, isw]
  | tup l => unfold m_is_whole mOf; simp_all_arith! [S_is_whole]; unfold m_is_from mOf; simp_all_arith! [S_is_from]; simp_arith! [is_int_t, isw]
  | lst l => unfold m_is_whole mOf; simp_all_arith! [S_is_whole]; unfold m_is_from mOf; simp_all_arith! [S_is_from]; simp_arith! [is_int_l, isw]
theorem all_bl {K : PySem.W.Frag} (f : D → Bool) : ∀ l : List D, l.length ≤ 16777216 → (opAll K).f false (l.map fun d => D.bl (f d)) = some (.bl (l.all f)) := by
  intro l hl
  clear hl
  have e : boolsD (l.map fun d => D.bl (f d)) = some (l.map f) := by
    induction l with
    | nil => rfl
    | cons a l ih =>
      simp only [List.map_cons, boolsD, ih]
      first | rfl | simp
  show (if false = true then none else (boolsD (l.map fun d => D.bl (f d))).map fun ns => D.bl (ns.all id)) = _
  rw [e]
  simp [List.all_map]
theorem comp_id {gf : D → Sg → Option Sg} {cf : Sg → Option Gst → R Bool} {ef : Sg → Option Gst → R D} {σ : Sg} {x : Option Gst} (g : D → D) (l : List D) (acc : List D) (h : acc.length + l.length ≤ 16777216) (hh : ∀ a ∈ l, ∃ σ1, gf a σ = some σ1 ∧ cf σ1 x = .ok true x ∧ ef σ1 x = .ok (g a) x) :
    compF gf cf ef σ l acc x = .ok (acc ++ l.map g) x := by
  have := comp_map (σ := σ) (x := x) (fun d : D => d) g l acc h hh
  rwa [List.map_id'] at this
theorem v_is_numbersD {us : Rw} {d : D} {lo hi : Int} (h : okt d = true) : m_is_numbers K [dR us, d, .int lo, .int hi] x = .ok (.bl (isn us.length lo hi d)) x := by
  unfold m_is_numbers mOf
  simp_all_arith! [S_is_numbers]
  unfold m_is_tuple_of mOf
  simp_all_arith! [S_is_tuple_of]
  cases d with
  | st => cases h
  | ref a => cases h
  | dcK _ => cases h
  | dcT _ => cases h
  | int v => simp_arith! [is_tuple_i, isn]
  | non => simp_arith! [is_tuple_n, isn]
  | bl b => simp_arith! [is_tuple_b, isn]
  | str z => simp_arith! [is_tuple_s, isn]
  | lst l => simp_arith! [is_tuple_l, isn]
  | tup ds =>
    have h : ds.all okd = true ∧ ds.length ≤ 1000 := by simpa [okt] using h
    by_cases c : ds.length = us.length + 1
    · have c' : ((ds.length : Nat) : Int) = us.length + 1 := by omega
      have q : decide (((us.length + 1 : Nat) : Int) = us.length + 1) = true := decide_eq_true (by omega)
      have e2 := all_bl (K := K) (isw lo hi) ds (by omega)
      simp_arith! [isn, dR_eq, List.length_map, c', c, q, eqI]
      rw [comp_id (fun d => D.bl (isw lo hi d)) ds [] (by simp only [List.length_nil]; omega)]
      · simp_arith! [e2]
      · intro a ha
        have e := v_is_wholeD (K := K) (x := x) (lo := lo) (hi := hi) (List.all_eq_true.mp h.1 a ha)
        exact ⟨_, rfl, rfl, by simp_arith! [e]⟩
    · have c' : ¬ ((ds.length : Nat) : Int) = us.length + 1 := by omega
      simp_arith! [isn, dR_eq, List.length_map, c', c, eqI]

def isU : D → Bool
  | .tup ds => decide (ds.length ≤ 3) && ds.all (isw 2 10)
  | _ => false
theorem v_need_unitsD {d : D} (h : okt d = true) : m_need_units K aBadUnits [d] x = if isU d = true then .ok d x else .exc aBadUnits (some ("value", d)) x := by
  unfold m_need_units mOf
  simp_all_arith! [S_need_units]
  cases d with
  | st => cases h
  | ref a => cases h
  | dcK _ => cases h
  | dcT _ => cases h
  | int v => simp_arith! [is_tuple_i, isU]
  | non => simp_arith! [is_tuple_n, isU]
  | bl b => simp_arith! [is_tuple_b, isU]
  | str z => simp_arith! [is_tuple_s, isU]
  | lst l => simp_arith! [is_tuple_l, isU]
  | tup ds =>
    have h : ds.all okd = true ∧ ds.length ≤ 1000 := by simpa [okt] using h
    have e2 := all_bl (K := K) (isw 2 10) ds (by omega)
    by_cases c : ds.length ≤ 3
    · have c' : ¬ ((ds.length : Nat) : Int) > 3 := by omega
      simp_arith! [isU, c', c]
      rw [comp_id (fun d => D.bl (isw 2 10 d)) ds [] (by simp only [List.length_nil]; omega)]
      · cases k : ds.all (isw 2 10) with
        | true => rw [k] at e2; simp_arith! [e2, k]
        | false => rw [k] at e2; simp_arith! [e2, k]
      · intro a ha
        have e := v_is_wholeD (K := K) (x := x) (lo := 2) (hi := 10) (List.all_eq_true.mp h.1 a ha)
        exact ⟨_, rfl, rfl, by simp_arith! [e]⟩
    · have c' : ((ds.length : Nat) : Int) > 3 := by omega
      simp_arith! [isU, c', c]
theorem v_is_rowD {us : Rw} {d : D} (h : okt d = true) : m_is_row K [dR us, d] x = .ok (.bl (isn us.length 0 (10 ^ 60) d)) x := by
  have e := v_is_numbersD (K := K) (x := x) (us := us) (lo := 0) (hi := 10 ^ 60) h
  unfold m_is_row mOf
  simp_all_arith! [S_is_row]
  rw [ten60] at *
  simp only [dR_eq] at e ⊢
  simp_arith! [pow60, e]
theorem v_need_rowD {us : Rw} {d : D} (hu : UO us) (h : okt d = true) : m_need_row K aBadRow aBadUnits [dR us, d] x = if isn us.length 0 (10 ^ 60) d = true then .ok d x else .exc aBadRow (some ("value", d)) x := by
  have e1 := v_need_units (K := K) (x := x) (aBadUnits := aBadUnits) hu
  have e2 := v_is_rowD (K := K) (x := x) (us := us) h
  unfold m_need_row mOf
  simp_all_arith! [S_need_row]
  simp only [dR_eq] at e1 e2 ⊢
  cases k : isn us.length 0 (10 ^ 60) d with
  | true => rw [k] at e2; simp_arith! [e1, e2]
  | false => rw [k] at e2; simp_arith! [e1, e2]
/-- units that are none, ahead of all else -/
theorem v_need_rowU {u d : D} (h : okt u = true) (hn : isU u = false) : m_need_row K aBadRow aBadUnits [u, d] x = .exc aBadUnits (some ("value", u)) x := by
  have e1 := v_need_unitsD (K := K) (x := x) (aBadUnits := aBadUnits) h
  rw [hn] at e1
  unfold m_need_row mOf
  simp_all_arith! [S_need_row]
  simp_arith! [e1]
end
end Hx

namespace Hx
open PySem PySem.Spec PyProof.Rows L2 RZ Yx Rm
variable [Tb] [Cb]
theorem cut_drop {l : List D} {p : Nat} : Yx.cutD l (some (p : Int)) none = l.drop p := by
  unfold Yx.cutD
  rw [HT.sIx_none, HT.sIx_nat]
  rcases Nat.le_total p l.length with h | h
  · rw [Nat.min_eq_left h, List.take_of_length_le]
    rw [List.length_drop]; omega
  · rw [Nat.min_eq_right h, List.drop_of_length_le (Nat.le_refl _), List.drop_of_length_le h]
    simp
theorem Rps.all {k n : Nat} : ∀ {l : List D}, (∀ d ∈ l, Rp k n d) → Rps k ((n + 1) * l.length) l
  | [], _ => Rps.nil.mono (Nat.zero_le _) (Nat.zero_le _)
  | d :: l, h => (Rps.cons (h d (by simp)) (Rps.all fun e he => h e (by simp [he]))).mono (Nat.le_refl _) (by rw [List.length_cons, Nat.mul_succ]; omega)
/-- what is no row -/
structure Odd (n : Nat) (d : D) : Prop where
  ok : okt d = true
  no : isn n 0 (10 ^ 60) d = false
  rp : Rp 2 9000 d
structure BadI (d : D) : Prop where
  ok : okd d = true
  no : isw 0 (10 ^ 60) d = false
  rp : Rp 0 270 d
end Hx

namespace Hx
open PySem PySem.Spec PyProof.Rows L2 RZ Yx Rm
variable [Tb] [Cb]
section
variable {K : PySem.W.Frag} {x : Option Gst} {aBadUnits aBadRow aNoRow aBadNumbers : Addr}
end
end Hx

namespace Hx
open PySem PySem.Spec PyProof.Rows L2 RZ Yx Rm
variable [Tb] [Cb]
/-! ### the text of a row -/
section
variable {K : PySem.W.Frag} {x : Option Gst}
end
end Hx

namespace Rm
/-! # the greatest lot -/
/-- all numbers times t -/
def sc (t : Int) (r : Rw) : Rw := r.map fun a => a * t
section
variable {us st od x y : Rw}
end
end Rm

namespace Hx
open PySem PySem.Spec PyProof.Rows L2 RZ Yx Rm
variable [Tb] [Cb]
section
variable {K : PySem.W.Frag} {x : Option Gst} {aBadUnits aBadRow aNoRow aUnlike aBadRows : Addr}
end
end Hx

namespace Hx
open PySem PySem.Spec PyProof.Rows L2 RZ Yx Rm
variable [Tb] [Cb]
section
variable {K : PySem.W.Frag} {x : Option Gst} {aBadUnits aBadRow aNoRow aUnlike aBadRows : Addr}
/-! ### one of some things -/
theorem atI_nat {α : Type} {l : List α} {k : Nat} (h : k < l.length) : atI l (k : Int) = some l[k] := by
  have := atI_of (l := l) (k := (k : Int)) (by omega) (by omega)
  simpa using this
/-! ### all rows that lie within one -/
def pt (o : Rw) (n : Int) : List Rw := (List.range (n + 1).toNat).map fun i : Nat => o ++ [(i : Int)]
theorem parts_b1 {r o : Rw} {n : Int} {M : List Rw} {s1 s5 : Option Sl} (hn : 0 ≤ n) (hn2 : n ≤ 1000) (hl : o.length ≤ 4) (hM : M.length ≤ 1000000) (h5 : Da s5) :
    (S_law_parts_b1 K).f [some (.dat (dR r)), s1, some (.dat (.int n)), some (.dat (.lst (M.map dR))), some (.dat (dR o)), s5] x = .nx [some (.dat (dR r)), s1, some (.dat (.int n)), some (.dat (.lst ((M ++ pt o n).map dR))), some (.dat (dR o)), s5] x := by
  have i6 : i62 (n + 1) = true := by unfold i62; rw [decide_eq_true_eq]; omega
  have hc : calmS [some (.dat (dR r)), s1, some (.dat (.int n)), some (.dat (.lst (M.map dR))), some (.dat (dR o)), s5] [5] = true := by rcases h5 with rfl | ⟨d, rfl⟩ <;> rfl
  have hw : wipeS [some (.dat (dR r)), s1, some (.dat (.int n)), some (.dat (.lst (M.map dR))), some (.dat (dR o)), s5] [5] = [some (.dat (dR r)), s1, some (.dat (.int n)), some (.dat (.lst (M.map dR))), some (.dat (dR o)), none] := rfl
  have e0 : rngD 0 (n + 1).toNat = (List.range (n + 1).toNat).map fun i => D.int (i : Nat) := rngD0_map _
  have eM : (List.map dR M ++ List.map (fun i : Nat => dR (o ++ [(i : Int)])) (List.range (n + 1).toNat)) = (M ++ pt o n).map dR := by
    unfold pt
    rw [List.map_append, List.map_map]
    rfl
  have cl := catL (K := K) (a := M.map dR) (b := List.map (fun i : Nat => dR (o ++ [(i : Int)])) (List.range (n + 1).toNat)) (by simp only [List.length_map, List.length_range]; omega)
  rw [eM] at cl
  simp only [dR_eq] at cl
  simp_all_arith! [S_law_parts_b1]
  rw [dR_eq o] at hc hw ⊢
  rw [dR_eq r] at hc hw ⊢
  simp_arith! [i6, e0, hc, hw]
  rw [comp_map (fun i : Nat => D.int (i : Nat)) (fun i : Nat => dR (o ++ [(i : Int)])) (List.range (n + 1).toNat) [] (by simp only [List.length_nil, List.length_range]; omega) (fun i hi => ⟨_, rfl, rfl, ?_⟩)]
  · simp_arith! [cl]
  · have ct := catT (K := K) (a := o.map D.int) (b := [D.int (i : Int)]) (by simp only [List.length_map, List.length_cons, List.length_nil]; omega)
    simp only [dR_eq, List.map_append, List.map_cons, List.map_nil]
    simp_arith! [ct]
def pts (n : Int) (F : List Rw) : List Rw := F.flatMap fun o => pt o n
theorem pts_len {n : Int} {m : Nat} (h : n ≤ (m : Int)) : ∀ F : List Rw, (pts n F).length ≤ F.length * (m + 1)
  | [] => by simp [pts]
  | o :: F => by
    have h2 := pts_len h F
    have h1 : (pt o n).length ≤ m + 1 := by unfold pt; simp only [List.length_map, List.length_range]; omega
    unfold pts at h2 ⊢
    rw [List.flatMap_cons, List.length_append, List.length_cons, Nat.succ_mul]
    omega
theorem parts_b2 {r : Rw} {n : Int} {F : List Rw} {m : Nat} {s3 s4 s5 : Option Sl} (hn : 0 ≤ n) (hn2 : n ≤ (m : Int)) (hm : m ≤ 1000) (hF : ∀ o ∈ F, o.length ≤ 4) (hl : F.length * (m + 1) ≤ 1000000) (h5 : Da s5) :
    ∃ s3' s4' s5', (S_law_parts_b2 K).f [some (.dat (dR r)), some (.dat (.lst (F.map dR))), some (.dat (.int n)), s3, s4, s5] x = .nx [some (.dat (dR r)), some (.dat (.lst ((pts n F).map dR))), some (.dat (.int n)), s3', s4', s5'] x ∧ Da s5' := by
  have key := for_inv (tg := (SG.name K 4).f) (bf := (S_law_parts_b1 K).f) dR
    (fun done left σ y => y = x ∧ done ++ left = F ∧ ∃ t4 t5, σ = [some (.dat (dR r)), some (.dat (.lst (F.map dR))), some (.dat (.int n)), some (.dat (.lst ((pts n done).map dR))), t4, t5] ∧ Da t5)
    (by
      rintro done o left σ y ⟨rfl, e, t4, t5, rfl, h5⟩
      have hd : (pts n done).length ≤ 1000000 := by
        have h1 := pts_len hn2 done
        have h2 : done.length ≤ F.length := by rw [← e]; simp
        have h3 : done.length * (m + 1) ≤ F.length * (m + 1) := Nat.mul_le_mul_right _ h2
        omega
      have hb := parts_b1 (K := K) (x := y) (r := r) (s1 := some (.dat (.lst (F.map dR)))) (s5 := t5) hn (by omega) (hF o (by rw [← e]; simp)) hd h5
      refine ⟨_, rfl, _, _, hb, rfl, by rw [← e]; simp, some (.dat (dR o)), t5, ?_, h5⟩
      have : pts n (done ++ [o]) = pts n done ++ pt o n := by simp [pts]
      rw [this])
    F [] [some (.dat (dR r)), some (.dat (.lst (F.map dR))), some (.dat (.int n)), some (.dat (.lst [])), s4, s5] x ⟨rfl, rfl, s4, s5, rfl, h5⟩
  obtain ⟨σ', y, ef, rfl, _, t4, t5, rfl, h5'⟩ := key
  refine ⟨some (.dat (.lst ((pts n F).map dR))), t4, t5, ?_, h5'⟩
  simp_all_arith! [S_law_parts_b2]
  dsimp only [SG.name] at ef
  simp only [List.nil_append, dR_eq r] at ef ⊢
  simp_arith! [ef, listI]
theorem le_snoc : ∀ {o r : Rw} {a b : Int}, Le o r → a ≤ b → Le (o ++ [a]) (r ++ [b])
  | [], [], a, b, _, h => ⟨h, trivial⟩
  | p :: o, q :: r, a, b, h, h2 => ⟨h.1, le_snoc h.2 h2⟩
  | [], _ :: _, _, _, h, _ => h.elim
  | _ :: _, [], _, _, h, _ => h.elim
end
end Hx

namespace Hx
open PySem PySem.Spec PyProof.Rows L2 RZ Yx Rm
variable [Tb] [Cb]
section
variable {K : PySem.W.Frag} {x : Option Gst} {aBadUnits aBadRow aNoRow aUnlike aBadRows : Addr}
end
end Hx

namespace Hx
open PySem PySem.Spec PyProof.Rows L2 RZ Yx Rm
variable [Tb] [Cb]
/-- a row of at most so many least pieces -/
structure Rk (us : Rw) (m : Int) (r : Rw) : Prop where
  len : r.length = us.length + 1
  nn : NN r
  le : tot 0 us r ≤ m
theorem Rk.mono {us r : Rw} {m n : Int} (h : Rk us m r) (e : m ≤ n) : Rk us n r := ⟨h.len, h.nn, Int.le_trans h.le e⟩
theorem Rk.mem {us r : Rw} {m : Int} (h : Rk us m r) (hu : U us) : ∀ a ∈ r, 0 ≤ a ∧ a ≤ m := fun a ha => ⟨NN_mem.1 h.nn a ha, Int.le_trans ((tot_ge us r 0 hu h.len h.nn (Int.le_refl 0)).2 a ha) h.le⟩
theorem Rk.plus {us r q : Rw} {m n : Int} (h : Rk us m r) (k : Rk us n q) : Rk us (m + n) (plus r q) := ⟨by rw [plus_length _ _ (h.len.trans k.len.symm), h.len], plus_NN h.nn k.nn, by rw [tot0_plus us r q h.len k.len]; have := h.le; have := k.le; omega⟩
section
variable {K : PySem.W.Frag} {x : Option Gst} {m : Nat} {s : Gst} {us : Rw} {Q : D → Option Gst → Prop} {E : XE}
theorem w_draw {n : Int} (g : GOk m s) (h : m ≤ 900000) (n0 : 0 < n) (n1 : n ≤ 10 ^ 100) (q : ∀ k s', 0 ≤ k → k < n → GOk (m + 1) s' → Q (.int k) (some s')) : wR (m_law_draw K [.st, .int n] (some s)) Q E := by
  obtain ⟨k, s', e, k0, k1, g'⟩ := v_draw (K := K) g h n0 n1
  exact wR_is e (q k s' k0 k1 g')
theorem w_units (g : GOk m s) (h : m ≤ 800000) (q : ∀ us s', UD us → GOk (m + 3) s' → Q (dR us) (some s')) : wR (m_law_units K [.st] (some s)) Q E := by
  obtain ⟨us, s', e, hu, g'⟩ := v_units (K := K) g h
  exact wR_is e (q us s' hu g')
theorem w_catL {a b : List D} (h : a.length + b.length ≤ 16777216) (q : Q (.lst (a ++ b)) x) : wR (R.ofo ((opAdd K).f (.lst a) (.lst b)) x) Q E := by
  have e : (opAdd K).f (.lst a) (.lst b) = some (.lst (a ++ b)) := by
    show Yx.catF (.lst a) (.lst b) = _
    unfold Yx.catF
    simp only
    rw [if_pos (show szOk (a.length + b.length) = true from decide_eq_true h)]
  rw [e, ofo_some, wR_ok]; exact q
end
end Hx

namespace Hx
open PySem PySem.Spec PyProof.Rows L2 RZ Yx Rm
variable [Tb] [Cb]
/-! ### sums of products, all rows of so few least pieces -/
def pr2 (p : Int × Int) : D := .tup [.int p.1, .int p.2]
theorem zip_rows (a b : Rw) : ((a.map D.int).zip (b.map D.int)).map (fun p => D.tup [p.1, p.2]) = (a.zip b).map pr2 := by
  rw [List.zip_map, List.map_map]
  rfl
theorem zip_dot : ∀ a b : Rw, ((a.zip b).map fun p => p.1 * p.2).sum = dot a b
  | [], b => by simp [dot]
  | a :: x, [] => by simp [dot]
  | a :: x, b :: y => by simp [dot, zip_dot x y]
theorem dot_comm : ∀ a b : Rw, dot a b = dot b a
  | [], [] => rfl
  | [], _ :: _ => rfl
  | _ :: _, [] => rfl
  | a :: x, b :: y => by simp only [dot, dot_comm x y, Int.mul_comm]
theorem dot_tot {us r : Rw} (h : r.length = us.length + 1) : dot r (szs us) = tot 0 us r := by
  rw [tot_dot us r 0 h, dot_comm]
  omega
theorem sum_ints {K : PySem.W.Frag} {b : Bool} (l : Rw) : (opSum K).f b (l.map D.int) = some (.int l.sum) := by
  show (intsD (l.map D.int)).map (fun ns => D.int ns.sum) = _
  rw [ints_map]
  rfl
section
variable {K : PySem.W.Frag} {x : Option Gst} {us : Rw} {Q : D → Option Gst → Prop} {E : XE}
theorem szs_sm (hu : UO us) : ∀ z ∈ szs us, 1 ≤ z ∧ z ≤ 10000 := by
  obtain ⟨h3, h2⟩ := hu
  match us, h3, h2 with
  | [], _, _ => intro z hz; simp [szs] at hz; omega
  | [a], _, h2 =>
    have := h2 a (by simp)
    intro z hz
    simp [szs, hd] at hz
    omega
  | [a, b], _, h2 =>
    have ha := h2 a (by simp)
    have hb := h2 b (by simp)
    have h3 : 1 * 1 ≤ b * a := Int.mul_le_mul (by omega) (by omega) (by decide) (by omega)
    have h4 : b * a ≤ 10 * 10 := Int.mul_le_mul (by omega) (by omega) (by omega) (by omega)
    intro z hz
    simp [szs, hd] at hz
    omega
  | [a, b, c], _, h2 =>
    have ha := h2 a (by simp)
    have hb := h2 b (by simp)
    have hc := h2 c (by simp)
    have h3 : 1 * 1 ≤ c * b := Int.mul_le_mul (by omega) (by omega) (by decide) (by omega)
    have h4 : c * b ≤ 10 * 10 := Int.mul_le_mul (by omega) (by omega) (by omega) (by omega)
    have h5 : 1 * 1 ≤ c * b * a := Int.mul_le_mul (by omega) (by omega) (by decide) (by omega)
    have h6 : c * b * a ≤ 100 * 10 := Int.mul_le_mul (by omega) (by omega) (by omega) (by omega)
    intro z hz
    simp [szs, hd] at hz
    omega
  | _ :: _ :: _ :: _ :: _, h, _ => simp only [List.length_cons] at h; omega
theorem w_total {r : Rw} (hu : UO us) (hr : r.length = us.length + 1) (hb : Big N8 r) (q : Q (.int (tot 0 us r)) x) : wR (m_law_total K [dR us, dR r] x) Q E := by
  have l4 := hu.len
  (unfold m_law_total; refine Yx.w_def ?_; unfold S_law_total)
  simp_arith [Yx.startS]
  refine wR_is (v_sizes hu) ?_
  simp_arith [zip_rows]
  refine wR_map pr2 (r.zip (szs us)) (fun p => .int (p.1 * p.2)) (by rw [List.length_zip]; omega) ?_ ?_
  · intro p hp
    refine ⟨_, rfl, ?_⟩
    have h1 := List.of_mem_zip hp
    have h2 := hb p.1 h1.1
    have h3 := szs_sm hu p.2 h1.2
    simp_arith [pr2, mulF_int (K := K) (sm8 (by unfold N8 at *; omega) (by unfold N8 at *; omega) : Sm p.1) (.of (by omega) (by omega) : Sm p.2)]
    exact ⟨kp ⟨rfl, rfl⟩, kp ⟨rfl, rfl⟩⟩
  · have e : (r.zip (szs us)).map (fun p => D.int (p.1 * p.2)) = ((r.zip (szs us)).map fun p => p.1 * p.2).map D.int := by rw [List.map_map]; rfl
    rw [e]
    simp_arith [sum_ints, zip_dot, dot_tot hr]
    exact q
end
end Hx

namespace Hx
open PySem PySem.Spec PyProof.Rows L2 RZ Yx Rm
variable [Tb] [Cb]
section
variable {K : PySem.W.Frag} {x : Option Gst} {us : Rw} {Q : D → Option Gst → Prop} {E : XE} {aBadUnits aBadRow aNoRow aUnlike aBadRows : Addr}
/-- the greater ones, the lesser ones of stairs, from one on -/
def lfS (us A : Rw) (os : List Rw) : Rw := os.foldl (fun s r => mx s (S 0 us r)) A
def gcS (us A : Rw) (os : List Rw) : Rw := os.foldl (fun s r => mn s (S 0 us r)) A
/-- a stair whose items are of ordinary size -/
structure Ss (us s : Rw) : Prop where
  st : Stair 0 us s
  nn : NN s
  top : ∀ a ∈ s, a ≤ 4000 * 10 ^ 60
theorem Ss.len {s : Rw} (h : Ss us s) : s.length = us.length + 1 := h.st.length
theorem Ss.big {s : Rw} (h : Ss us s) : Big N8 s := big_of h.nn h.top t4k_le
theorem RO.ss {r : Rw} (hu : UO us) (h : RO us r) : Ss us (S 0 us r) := ⟨(stair_iff us r 0 h.len).2 h.nn, NN_mem.2 fun a ha => (h.stair hu a ha).1, fun a ha => (h.stair hu a ha).2⟩
theorem Ss.mx {a b : Rw} (hu : UO us) (h : Ss us a) (k : Ss us b) : Ss us (mx a b) := ⟨by have := Stair.mx hu.u h.st k.st; simpa using this, NN_mx h.nn k.nn, mx_mem h.top k.top⟩
theorem Ss.mn {a b : Rw} (hu : UO us) (h : Ss us a) (k : Ss us b) : Ss us (mn a b) := ⟨by have := Stair.mn hu.u h.st k.st; simpa using this, NN_mn h.nn k.nn, mn_mem h.top k.top⟩
theorem Ss.zr (us : Rw) : Ss us (zr us) := ⟨by rw [← S_zr]; exact (stair_iff us _ 0 (zr_length us)).2 (zr_NN us), zr_NN us, fun a ha => by
  have : a = 0 := List.eq_of_mem_replicate ha
  subst this; decide⟩
theorem Ss.lfS (hu : UO us) : ∀ {os : List Rw} {A : Rw}, Ss us A → (∀ o ∈ os, RO us o) → Ss us (lfS us A os)
  | [], A, h, _ => h
  | o :: os, A, h, k => Ss.lfS hu (os := os) (h.mx hu ((k o (by simp)).ss hu)) fun p hp => k p (List.mem_cons_of_mem _ hp)
theorem Ss.gcS (hu : UO us) : ∀ {os : List Rw} {A : Rw}, Ss us A → (∀ o ∈ os, RO us o) → Ss us (gcS us A os)
  | [], A, h, _ => h
  | o :: os, A, h, k => Ss.gcS hu (os := os) (h.mn hu ((k o (by simp)).ss hu)) fun p hp => k p (List.mem_cons_of_mem _ hp)
end
end Hx

namespace Hx
open PySem PySem.Spec PyProof.Rows L2 RZ Yx Rm
variable [Tb] [Cb]
abbrev T60 : Int := 1000000000000000000000000000000000000000000000000000000000000
theorem isn_T (n : Nat) (d : D) : isn n 0 (10 ^ 60) d = isn n 0 T60 d := by rw [ten60]
section
variable {K : PySem.W.Frag} {x : Option Gst} {us : Rw} {Q : D → Option Gst → Prop} {E : XE} {aBadUnits aBadRow aNoRow aUnlike aBadRows : Addr}
end
end Hx

namespace Rm
/-! # the fewest cuts -/
def cd (m u : Int) : Int := max 0 (-((-m) / u))
/-- the row behind so many cuts -/
def ap : Int → Rw → Rw → Rw → Rw
  | x, u :: us, s :: st, c :: cs => (s + x - c) :: ap (u * c) us st cs
  | x, [], s :: _, _ => [s + x]
  | _, _, _, _ => []
section
variable {us st od : Rw}
end
end Rm

namespace Hx
open PySem PySem.Spec PyProof.Rows L2 RZ Yx Rm
variable [Tb] [Cb]
section
variable {K : PySem.W.Frag} {x : Option Gst} {aBadUnits aBadRow aUnlike : Addr}
end
end Hx

namespace Hx
open PySem PySem.Spec PyProof.Rows L2 RZ Yx Rm
variable [Tb] [Cb]
section
variable {K : PySem.W.Frag} {x : Option Gst} {aBadUnits aBadRow aUnlike : Addr}
/-! ### how often each is cut -/
/-! ### of all rows that have the order -/
end
end Hx

namespace Hx
open PySem PySem.Spec PyProof.Rows L2 RZ Yx Rm
variable [Tb] [Cb]
section
variable {K : PySem.W.Frag} {x : Option Gst} {aBadUnits aBadRow aUnlike : Addr}
end
end Hx

namespace Hx
open PySem PySem.Spec PyProof.Rows L2 RZ Yx Rm
variable [Tb] [Cb]
section
variable {K : PySem.W.Frag} {x : Option Gst} {aBadUnits aBadRow aUnlike : Addr}
end
end Hx

namespace Hx
open PySem PySem.Spec PyProof.Rows L2 RZ Yx Rm
variable [Tb] [Cb]
/-! ### single cuts, told by values of any kind -/
section
variable {K : PySem.W.Frag} {x : Option Gst} {us row : Rw} {Q : D → Option Gst → Prop} {E : XE} {aBadUnits aBadRow aNoRow aUnlike aBadUnit aBadSteps aTooGreat : Addr}
end
end Hx

namespace Rm
end Rm

namespace Hx
open PySem PySem.Spec PyProof.Rows L2 RZ Yx Rm
variable [Tb] [Cb]
end Hx

namespace Hx
open PySem PySem.Spec PyProof.Rows L2 RZ Yx Rm
variable [Tb] [Cb]
section
variable {K : PySem.W.Frag} {x : Option Gst} {us row : Rw} {Q : D → Option Gst → Prop} {E : XE} {aBadUnits aBadRow aNoRow aUnlike aBadUnit aBadSteps aTooGreat : Addr}
end
end Hx

namespace Hx
open PySem PySem.Spec PyProof.Rows L2 RZ Yx Rm
variable [Tb] [Cb]
section
variable {K : PySem.W.Frag} {x : Option Gst} {us row : Rw} {Q : D → Option Gst → Prop} {E : XE} {aBadUnits aBadRow aNoRow aUnlike aBadUnit aBadSteps aTooGreat : Addr}
theorem x_need_rowU {u d : D} (h : okt u = true) (hn : isU u = false) (q : E aBadUnits (some (("value" : Str), u)) x) : wR (m_need_row K aBadRow aBadUnits [u, d] x) Q E := wR_isX (v_need_rowU h hn) q
theorem x_need_row {d : D} (hu : UO us) (h : okt d = true) (hn : isn us.length 0 T60 d = false) (q : E aBadRow (some (("value" : Str), d)) x) : wR (m_need_row K aBadRow aBadUnits [dR us, d] x) Q E := by
  have e := v_need_rowD (K := K) (x := x) (aBadUnits := aBadUnits) (aBadRow := aBadRow) hu h
  rw [isn_T, hn, if_neg (by decide)] at e
  exact wR_isX e q
end
end Hx

namespace Hx
open PySem PySem.Spec PyProof.Rows L2 RZ Yx Rm
variable [Tb] [Cb]
theorem Rps.c {k n k' m : Nat} {d : D} {l : List D} (h : Rp k n d) (t : Rps k' m l) : Rps (max k k') (n + 1 + m) (d :: l) :=
  Rps.cons (h.mono (Nat.le_max_left ..) (Nat.le_refl _)) (t.mono (Nat.le_max_right ..) (Nat.le_refl _))
theorem rp_w {w : Str} (h : PyData.strOk w = true) (hs : w.cps.size ≤ 100) : Rp 0 100 (.str w) := (Rp.str h).mono (Nat.le_refl _) hs
theorem rp_i {i : Int} (h0 : -10000000000 ≤ i) (h1 : i ≤ 10000000000) : Rp 0 270 (.int i) := Rp.int (by unfold N8; omega) (by unfold N8; omega)
theorem rp_tag2 {w : Str} {d : D} {n : Nat} (hw : Rp 0 100 (.str w)) (h : Rp 8 n d) : Rp 9 (n + 200) (.tup [.str w, d]) := (Rp.tup (Rps.c hw (Rps.c h Rps.nil))).mono (by decide) (by omega)
section
variable {K : PySem.W.Frag} {x : Option Gst} {us row : Rw} {Q : D → Option Gst → Prop} {E : XE}
theorem w_likeR {d : D} {n : Nat} (h : Rp 20 n d) (hn : n ≤ 180000) (q : Q (.bl true) x) : wR (m_law_like K [d, d] x) Q E := wR_is (v_like (h.mono (k' := 64) (by decide) hn) (by decide) (by decide)) q
theorem w_like {d e : D} (h : d = e) (hc : chk d = true) (q : Q (.bl true) x) : wR (m_law_like K [d, e] x) Q E := by
  subst h
  exact wR_is (v_like (rp_chk hc) (by decide) (by decide)) q
end
end Hx

namespace Rm
/-! # rows and stairs in order -/
/-! ## the numbers from one to another -/
def rg (a b : Int) : List Int := (List.range (b + 1 - a).toNat).map fun i : Nat => a + (i : Int)
/-- summed from the top -/
def gt (f : Int → Int) (a b : Int) : Nat → Int
  | 0 => 0
  | j + 1 => gt f a b j + if a ≤ b - (j : Int) then f (b - (j : Int)) else 0
/-- the least next item of a stair that has begun -/
def li (us p : Rw) : Int := match p.getLast? with
  | none => 0
  | some v => pick us (p.length - 1) * v
def stp (us : Rw) (P : List Rw) (ab : Int × Int) : List Rw := P.flatMap fun p => (rg (max ab.1 (li us p)) ab.2).map fun v => p ++ [v]
def grow (us : Rw) (P : List Rw) (abs : List (Int × Int)) : List Rw := abs.foldl (stp us) P
/-- a stair's end: between two others, the first item not below lo -/
def ok : Int → Rw → Rw → Rw → Rw → Prop
  | lo, u :: us, a :: l, b :: h, v :: t => (a ≤ v ∧ lo ≤ v ∧ v ≤ b) ∧ ok (u * v) us l h t
  | lo, [], [a], [b], [v] => a ≤ v ∧ lo ≤ v ∧ v ≤ b
  | _, _, _, _, _ => False
/-- the stairs between two -/
def sb (us l h : Rw) : List Rw := grow us [[]] (l.zip h)
end Rm

namespace Hx
open PySem PySem.Spec PyProof.Rows L2 RZ Yx Rm
variable [Tb] [Cb]
/-- what is counted above each number -/
def tbl (f : Int → Int) (a b : Int) : List D := ((List.range ((b + 1).toNat + 1)).map fun i => D.int (gt f a b i)).reverse
section
variable {K : PySem.W.Frag} {x : Option Gst} {us row : Rw} {Q : D → Option Gst → Prop} {E : XE} {aBadUnits aBadRow aNoRow aUnlike aTooGreat : Addr}
end
end Hx

namespace Hx
open PySem PySem.Spec PyProof.Rows L2 RZ Yx Rm
variable [Tb] [Cb]
section
variable {K : PySem.W.Frag} {x : Option Gst} {us row : Rw} {Q : D → Option Gst → Prop} {E : XE} {aBadUnits aBadRow aNoRow aUnlike aTooGreat : Addr}
end
end Hx

namespace Hx
open PySem PySem.Spec PyProof.Rows L2 RZ Yx Rm
variable [Tb] [Cb]
/-- the numbers from 0 to another -/
def upto (b : Int) : List Int := (List.range (b + 1).toNat).map fun i : Nat => (i : Int)
/-! ### rows in order, sorted -/
theorem alike_ints : ∀ a b : Rw, PySem.W.alikeAll (D.pys (a.map D.int)) (D.pys (b.map D.int)) = true
  | [], _ => by simp only [List.map_nil, D.pys, PySem.W.alikeAll]
  | _ :: _, [] => by simp only [List.map_nil, List.map_cons, D.pys, PySem.W.alikeAll]
  | a :: x, b :: y => by
    show PySem.W.alikeAll (PyData.int a :: D.pys (x.map D.int)) (PyData.int b :: D.pys (y.map D.int)) = true
    simp only [PySem.W.alikeAll, PySem.W.alike, alike_ints x y, Bool.and_self]
section
variable {K : PySem.W.Frag} {x : Option Gst} {us row : Rw} {Q : D → Option Gst → Prop} {E : XE} {aBadUnits aBadRow aNoRow aUnlike aTooGreat : Addr}
end
end Hx

namespace Hx
open PySem PySem.Spec PyProof.Rows L2 RZ Yx
variable [Tb] [Cb]
end Hx

namespace Hx
open PySem PySem.Spec PyProof.Rows L2 RZ Yx Rm
variable [Tb] [Cb]
/-- a letter put behind each word -/
def wx (F : List Rw) (u : Int) : List Rw := F.flatMap fun w => (upto (u - 1)).map fun v => w ++ [v]
/-- all words of some ratios, in order -/
def wl (us : Rw) : List Rw := us.foldl wx [[]]
theorem wl_snoc (us : Rw) (u : Int) : wl (us ++ [u]) = wx (wl us) u := by unfold wl; rw [List.foldl_append]; rfl
section
variable {K : PySem.W.Frag} {x : Option Gst} {us row : Rw} {Q : D → Option Gst → Prop} {E : XE} {aBadUnits aBadParameter aNoRow : Addr}
end
end Hx

namespace Hx
open PySem PySem.Spec PyProof.Rows L2 RZ Yx Rm
variable [Tb] [Cb]
/-- the next multiple -/
def nx (e z : Int) : Int := -(-e / z) * z
/-- the word that begins at a place -/
def wd (us z : Rw) (k : Nat) (s : Int) : Rw := (List.range k).map fun i => s / pick z (i + 1) % pick us i
section
variable {K : PySem.W.Frag} {x : Option Gst} {us row : Rw} {Q : D → Option Gst → Prop} {E : XE} {aBadUnits aBadParameter aNoRow : Addr}
end
end Hx

namespace Hx
open PySem PySem.Spec PyProof.Rows L2 RZ Yx Rm
variable [Tb] [Cb]
section
variable {K : PySem.W.Frag} {x : Option Gst} {us row : Rw} {Q : D → Option Gst → Prop} {E : XE} {aBadUnits aBadParameter aNoRow : Addr}
end
end Hx

namespace Hx
open Rm Yx
variable [Tb] [Cb]
/-! ### words as stretches -/
def Wo : Rw → Rw → Prop
  | _, [] => True
  | u :: us, a :: w => (0 ≤ a ∧ a < u) ∧ Wo us w
  | [], _ :: _ => False
/-- where a word's stretch begins, and how long it is -/
def pos : Rw → Rw → Int
  | u :: us, a :: w => a * pick (zs us) 0 + pos us w
  | _, _ => 0
def wsz (us w : Rw) : Int := pick (zs us) w.length
theorem Wo.len : ∀ {us w : Rw}, Wo us w → w.length ≤ us.length
  | _, [], _ => Nat.zero_le _
  | u :: us, a :: w, h => by simpa using Wo.len h.2
theorem zs0 (u : Int) (us : Rw) : pick (zs (u :: us)) 0 = u * pick (zs us) 0 := by
  have e : pick (zs us) 0 = hd (zs us) := by cases us <;> rfl
  rw [e]; rfl
theorem pos_bd : ∀ {us w : Rw}, U us → Wo us w → 0 ≤ pos us w ∧ pos us w + wsz us w ≤ pick (zs us) 0
  | [], [], _, _ => by decide
  | u :: us, [], _, _ => ⟨Int.le_refl _, by show (0 : Int) + pick (zs (u :: us)) 0 ≤ _; omega⟩
  | u :: us, a :: w, hu, h => by
    obtain ⟨h1, h2⟩ := pos_bd hu.2 h.2
    have z := zs_pos us hu.2 0 (Nat.zero_le _)
    have m1 : 0 ≤ a * pick (zs us) 0 := Int.mul_nonneg h.1.1 (by omega)
    have m2 : (a + 1) * pick (zs us) 0 ≤ u * pick (zs us) 0 := Int.mul_le_mul_of_nonneg_right (by have := h.1.2; omega) (by omega)
    rw [Int.add_mul] at m2
    rw [zs0]
    show 0 ≤ a * pick (zs us) 0 + pos us w ∧ a * pick (zs us) 0 + pos us w + pick (zs us) w.length ≤ _
    unfold wsz at h2
    omega
theorem wsz_pos {us w : Rw} (hu : U us) (h : Wo us w) : 1 ≤ wsz us w := zs_pos us hu _ h.len
theorem pos_snoc : ∀ (us w : Rw) (a : Int), w.length < us.length → pos us (w ++ [a]) = pos us w + a * pick (zs us) (w.length + 1)
  | u :: us, [], a, _ => by
    have e : pos us [] = 0 := by cases us <;> rfl
    show a * pick (zs us) 0 + pos us [] = 0 + a * pick (zs us) 0
    rw [e]; omega
  | u :: us, b :: w, a, h => by
    have ih := pos_snoc us w a (by simpa using h)
    show b * pick (zs us) 0 + pos us (w ++ [a]) = b * pick (zs us) 0 + pos us w + a * pick (zs us) (w.length + 1)
    omega
  | [], _, _, h => by simp at h
theorem Wo_snoc : ∀ {us w : Rw} {a : Int}, Wo us w → w.length < us.length → 0 ≤ a → a < pick us w.length → Wo us (w ++ [a])
  | u :: us, [], a, _, _, h1, h2 => ⟨⟨h1, h2⟩, by cases us <;> trivial⟩
  | u :: us, b :: w, a, h, hl, h1, h2 => ⟨h.1, Wo_snoc h.2 (by simpa using hl) h1 h2⟩
  | [], _, _, _, h, _, _ => by simp at h
theorem wd_snoc (us z : Rw) (k : Nat) (s : Int) : wd us z (k + 1) s = wd us z k s ++ [s / pick z (k + 1) % pick us k] := by
  unfold wd; rw [List.range_succ, List.map_append]; rfl
theorem wd_len (us z : Rw) (k : Nat) (s : Int) : (wd us z k s).length = k := by unfold wd; rw [List.length_map, List.length_range]
theorem zs_step (us : Rw) (k : Nat) (h : k < us.length) : pick (zs us) k = pick us k * pick (zs us) (k + 1) := by
  induction us generalizing k with
  | nil => simp at h
  | cons u us ih =>
    cases k with
    | zero => exact zs0 u us
    | succ k => exact ih k (by simpa using h)
theorem wd_ok {us : Rw} (hu : U us) : ∀ {k : Nat} {s : Int}, k ≤ us.length → 0 ≤ s → s < pick (zs us) 0 → Wo us (wd us (zs us) k s) ∧ pos us (wd us (zs us) k s) = s / pick (zs us) k * pick (zs us) k := by
  intro k
  induction k with
  | zero =>
    intro s _ h0 h1
    have e : pos us [] = 0 := by cases us <;> rfl
    have w0 : Wo us [] := by cases us <;> trivial
    refine ⟨w0, ?_⟩
    show pos us [] = _
    rw [e, Int.ediv_eq_zero_of_lt h0 h1, Int.zero_mul]
  | succ k ih =>
    intro s hk h0 h1
    obtain ⟨i1, i2⟩ := ih (by omega) h0 h1
    have zk := zs_step us k (by omega)
    have zp := zs_pos us hu (k + 1) hk
    have up : 0 < pick us k := by
      have := zs_pos us hu k (by omega)
      rcases (by omega : pick us k ≤ 0 ∨ 0 < pick us k) with c | c
      · have := Int.mul_le_mul_of_nonneg_right c (show 0 ≤ pick (zs us) (k + 1) by omega)
        omega
      · exact c
    rw [wd_snoc]
    refine ⟨Wo_snoc i1 (by rw [wd_len]; omega) (Int.emod_nonneg _ (by omega)) (by rw [wd_len]; exact Int.emod_lt_of_pos _ up), ?_⟩
    rw [pos_snoc _ _ _ (by rw [wd_len]; omega), wd_len, i2, zk]
    generalize pick (zs us) (k + 1) = z at *
    generalize pick us k = u at *
    have e : s / (u * z) = s / z / u := by rw [Int.mul_comm, Int.ediv_ediv_of_nonneg (by omega)]
    rw [e]
    have := Int.emod_add_mul_ediv (s / z) u
    have e2 : s / z / u * (u * z) + s / z % u * z = (s / z % u + u * (s / z / u)) * z := by rw [Int.add_mul, Int.mul_comm u (s / z / u), Int.mul_assoc]; omega
    rw [e2, this]
theorem wd_dep {us : Rw} (hu : U us) {k : Nat} {s t : Int} (hk : k ≤ us.length) (h : s / pick (zs us) k = t / pick (zs us) k) : wd us (zs us) k s = wd us (zs us) k t := by
  unfold wd
  refine List.map_congr_left fun j hj => ?_
  have hj := List.mem_range.1 hj
  have e := zs_pq us (j + 1) k (by omega) hk
  have zp := zs_pos us hu k hk
  have d : ∀ s : Int, s / pick (zs us) (j + 1) = s / pick (zs us) k / pq us (j + 1) k := fun s => by
    rw [e, Int.mul_comm, Int.ediv_ediv_of_nonneg (by omega)]
  rw [d, d, h]
theorem flat_range {β : Type} (g : Nat → Nat → β) (u : Nat) (hu : 0 < u) : ∀ N : Nat, (List.range N).flatMap (fun i => (List.range u).map fun j => g i j) = (List.range (N * u)).map fun m => g (m / u) (m % u)
  | 0 => by simp
  | N + 1 => by
    rw [List.range_succ, List.flatMap_append, flat_range g u hu N, Nat.succ_mul, List.range_add, List.map_append, List.flatMap_singleton, List.map_map]
    congr 1
    refine List.map_congr_left fun j hj => ?_
    have hj := List.mem_range.1 hj
    show g N j = g ((N * u + j) / u) ((N * u + j) % u)
    rw [Nat.mul_comm N u, Nat.mul_add_div hu, Nat.div_eq_of_lt hj, Nat.mul_add_mod, Nat.mod_eq_of_lt hj]
    rfl
/-- how many words of a length there are -/
def nw (us : Rw) (k : Nat) : Nat := (pick (zs us) 0 / pick (zs us) k).toNat
theorem nw_step {us : Rw} (hu : U us) {k : Nat} (hk : k < us.length) : nw us (k + 1) = nw us k * (pick us k).toNat ∧ 1 ≤ pick us k := by
  have e0 := zs_pq us 0 k (Nat.zero_le _) (by omega)
  have e1 := zs_pq us 0 (k + 1) (Nat.zero_le _) hk
  have s := zs_step us k hk
  have p1 := zs_pos us hu (k + 1) hk
  have p0 := zs_pos us hu k (by omega)
  have pz := zs_pos us hu 0 (Nat.zero_le _)
  have up : 1 ≤ pick us k := by
    rcases (by omega : pick us k ≤ 0 ∨ 1 ≤ pick us k) with c | c
    · have := Int.mul_le_mul_of_nonneg_right c (show 0 ≤ pick (zs us) (k + 1) by omega)
      omega
    · exact c
  refine ⟨?_, up⟩
  have h0 : pick (zs us) 0 / pick (zs us) k = pq us 0 k := by rw [e0, Int.mul_ediv_cancel _ (by omega)]
  have h1 : pick (zs us) 0 / pick (zs us) (k + 1) = pq us 0 k * pick us k := by
    rw [e0, s, ← Int.mul_assoc, Int.mul_ediv_cancel _ (by omega)]
  have pn : 0 ≤ pq us 0 k := by rw [← h0]; exact Int.ediv_nonneg (by omega) (by omega)
  unfold nw
  rw [h0, h1, Int.toNat_mul pn (by omega)]
theorem nw_mul {us : Rw} (hu : U us) {k : Nat} (hk : k ≤ us.length) : (nw us k : Int) * pick (zs us) k = pick (zs us) 0 := by
  have e0 := zs_pq us 0 k (Nat.zero_le _) hk
  have p0 := zs_pos us hu k hk
  have pz := zs_pos us hu 0 (Nat.zero_le _)
  have h0 : pick (zs us) 0 / pick (zs us) k = pq us 0 k := by rw [e0, Int.mul_ediv_cancel _ (by omega)]
  have pn : 0 ≤ pq us 0 k := by rw [← h0]; exact Int.ediv_nonneg (by omega) (by omega)
  unfold nw
  rw [h0, Int.toNat_of_nonneg pn, ← e0]
/-- all words of a length, by where they begin -/
theorem wl_is {us : Rw} (hu : U us) : ∀ {k : Nat}, k ≤ us.length → wl (us.take k) = (List.range (nw us k)).map fun i : Nat => wd us (zs us) k ((i : Int) * pick (zs us) k) := by
  intro k
  induction k with
  | zero =>
    intro _
    have : nw us 0 = 1 := by
      have := zs_pos us hu 0 (Nat.zero_le _)
      unfold nw
      rw [Int.ediv_self (by omega)]; rfl
    rw [this]
    rfl
  | succ k ih =>
    intro hk
    have ih := ih (by omega)
    obtain ⟨n1, up⟩ := nw_step hu (show k < us.length by omega)
    have zp := zs_pos us hu (k + 1) hk
    have zk := zs_step us k (by omega)
    have e : us.take (k + 1) = us.take k ++ [pick us k] := by
      rw [List.take_succ, List.getElem?_eq_getElem (by omega), pick_get us k (by omega)]; rfl
    rw [e, wl_snoc, ih]
    unfold wx
    rw [List.flatMap_map]
    have e2 : ∀ i : Nat, (List.map (fun v => wd us (zs us) k ((i : Int) * pick (zs us) k) ++ [v]) (upto (pick us k - 1))) = (List.range (pick us k).toNat).map fun j : Nat => wd us (zs us) k ((i : Int) * pick (zs us) k) ++ [(j : Int)] := fun i => by
      unfold upto
      rw [List.map_map, show (pick us k - 1 + 1).toNat = (pick us k).toNat by congr 1; omega]; rfl
    simp only [e2]
    rw [flat_range (fun i j => wd us (zs us) k ((i : Int) * pick (zs us) k) ++ [(j : Int)]) (pick us k).toNat (by omega), n1]
    refine List.map_congr_left fun m _ => ?_
    have eu : (((pick us k).toNat : Nat) : Int) = pick us k := Int.toNat_of_nonneg (by omega)
    rw [wd_snoc, Int.mul_ediv_cancel _ (by omega), Int.natCast_emod, eu]
    congr 1
    refine wd_dep hu (by omega) ?_
    have p0 := zs_pos us hu k (by omega)
    rw [Int.mul_ediv_cancel _ (by omega), zk, Int.mul_ediv_mul_of_pos_left _ _ (by omega), Int.natCast_ediv, eu]
/-! ### the first word above -/
/-- the words of a length that begin from a place on -/
def abv (us : Rw) (k : Nat) (e : Int) : List Rw := (wl (us.take k)).filter fun w => decide (e ≤ pos us w)
theorem abv_mem {us : Rw} (hu : U us) {k : Nat} (hk : k ≤ us.length) {e : Int} {w : Rw} (h : w ∈ abv us k e) : Wo us w ∧ w.length = k ∧ e ≤ pos us w ∧ ∃ i : Int, pos us w = i * pick (zs us) k := by
  unfold abv at h
  obtain ⟨h1, h2⟩ := List.mem_filter.1 h
  rw [wl_is hu hk] at h1
  obtain ⟨i, hi, rfl⟩ := List.mem_map.1 h1
  have hi := List.mem_range.1 hi
  have zp := zs_pos us hu k hk
  have m := nw_mul hu hk
  have lt : (i : Int) * pick (zs us) k < pick (zs us) 0 := by
    rw [← m]
    exact Int.mul_lt_mul_of_pos_right (by omega) (by omega)
  obtain ⟨p1, p⟩ := wd_ok hu hk (Int.mul_nonneg (by omega) (by omega)) lt
  rw [Int.mul_ediv_cancel _ (by omega)] at p
  exact ⟨p1, wd_len _ _ _ _, of_decide_eq_true h2, i, p⟩
/-! ### where stretches end -/
def en (z : Rw) (e : Int) (ks : List Nat) : Int := ks.foldl (fun e k => nx e (pick z k) + pick z k) e
end Hx

namespace Hx
open PySem PySem.Spec PyProof.Rows L2 RZ Yx Rm
variable [Tb] [Cb]
theorem szs_zs : ∀ us : Rw, szs us = zs us
  | [] => rfl
  | u :: us => by show (hd (szs us) * u) :: szs us = (u * hd (zs us)) :: zs us; rw [szs_zs us, Int.mul_comm]
section
variable {K : PySem.W.Frag} {x : Option Gst} {us row : Rw} {Q : D → Option Gst → Prop} {E : XE} {aBadUnits aBadParameter aNoRow : Addr}
end
end Hx

namespace Yx
open PySem PySem.Spec PyProof.Rows L2 RZ
section
variable {tb : Tb} {cb : Cb} {K : PySem.W.Frag} {σ : Sg} {x : Option Gst} {E : XE} {Q : D → Option Gst → Prop} {e : SE K B0} {i : Nat}
theorem SE.loan_w {hB : B0 = B0} : wR ((SE.loan i e hB).f σ x) Q E = (match sown σ i with
    | none => False
    | some ds => noLs ds = true ∧ lnSg (σ.set i none) = true ∧ wR (e.f (σ.set i (some (.dat (.lst ds)))) x) (fun d x1 => lnOk ds d = true ∧ x1 = x ∧ Q d x1) (fun c y x1 => lnY ds y = true ∧ x1 = x ∧ E c y x1)) := by
  unfold SE.loan
  dsimp only
  cases sown σ i with
  | none => exact wR_bad
  | some ds =>
    dsimp only
    by_cases c1 : noLs ds = true ∧ lnSg (σ.set i none) = true
    · rw [if_pos c1]
      have : ∀ p : Prop, (noLs ds = true ∧ lnSg (σ.set i none) = true ∧ p) = p := fun p => propext ⟨fun h => h.2.2, fun h => ⟨c1.1, c1.2, h⟩⟩
      rw [this]
      cases e.f (σ.set i (some (.dat (.lst ds)))) x with
      | bad => exact wR_bad.trans wR_bad.symm
      | ok d x1 =>
        refine Eq.trans ?_ wR_ok.symm
        dsimp only
        by_cases c : lnOk ds d = true ∧ x1 = x
        · rw [if_pos c]; exact wR_ok.trans (propext ⟨fun h => ⟨c.1, c.2, h⟩, fun h => h.2.2⟩)
        · rw [if_neg c]; exact wR_bad.trans (propext ⟨False.elim, fun h => c ⟨h.1, h.2.1⟩⟩)
      | exc C y x1 =>
        refine Eq.trans ?_ wR_exc.symm
        dsimp only
        by_cases c : lnY ds y = true ∧ x1 = x
        · rw [if_pos c]; exact wR_exc.trans (propext ⟨fun h => ⟨c.1, c.2, h⟩, fun h => h.2.2⟩)
        · rw [if_neg c]; exact wR_bad.trans (propext ⟨False.elim, fun h => c ⟨h.1, h.2.1⟩⟩)
    · rw [if_neg c1]
      exact wR_bad.trans (propext ⟨False.elim, fun h => c1 ⟨h.1, h.2.1⟩⟩)
end
theorem lnSg_nil : lnSg [] = true := rfl
theorem lnSg_none {σ : Sg} : lnSg (none :: σ) = lnSg σ := by unfold lnSg; rw [List.all_cons]; rfl
theorem lnSg_dat {σ : Sg} {d : D} : lnSg (some (.dat d) :: σ) = lnSg σ := by unfold lnSg; rw [List.all_cons]; rfl
theorem lnSg_own {σ : Sg} {l : List D} : lnSg (some (.own l) :: σ) = (noLs l && lnSg σ) := by unfold lnSg; rw [List.all_cons]; rfl
theorem noLs_nil : noLs [] = true := rfl
theorem lnOk_bl {ds : List D} {b : Bool} : lnOk ds (.bl b) = true := rfl
theorem lnOk_int {ds : List D} {b : Int} : lnOk ds (.int b) = true := rfl
theorem lnOk_non {ds : List D} : lnOk ds .non = true := rfl
theorem lnOk_lst {ds l : List D} : lnOk ds (.lst l) = (noLs l && !D.beqs l ds) := rfl
theorem lnY_none {ds : List D} : lnY ds none = true := rfl
end Yx
namespace Hx
open PySem PySem.Spec PyProof.Rows L2 RZ Yx Rm
theorem noLs_ints : ∀ r : Rw, noLs (r.map D.int) = true
  | [] => rfl
  | a :: r => by rw [List.map_cons, noLs, noLs_ints r]; rfl
theorem noLs_rows : ∀ L : List Rw, noLs (L.map dR) = true
  | [] => rfl
  | r :: L => by rw [List.map_cons, noLs, noLs_rows L, dR, noL, noLs_ints]; rfl
theorem noLs_rows2 (L : List Rw) : noLs (L.map fun r => D.tup (r.map D.int)) = true := noLs_rows L
end Hx
namespace Yx
open PySem PySem.Spec PyProof.Rows L2 RZ Rm
theorem lnOk_row {ds : List D} {r : Rw} : lnOk ds (.tup (r.map D.int)) = true := by show noL (.tup (r.map D.int)) = true; rw [noL, Hx.noLs_ints]
end Yx
local macro_rules | `(tactic| simp_arith [$xs,*]) => `(tactic| simp only [↓Yx.SE.loan_w, Yx.lnSg_nil, Yx.lnSg_none, Yx.lnSg_dat, Yx.lnSg_own, Hx.noLs_rows, Hx.noLs_rows2, Hx.noLs_ints, Yx.noLs_nil, Yx.lnOk_bl, Yx.lnOk_int, Yx.lnOk_non, Yx.lnOk_lst, Yx.lnOk_row, Yx.lnY_none, true_and, and_true, and_self, Yx.startS, List.length_cons, List.length_nil, Nat.zero_add, Nat.reduceAdd, if_true, List.map_cons, List.map_nil, Nat.sub_self, Nat.reduceSub, Yx.rep0, Yx.rep1, List.append_nil, List.nil_append, List.cons_append, Yx.sget_z, Yx.sget_s, Yx.sown_z, Yx.sown_s, Yx.ofo_some, Yx.ofo_none, Yx.bind_ok, Yx.bind_bad, Yx.toO_ok, Yx.then_nx, Yx.then_rt, List.set_cons_zero, List.set_cons_succ, List.getElem?_cons_zero, List.getElem?_cons_succ, Nat.reduceLT, Bool.false_eq_true, if_false, Yx.addI, Yx.subI, Yx.modI, Yx.divI, Yx.ltI, Yx.leI, Yx.gtI, Yx.geI, Yx.negI, Yx.intI, Yx.lenI, Yx.tupI, Yx.listI, Yx.isSt_y, Yx.ixL, Yx.ixT, decide_eq_true_eq, Int.reduceLT, Yx.szOk_lit, Nat.reduceLeDiff, Yx.atI_0, Yx.atI_1, Yx.atI_2, Yx.atI_last, List.getLast_cons_cons, List.getLast_singleton, Yx.addT, Yx.rev0, Yx.rev1, Yx.rev2, Yx.rev3, Yx.calm_nil, Yx.calm_none, Yx.calm_dat, Yx.wipeS, Yx.rngD0, Yx.rngD_s, Int.toNat_natCast, Int.reduceToNat, Int.reduceLE, Int.reducePow, Int.reduceNeg, Hx.dR_eq, Hx.sl0, Hx.sl1, Hx.sl2, Hx.sl3, Hx.rev4, Hx.atD_eq, Hx.atI_3, Hx.is_int, Hx.is_bool, Hx.is_tuple, Hx.is_tuple_l, Hx.is_tuple_n, Hx.is_tuple_i, Hx.is_tuple_s, Hx.is_tuple_b, Hx.is_int_l, Hx.is_int_t, Hx.is_int_n, Hx.is_int_s, Hx.is_int_b, Hx.is_bool_b, Hx.allT0, Hx.allT1, Hx.allT2, Hx.allT3, Hx.allT4, Hx.c0, Hx.c1, Hx.c2, Hx.c3, Hx.c4, Hx.neI, Hx.eqI, Hx.isI, Hx.isT, Hx.isN, Hx.min2I, Hx.max2I, Hx.ixN_01, Hx.ixN_02, Hx.ixN_03, Hx.ixN_04, Hx.ixN_12, Hx.ixN_13, Hx.ixN_14, Hx.ixN_23, Hx.ixN_24, Hx.ixN_34, Yx.seqD, Yx.zipD, Yx.setAll, List.zip_cons_cons, List.zip_nil_left, List.zip_nil_right, decide_true, decide_false, Bool.not_true, Bool.not_false, Int.reduceAdd, Int.reduceSub, Int.reduceMul, Int.reduceEq, Int.zero_add, Yx.then_exc, Yx.toO_exc, Yx.bind_exc, List.reverse_cons, List.reverse_nil, Bool.and_true, Bool.true_and, Bool.and_false, Bool.false_and, Nat.reduceMul, List.flatten_cons, List.flatten_nil, Bool.and_self, Bool.or_true, Bool.or_false, Bool.true_or, Bool.false_or, ↓Yx.SE.var_w, ↓Yx.SE.con_w, ↓Yx.SE.bin_w, ↓Yx.SE.un_w, ↓Yx.SE.chain_w, ↓Yx.SA.nil_w, ↓Yx.SA.cons_w, ↓Yx.SE.tup_w, ↓Yx.SN.lst_w, ↓Yx.SE.ofN_w, ↓Yx.SQ.of_w, ↓Yx.SQ.own_w, ↓Yx.SQ.ofN_w, ↓Yx.SE.call_w, ↓Yx.SE.seq_w, ↓Yx.SN.seq_w, ↓Yx.SE.ixO_w, ↓Yx.SO.none_w, ↓Yx.SO.some_w, ↓Yx.SE.sl_w, ↓Yx.ST.val_w, ↓Yx.ST.tru_w, ↓Yx.ST.not_w, ↓Yx.ST.and_w, ↓Yx.ST.or_w, ↓Yx.SE.andV_w, ↓Yx.SE.orV_w, ↓Yx.SE.notV_w, ↓Yx.SE.ite_w, ↓Yx.SI.lst_w, ↓Yx.SI.tup_w, ↓Yx.SI.rng1_w, ↓Yx.SI.rng2_w, ↓Yx.SI.zip_w, ↓Yx.SI.enumL_w, ↓Yx.SN.comp_w, ↓Yx.SN.comp2_w, ↓Yx.SS.skip_w, ↓Yx.SS.seq_w, ↓Yx.SS.asg_w, ↓Yx.SS.asgO_w, ↓Yx.SS.expr_w, ↓Yx.SS.append_w, ↓Yx.SS.setix_w, ↓Yx.SS.ret_w, ↓Yx.SS.ite_w, ↓Yx.SS.brk_w, ↓Yx.SS.cont_w, ↓Yx.SS.frz_w, ↓Yx.SS.for_w, ↓Yx.SS.while_w, ↓Yx.SE.callF_w, ↓Yx.SS.raise1_w, ↓Yx.SS.raise0_w, ↓Yx.SE.lam_w, ↓Yx.SE.tupOf_w, ↓Yx.SE.isi_w, ↓Yx.SI.zipG_w, ↓Yx.SI.enumZ_w, ↓Yx.SI.enum_w, ↓Yx.SI.zip3G_w, ↓Yx.SE.stAt_w, ↓Yx.SE.stCells_w, ↓Yx.SE.stLeft_w, ↓Yx.SS.stAt_w, ↓Yx.SS.stLeft_w, ↓Yx.SE.inDic_w, ↓Yx.SS.dput_w, ↓Yx.SX.nil_w, ↓Yx.SX.cons_w, ↓Yx.SX.consN_w, ↓Yx.SX.consD_w, ↓Yx.SS.par2_w, ↓Yx.SS.par3_w, ↓Yx.SE.rv_w, ↓Yx.SI.any_w, ↓Yx.SE.rvl_w, ↓Yx.ST.tru1_w, ↓Yx.SE.callV_w, ↓Yx.SN.rep_w, ↓Yx.SN.cat_w, ↓Yx.SI.rngDn_w, ↓Yx.SA.star_w, ↓Yx.SI.rev_w, ↓Yx.SI.rvr1_w, ↓Yx.SI.rvr2_w, ↓Yx.SE.inOwn_w, ↓Yx.SE.rvB_w, ↓Yx.SN.lrg1_w, ↓Yx.SS.extend_w, ↓Yx.SS.popTo_w, ↓Yx.SS.popG_w, ↓Yx.ST.truO_w, ↓Yx.SE.int_w, ↓Yx.SE.bl_w, ↓Yx.SE.non_w, ↓Yx.SE.str_w, ↓Yx.SE.ref_w, Yx.SG.name_f, Yx.SGs.nil_f, Yx.SGs.cons_f, Yx.SG.tup_f, ↓Yx.hole_w, ↓Yx.twoF_w, ↓Yx.wR_bind, ↓Yx.wO_toO, ↓Yx.wO_then, Yx.wR_bind, Yx.wO_toO, Yx.wO_then, Yx.sget_datS, Yx.wR_ok, Yx.wR_exc, Yx.wO_exc, ↓Yx.wO_try, Yx.wO_nx, Yx.wO_rt, Yx.wO_bk, Yx.wO_ct, Yx.wO_forN, ↓Yx.wO_forC, Yx.wR_compN, Yx.truD, List.isEmpty_cons, List.isEmpty_nil, $xs,*])

namespace Hx
open PySem PySem.Spec PyProof.Rows L2 RZ Yx
variable [Tb] [Cb]
end Hx

namespace Hx
open Rm Yx
variable [Tb] [Cb]
/-! ### words that are apart -/
def apB (a b : Rw) : Bool := !decide (a.take (min a.length b.length) = b.take (min a.length b.length))
theorem apart_iff : ∀ {us a b : Rw}, U us → Wo us a → Wo us b → (apB a b = true ↔ pos us a + wsz us a ≤ pos us b ∨ pos us b + wsz us b ≤ pos us a)
  | us, [], b, hu, _, hb => by
    obtain ⟨b1, b2⟩ := pos_bd hu hb
    have c := wsz_pos hu hb
    have e : pos us [] = 0 := by cases us <;> rfl
    have e2 : wsz us [] = pick (zs us) 0 := rfl
    rw [e, e2]
    have : apB [] b = false := by unfold apB; simp
    rw [this]
    constructor
    · intro h; cases h
    · intro h; omega
  | us, a :: x, [], hu, ha, _ => by
    obtain ⟨b1, b2⟩ := pos_bd hu ha
    have c := wsz_pos hu ha
    have e : pos us [] = 0 := by cases us <;> rfl
    have e2 : wsz us [] = pick (zs us) 0 := rfl
    rw [e, e2]
    have : apB (a :: x) [] = false := by unfold apB; simp
    rw [this]
    constructor
    · intro h; cases h
    · intro h; omega
  | u :: us, a :: x, b :: y, hu, ha, hb => by
    have ih := apart_iff hu.2 ha.2 hb.2
    obtain ⟨x1, x2⟩ := pos_bd hu.2 ha.2
    obtain ⟨y1, y2⟩ := pos_bd hu.2 hb.2
    have xs := wsz_pos hu.2 ha.2
    have ys := wsz_pos hu.2 hb.2
    have z := zs_pos us hu.2 0 (Nat.zero_le _)
    have em : min (a :: x).length (b :: y).length = min x.length y.length + 1 := by simp only [List.length_cons]; omega
    show (_ ↔ a * pick (zs us) 0 + pos us x + wsz us x ≤ b * pick (zs us) 0 + pos us y ∨ b * pick (zs us) 0 + pos us y + wsz us y ≤ a * pick (zs us) 0 + pos us x)
    have e : apB (a :: x) (b :: y) = (!decide (a = b) || apB x y) := by
      unfold apB
      rw [em, List.take_succ_cons, List.take_succ_cons]
      by_cases c : a = b
      · subst c; simp
      · simp [c]
    rw [e]
    rcases Int.lt_trichotomy a b with c | c | c
    · have m : (a + 1) * pick (zs us) 0 ≤ b * pick (zs us) 0 := Int.mul_le_mul_of_nonneg_right (by omega) (by omega)
      rw [Int.add_mul] at m
      rw [decide_eq_false (by omega)]
      constructor
      · intro _; omega
      · intro _; rfl
    · subst c
      rw [decide_eq_true rfl, Bool.not_true, Bool.false_or, ih]
      omega
    · have m : (b + 1) * pick (zs us) 0 ≤ a * pick (zs us) 0 := Int.mul_le_mul_of_nonneg_right (by omega) (by omega)
      rw [Int.add_mul] at m
      rw [decide_eq_false (by omega)]
      constructor
      · intro _; omega
      · intro _; rfl
  | [], _ :: _, _, _, ha, _ => ha.elim
/-! ### how much is taken -/
/-! ### words that are apart from others -/
def opn (us : Rw) (k : Nat) (T : List Rw) : List Rw := (wl (us.take k)).filter fun w => T.all fun t => apB w t
theorem wl_wo {us : Rw} (hu : U us) {k : Nat} (hk : k ≤ us.length) {w : Rw} (h : w ∈ wl (us.take k)) : Wo us w ∧ w.length = k := by
  have h0 : w ∈ abv us k 0 := by
    unfold abv
    refine List.mem_filter.2 ⟨h, ?_⟩
    rw [wl_is hu hk] at h
    obtain ⟨i, hi, rfl⟩ := List.mem_map.1 h
    have hi := List.mem_range.1 hi
    have m := nw_mul hu hk
    have zp := zs_pos us hu k hk
    have lt : (i : Int) * pick (zs us) k < pick (zs us) 0 := by
      rw [← m]
      exact Int.mul_lt_mul_of_pos_right (by omega) (by omega)
    obtain ⟨p1, p⟩ := wd_ok hu hk (Int.mul_nonneg (by omega) (by omega)) lt
    exact decide_eq_true (pos_bd hu p1).1
  obtain ⟨h1, h2, _⟩ := abv_mem hu hk h0
  exact ⟨h1, h2⟩
/-! ### words one behind the other -/
structure Tile (us : Rw) (T : List Rw) (e : Int) : Prop where
  wo : ∀ t ∈ T, Wo us t ∧ pos us t + wsz us t ≤ e
  cv : ∀ p : Int, 0 ≤ p → p < e → ∃ t ∈ T, pos us t ≤ p ∧ p < pos us t + wsz us t
theorem Tile.opn {us : Rw} (hu : U us) {k : Nat} (hk : k ≤ us.length) {T : List Rw} {e : Int} (h : Tile us T e) : opn us k T = abv us k e := by
  unfold Hx.opn abv
  refine List.filter_congr fun w hw => ?_
  obtain ⟨w1, w2⟩ := wl_wo hu hk hw
  obtain ⟨b1, b2⟩ := pos_bd hu w1
  have ws := wsz_pos hu w1
  rw [Bool.eq_iff_iff, List.all_eq_true, decide_eq_true_eq]
  constructor
  · intro ha
    apply Classical.byContradiction
    intro c
    obtain ⟨t, ht, h1, h2⟩ := h.cv (pos us w) b1 (by omega)
    have := (apart_iff hu w1 (h.wo t ht).1).1 (ha t ht)
    omega
  · intro hle t ht
    obtain ⟨t1, t2⟩ := h.wo t ht
    exact (apart_iff hu w1 t1).2 (by omega)
theorem Tile.nil (us : Rw) : Tile us [] 0 := ⟨nofun, fun p h1 h2 => by omega⟩
/-! ### the lengths of a row's pieces -/
end Hx

namespace Hx
open PySem PySem.Spec PyProof.Rows L2 RZ Yx Rm
variable [Tb] [Cb]
section
variable {K : PySem.W.Frag} {x : Option Gst} {us row : Rw} {Q : D → Option Gst → Prop} {E : XE} {aBadUnits aBadRow aNoRow aUnlike aBadRows aBadWords aTooGreat : Addr}
theorem at_map {γ : Type} (c : γ → D) {L : List γ} {k : Nat} (h : k < L.length) : atI (L.map c) (k : Int) = some (c L[k]) := by
  rw [atI_nat (by rw [List.length_map]; exact h), List.getElem_map]
end
end Hx

namespace Hx
open PySem PySem.Spec PyProof.Rows L2 RZ Yx
variable [Tb] [Cb]
def S_need_amount (K : PySem.W.Frag) (aBadParameter aBadRow aBadUnits : Addr) : SS K := SS.seq (SS.expr (SE.callF (m_need_row K aBadRow aBadUnits) (SA.cons (SE.var 0) (SA.cons (SE.var 1) (SA.nil))))) (SS.seq (SS.expr (SE.callF (m_need_row K aBadRow aBadUnits) (SA.cons (SE.var 0) (SA.cons (SE.var 2) (SA.nil))))) (SS.seq (SS.ite (ST.not (ST.val (SE.callF (m_is_whole K) (SA.cons (SE.var 3) (SA.cons (SE.un (opNeg K) (SE.bin (opPow K) (SE.int 10) (SE.int 60))) (SA.cons (SE.bin (opPow K) (SE.int 10) (SE.int 60)) (SA.nil))))))) (SS.seq (SS.raise1 aBadParameter "value" (SE.var 3)) (SS.skip)) (SS.skip)) (SS.skip)))
def m_need_amount (K : PySem.W.Frag) (aBadParameter aBadRow aBadUnits : Addr) : MF := mOf 4 4 (S_need_amount K aBadParameter aBadRow aBadUnits).f
def S_totals_from (K : PySem.W.Frag) (aBadUnits : Addr) : SS K := SS.seq (SS.asgO 2 (SN.lst (SA.cons (SE.int 0) (SA.nil)))) (SS.seq (SS.for (SI.zipG (SE.rv (SE.callF (m_sizes K aBadUnits) (SA.cons (SE.var 0) (SA.nil))) (SO.none) (SO.none)) (SE.rv (SE.var 1) (SO.none) (SO.none))) (SG.tup 2 (SGs.cons (SG.name K 3) (SGs.cons (SG.name K 4) (SGs.nil K)))) (SS.seq (SS.append 2 (SE.bin (opAdd K) (SE.ixO 2 (SE.un (opNeg K) (SE.int 1))) (SE.bin (opMul K) (SE.var 3) (SE.var 4)))) (SS.skip))) (SS.frz 2 (SS.seq (SS.ret (SE.rvl (SE.var 2))) (SS.skip))))
def m_totals_from (K : PySem.W.Frag) (aBadUnits : Addr) : MF := mOf 2 5 (S_totals_from K aBadUnits).f
def S_blocked (K : PySem.W.Frag) (aBadUnits : Addr) : SS K := SS.seq (SS.par2 6 7 (SX.cons (SE.callF (m_totals_from K aBadUnits) (SA.cons (SE.var 0) (SA.cons (SE.var 1) (SA.nil)))) (SX.cons (SE.callF (m_totals_from K aBadUnits) (SA.cons (SE.var 0) (SA.cons (SE.var 2) (SA.nil)))) (SX.nil)))) (SS.seq (SS.asg (SG.name K 4) (SE.callF (m_sizes K aBadUnits) (SA.cons (SE.var 0) (SA.nil)))) (SS.seq (SS.for (SI.rvr2 (SE.int 1) (SE.seq (opLen K) (SQ.of (SE.var 4)))) (SG.name K 5) (SS.seq (SS.ite (ST.val (SE.bin (opLt K) (SE.bin (opMul K) (SE.bin (opDiv K) (SE.bin (opAdd K) (SE.var 3) (SE.bin (opIx K) (SE.var 7) (SE.var 5))) (SE.bin (opIx K) (SE.var 4) (SE.bin (opSub K) (SE.var 5) (SE.int 1)))) (SE.bin (opIx K) (SE.var 4) (SE.bin (opSub K) (SE.var 5) (SE.int 1)))) (SE.bin (opSub K) (SE.var 3) (SE.bin (opIx K) (SE.var 6) (SE.var 5))))) (SS.seq (SS.ret (SE.var 5)) (SS.skip)) (SS.skip)) (SS.skip))) (SS.seq (SS.ret (SE.ite (ST.val (SE.chain (opLe K) (opLe K) (SE.un (opNeg K) (SE.bin (opIx K) (SE.var 7) (SE.int 0))) (SE.var 3) (SE.bin (opIx K) (SE.var 6) (SE.int 0)))) (SE.non) (SE.int 0))) (SS.skip))))
def m_blocked (K : PySem.W.Frag) (aBadUnits : Addr) : MF := mOf 4 8 (S_blocked K aBadUnits).f
def S_can_pay (K : PySem.W.Frag) (aBadParameter aBadRow aBadUnits : Addr) : SS K := SS.seq (SS.expr (SE.callF (m_need_amount K aBadParameter aBadRow aBadUnits) (SA.cons (SE.var 0) (SA.cons (SE.var 1) (SA.cons (SE.var 2) (SA.cons (SE.var 3) (SA.nil))))))) (SS.seq (SS.ret (SE.bin (opIs K) (SE.callF (m_blocked K aBadUnits) (SA.cons (SE.var 0) (SA.cons (SE.var 1) (SA.cons (SE.var 2) (SA.cons (SE.var 3) (SA.nil)))))) (SE.non))) (SS.skip))
def m_can_pay (K : PySem.W.Frag) (aBadParameter aBadRow aBadUnits : Addr) : MF := mOf 4 4 (S_can_pay K aBadParameter aBadRow aBadUnits).f
def S_blocked_unit (K : PySem.W.Frag) (aBadParameter aBadRow aBadUnits aNoRow : Addr) : SS K := SS.seq (SS.expr (SE.callF (m_need_amount K aBadParameter aBadRow aBadUnits) (SA.cons (SE.var 0) (SA.cons (SE.var 1) (SA.cons (SE.var 2) (SA.cons (SE.var 3) (SA.nil))))))) (SS.seq (SS.asg (SG.name K 4) (SE.callF (m_blocked K aBadUnits) (SA.cons (SE.var 0) (SA.cons (SE.var 1) (SA.cons (SE.var 2) (SA.cons (SE.var 3) (SA.nil))))))) (SS.seq (SS.ite (ST.val (SE.bin (opIs K) (SE.var 4) (SE.non))) (SS.seq (SS.raise0 aNoRow) (SS.skip)) (SS.skip)) (SS.seq (SS.ret (SE.var 4)) (SS.skip))))
def m_blocked_unit (K : PySem.W.Frag) (aBadParameter aBadRow aBadUnits aNoRow : Addr) : MF := mOf 4 5 (S_blocked_unit K aBadParameter aBadRow aBadUnits aNoRow).f
def S_law_purse (K : PySem.W.Frag) : SS K := SS.seq (SS.ret (SE.seq (opTuple K) (SQ.ofN (SN.comp [2] (SI.rng1 (SE.bin (opAdd K) (SE.seq (opLen K) (SQ.of (SE.var 1))) (SE.int 1))) (SG.name K 2) (ST.tru1) (SE.callF (m_law_draw K) (SA.cons (SE.var 0) (SA.cons (SE.int 3) (SA.nil)))) (ofb rfl))))) (SS.skip)
def m_law_purse (K : PySem.W.Frag) : MF := mOf 2 3 (S_law_purse K).f
def S_law_sums (K : PySem.W.Frag) : SS K := SS.seq (SS.newD 2 true) (SS.seq (SS.for (SI.any (SE.callF (m_law_parts K) (SA.cons (SE.var 1) (SA.nil)))) (SG.name K 3) (SS.seq (SS.dputK 2 (SE.callF (m_law_total K) (SA.cons (SE.var 0) (SA.cons (SE.var 3) (SA.nil)))) (SE.bl true)) (SS.skip))) (SS.frzD 2 (SS.seq (SS.ret (SE.var 2)) (SS.skip))))
def m_law_sums (K : PySem.W.Frag) : MF := mOf 2 4 (S_law_sums K).f
def S_law_paid (K : PySem.W.Frag) : SS K := SS.seq (SS.par2 4 5 (SX.consD0 true (SX.cons (SE.callF (m_law_sums K) (SA.cons (SE.var 0) (SA.cons (SE.var 2) (SA.nil)))) (SX.nil)))) (SS.seq (SS.for (SI.dct (SE.callF (m_law_sums K) (SA.cons (SE.var 0) (SA.cons (SE.var 1) (SA.nil))))) (SG.name K 3) (SS.seq (SS.for (SI.dct (SE.var 5)) (SG.name K 6) (SS.seq (SS.dputK 4 (SE.bin (opSub K) (SE.var 3) (SE.var 6)) (SE.bl true)) (SS.skip))) (SS.skip))) (SS.frzD 4 (SS.seq (SS.ret (SE.var 4)) (SS.skip))))
def m_law_paid (K : PySem.W.Frag) : MF := mOf 3 7 (S_law_paid K).f
def S_law_rests (K : PySem.W.Frag) : SS K := SS.seq (SS.par2 6 7 (SX.cons (SE.bin (opMul K) (SE.tup (SA.cons (SE.int 0) (SA.nil))) (SE.var 3)) (SX.cons (SE.bin (opIx K) (SE.callF (m_law_sizes K) (SA.cons (SE.var 0) (SA.nil))) (SE.bin (opSub K) (SE.var 3) (SE.int 1))) (SX.nil)))) (SS.seq (SS.newD 4 true) (SS.seq (SS.for (SI.dct (SE.callF (m_law_paid K) (SA.cons (SE.var 0) (SA.cons (SE.bin (opAdd K) (SE.var 6) (SE.sl (SE.var 1) (SO.some (SE.var 3)) (SO.none))) (SA.cons (SE.bin (opAdd K) (SE.var 6) (SE.sl (SE.var 2) (SO.some (SE.var 3)) (SO.none))) (SA.nil)))))) (SG.name K 5) (SS.seq (SS.dputK 4 (SE.bin (opMod K) (SE.call (opInt K) (SA.cons (SE.var 5) (SA.nil))) (SE.var 7)) (SE.bl true)) (SS.skip))) (SS.frzD 4 (SS.seq (SS.ret (SE.var 4)) (SS.skip)))))
def m_law_rests (K : PySem.W.Frag) : MF := mOf 4 8 (S_law_rests K).f
end Hx

namespace Yx
open PySem PySem.Spec PyProof.Rows L2 RZ
section
variable {tb : Tb} {cb : Cb} {K : PySem.W.Frag} {B : Bs} {σ : Sg} {x : Option Gst} {E : XE} {N Bk Ct : Sg → Option Gst → Prop} {T : D → Option Gst → Prop} {X : XO}
theorem SE.ixD_w {a e : SE K B} {Q : D → Option Gst → Prop} : wR ((SE.ixD a e).f σ x) Q E = wR ((a.f σ x).bind fun d x1 => (e.f σ x1).bind fun k x2 => match dGet d k with
    | some (some w) => .ok w x2
    | _ => .bad) Q E := rfl
theorem SE.inD_w {e a : SE K B} {no : Bool} {Q : D → Option Gst → Prop} : wR ((SE.inD e a no).f σ x) Q E = wR ((e.f σ x).bind fun k x1 => (a.f σ x1).bind fun d x2 => match dGet d k with
    | some o => .ok (.bl (if no = true then !o.isSome else o.isSome)) x2
    | none => .bad) Q E := rfl
theorem SE.ixOD_w {i : Nat} {e : SE K B} {Q : D → Option Gst → Prop} : wR ((SE.ixOD i e).f σ x) Q E = wR (match sdct σ i with
    | none => .bad
    | some d => (e.f σ x).bind fun k x1 => match dGet d k with
      | some (some w) => .ok w x1
      | _ => .bad) Q E := rfl
theorem SE.inOD_w {i : Nat} {e : SE K B} {no : Bool} {Q : D → Option Gst → Prop} : wR ((SE.inOD i e no).f σ x) Q E = wR (match sdct σ i with
    | none => .bad
    | some d => (e.f σ x).bind fun k x1 => match dGet d k with
      | some o => .ok (.bl (if no = true then !o.isSome else o.isSome)) x1
      | none => .bad) Q E := rfl
theorem SS.frzD_w {i : Nat} {s : SS K} : wO ((SS.frzD i s).f σ x) N T Bk Ct X = wO (match sdct σ i with
    | none => .bad
    | some d => s.f (σ.set i (some (.dat d))) x) N T Bk Ct X := rfl
theorem SS.newD_w {i : Nat} {ik : Bool} : wO ((SS.newD i ik : SS K).f σ x) N T Bk Ct X = N (σ.set i (some (if ik = true then .dik [] else .dic []))) x := wO_nx
theorem SX.consD0_w {ik : Bool} {r : SX K} {Q : List Sl → Option Gst → Prop} : wR ((SX.consD0 ik r).f σ x) Q E = wR ((r.f σ x).bind fun ss x2 => .ok ((if ik = true then .dik [] else .dic []) :: ss) x2) Q E := rfl
theorem SS.dputK_w {i : Nat} {ek e : SE K B0} : wO ((SS.dputK i ek e).f σ x) N T Bk Ct X = wO (match sdik σ i with
    | none => .bad
    | some l => (e.f σ x).toO σ fun d x1 => (ek.f σ x1).toO σ fun kd x2 => match kd with
      | .int k => if decide (l.length < 16777216) = true then .nx (σ.set i (some (.dik (Yx.dputK l k d)))) x2 else .bad
      | _ => .bad) N T Bk Ct X := rfl
theorem SI.dct_w {a : SE K B} {Q : List D → Option Gst → Prop} : wR ((SI.dct a).f σ x) Q E = wR ((a.f σ x).bind fun d x1 => match keysD d with
    | some ks => .ok ks x1
    | none => .bad) Q E := rfl
end
theorem SN.sortDK_w {tb : Tb} {cb : Cb} {K : PySem.W.Frag} {B : Bs} {σ : Sg} {x : Option Gst} {E : XE} {a : SE K B} {Q : List D → Option Gst → Prop} : wR ((SN.sortDK a).f σ x) Q E = wR ((a.f σ x).bind fun d x1 => match d with
    | .dcK l => if sortOk ((l.map (·.1)).map D.int) = true then .ok (((l.map (·.1)).mergeSort leK).map D.int) x1 else .bad
    | _ => .bad) Q E := rfl
theorem sdct_z {s : Sl} {σ : Sg} : sdct (some s :: σ) 0 = s.dct := rfl
theorem sdct_s {s : Option Sl} {σ : Sg} {i : Nat} : sdct (s :: σ) (i + 1) = sdct σ i := rfl
theorem sdik_z {l : List (Int × D)} {σ : Sg} : sdik (some (.dik l) :: σ) 0 = some l := rfl
theorem sdik_s {s : Option Sl} {σ : Sg} {i : Nat} : sdik (s :: σ) (i + 1) = sdik σ i := rfl
theorem sdic_z {l : List (List Int × D)} {σ : Sg} : sdic (some (.dic l) :: σ) 0 = some l := rfl
theorem sdic_s {s : Option Sl} {σ : Sg} {i : Nat} : sdic (s :: σ) (i + 1) = sdic σ i := rfl
theorem dct_dic {l : List (List Int × D)} : (Sl.dic l).dct = some (.dcT l) := rfl
theorem dct_dik {l : List (Int × D)} : (Sl.dik l).dct = some (.dcK l) := rfl
theorem keysD_K {l : List (Int × D)} : keysD (.dcK l) = some (l.map fun p => .int p.1) := rfl
theorem keysD_T {l : List (List Int × D)} : keysD (.dcT l) = some (l.map fun p => .tup (p.1.map D.int)) := rfl
theorem dGet_K {l : List (Int × D)} {i : Int} : dGet (.dcK l) (.int i) = some (dgetK l i) := rfl
theorem intsD_map : ∀ r : List Int, intsD (r.map D.int) = some r
  | [] => rfl
  | a :: r => by simp only [List.map_cons, intsD, intsD_map r]; rfl
theorem keyD_ints (r : List Int) : keyD (.tup (r.map D.int)) = some r := intsD_map r
theorem dGet_T {l : List (List Int × D)} {r : List Int} : dGet (.dcT l) (.tup (r.map D.int)) = some (dgetF l r) := by
  unfold dGet
  rw [keyD_ints]
end Yx
local macro_rules | `(tactic| simp_arith [$xs,*]) => `(tactic| simp only [↓Yx.SN.sortDK_w, ↓Yx.SE.ixD_w, ↓Yx.SE.inD_w, ↓Yx.SE.ixOD_w, ↓Yx.SE.inOD_w, ↓Yx.SS.frzD_w, ↓Yx.SS.newD_w, ↓Yx.SX.consD0_w, ↓Yx.SS.dputK_w, ↓Yx.SI.dct_w, Yx.sdct_z, Yx.sdct_s, Yx.sdik_z, Yx.sdik_s, Yx.sdic_z, Yx.sdic_s, Yx.dct_dic, Yx.dct_dik, Yx.keysD_K, Yx.keysD_T, Yx.dGet_K, Yx.dGet_T, Yx.keyD_ints, ↓Yx.SE.loan_w, Yx.lnSg_nil, Yx.lnSg_none, Yx.lnSg_dat, Yx.lnSg_own, Hx.noLs_rows, Hx.noLs_rows2, Hx.noLs_ints, Yx.noLs_nil, Yx.lnOk_bl, Yx.lnOk_int, Yx.lnOk_non, Yx.lnOk_lst, Yx.lnOk_row, Yx.lnY_none, true_and, and_true, and_self, Yx.startS, List.length_cons, List.length_nil, Nat.zero_add, Nat.reduceAdd, if_true, List.map_cons, List.map_nil, Nat.sub_self, Nat.reduceSub, Yx.rep0, Yx.rep1, List.append_nil, List.nil_append, List.cons_append, Yx.sget_z, Yx.sget_s, Yx.sown_z, Yx.sown_s, Yx.ofo_some, Yx.ofo_none, Yx.bind_ok, Yx.bind_bad, Yx.toO_ok, Yx.then_nx, Yx.then_rt, List.set_cons_zero, List.set_cons_succ, List.getElem?_cons_zero, List.getElem?_cons_succ, Nat.reduceLT, Bool.false_eq_true, if_false, Yx.addI, Yx.subI, Yx.modI, Yx.divI, Yx.ltI, Yx.leI, Yx.gtI, Yx.geI, Yx.negI, Yx.intI, Yx.lenI, Yx.tupI, Yx.listI, Yx.isSt_y, Yx.ixL, Yx.ixT, decide_eq_true_eq, Int.reduceLT, Yx.szOk_lit, Nat.reduceLeDiff, Yx.atI_0, Yx.atI_1, Yx.atI_2, Yx.atI_last, List.getLast_cons_cons, List.getLast_singleton, Yx.addT, Yx.rev0, Yx.rev1, Yx.rev2, Yx.rev3, Yx.calm_nil, Yx.calm_none, Yx.calm_dat, Yx.wipeS, Yx.rngD0, Yx.rngD_s, Int.toNat_natCast, Int.reduceToNat, Int.reduceLE, Int.reducePow, Int.reduceNeg, Hx.dR_eq, Hx.sl0, Hx.sl1, Hx.sl2, Hx.sl3, Hx.rev4, Hx.atD_eq, Hx.atI_3, Hx.is_int, Hx.is_bool, Hx.is_tuple, Hx.is_tuple_l, Hx.is_tuple_n, Hx.is_tuple_i, Hx.is_tuple_s, Hx.is_tuple_b, Hx.is_int_l, Hx.is_int_t, Hx.is_int_n, Hx.is_int_s, Hx.is_int_b, Hx.is_bool_b, Hx.allT0, Hx.allT1, Hx.allT2, Hx.allT3, Hx.allT4, Hx.c0, Hx.c1, Hx.c2, Hx.c3, Hx.c4, Hx.neI, Hx.eqI, Hx.isI, Hx.isT, Hx.isN, Hx.min2I, Hx.max2I, Hx.ixN_01, Hx.ixN_02, Hx.ixN_03, Hx.ixN_04, Hx.ixN_12, Hx.ixN_13, Hx.ixN_14, Hx.ixN_23, Hx.ixN_24, Hx.ixN_34, Yx.seqD, Yx.zipD, Yx.setAll, List.zip_cons_cons, List.zip_nil_left, List.zip_nil_right, decide_true, decide_false, Bool.not_true, Bool.not_false, Int.reduceAdd, Int.reduceSub, Int.reduceMul, Int.reduceEq, Int.zero_add, Yx.then_exc, Yx.toO_exc, Yx.bind_exc, List.reverse_cons, List.reverse_nil, Bool.and_true, Bool.true_and, Bool.and_false, Bool.false_and, Nat.reduceMul, List.flatten_cons, List.flatten_nil, Bool.and_self, Bool.or_true, Bool.or_false, Bool.true_or, Bool.false_or, ↓Yx.SE.var_w, ↓Yx.SE.con_w, ↓Yx.SE.bin_w, ↓Yx.SE.un_w, ↓Yx.SE.chain_w, ↓Yx.SA.nil_w, ↓Yx.SA.cons_w, ↓Yx.SE.tup_w, ↓Yx.SN.lst_w, ↓Yx.SE.ofN_w, ↓Yx.SQ.of_w, ↓Yx.SQ.own_w, ↓Yx.SQ.ofN_w, ↓Yx.SE.call_w, ↓Yx.SE.seq_w, ↓Yx.SN.seq_w, ↓Yx.SE.ixO_w, ↓Yx.SO.none_w, ↓Yx.SO.some_w, ↓Yx.SE.sl_w, ↓Yx.ST.val_w, ↓Yx.ST.tru_w, ↓Yx.ST.not_w, ↓Yx.ST.and_w, ↓Yx.ST.or_w, ↓Yx.SE.andV_w, ↓Yx.SE.orV_w, ↓Yx.SE.notV_w, ↓Yx.SE.ite_w, ↓Yx.SI.lst_w, ↓Yx.SI.tup_w, ↓Yx.SI.rng1_w, ↓Yx.SI.rng2_w, ↓Yx.SI.zip_w, ↓Yx.SI.enumL_w, ↓Yx.SN.comp_w, ↓Yx.SN.comp2_w, ↓Yx.SS.skip_w, ↓Yx.SS.seq_w, ↓Yx.SS.asg_w, ↓Yx.SS.asgO_w, ↓Yx.SS.expr_w, ↓Yx.SS.append_w, ↓Yx.SS.setix_w, ↓Yx.SS.ret_w, ↓Yx.SS.ite_w, ↓Yx.SS.brk_w, ↓Yx.SS.cont_w, ↓Yx.SS.frz_w, ↓Yx.SS.for_w, ↓Yx.SS.while_w, ↓Yx.SE.callF_w, ↓Yx.SS.raise1_w, ↓Yx.SS.raise0_w, ↓Yx.SE.lam_w, ↓Yx.SE.tupOf_w, ↓Yx.SE.isi_w, ↓Yx.SI.zipG_w, ↓Yx.SI.enumZ_w, ↓Yx.SI.enum_w, ↓Yx.SI.zip3G_w, ↓Yx.SE.stAt_w, ↓Yx.SE.stCells_w, ↓Yx.SE.stLeft_w, ↓Yx.SS.stAt_w, ↓Yx.SS.stLeft_w, ↓Yx.SE.inDic_w, ↓Yx.SS.dput_w, ↓Yx.SX.nil_w, ↓Yx.SX.cons_w, ↓Yx.SX.consN_w, ↓Yx.SX.consD_w, ↓Yx.SS.par2_w, ↓Yx.SS.par3_w, ↓Yx.SE.rv_w, ↓Yx.SI.any_w, ↓Yx.SE.rvl_w, ↓Yx.ST.tru1_w, ↓Yx.SE.callV_w, ↓Yx.SN.rep_w, ↓Yx.SN.cat_w, ↓Yx.SI.rngDn_w, ↓Yx.SA.star_w, ↓Yx.SI.rev_w, ↓Yx.SI.rvr1_w, ↓Yx.SI.rvr2_w, ↓Yx.SE.inOwn_w, ↓Yx.SE.rvB_w, ↓Yx.SN.lrg1_w, ↓Yx.SS.extend_w, ↓Yx.SS.popTo_w, ↓Yx.SS.popG_w, ↓Yx.ST.truO_w, ↓Yx.SE.int_w, ↓Yx.SE.bl_w, ↓Yx.SE.non_w, ↓Yx.SE.str_w, ↓Yx.SE.ref_w, Yx.SG.name_f, Yx.SGs.nil_f, Yx.SGs.cons_f, Yx.SG.tup_f, ↓Yx.hole_w, ↓Yx.twoF_w, ↓Yx.wR_bind, ↓Yx.wO_toO, ↓Yx.wO_then, Yx.wR_bind, Yx.wO_toO, Yx.wO_then, Yx.sget_datS, Yx.wR_ok, Yx.wR_exc, Yx.wO_exc, ↓Yx.wO_try, Yx.wO_nx, Yx.wO_rt, Yx.wO_bk, Yx.wO_ct, Yx.wO_forN, ↓Yx.wO_forC, Yx.wR_compN, Yx.truD, List.isEmpty_cons, List.isEmpty_nil, $xs,*])

namespace Hx
open PySem PySem.Spec PyProof.Rows L2 RZ Yx Rm
variable [Tb] [Cb]
/-! # what two purses can pay -/
/-- a row's sum by the sizes -/
def dt : Rw → Rw → Int
  | u :: us, a :: r => a * hd (zs (u :: us)) + dt us r
  | [], a :: _ => a
  | _, [] => 0
theorem tot_dt : ∀ {us r : Rw} {c : Int}, r.length = us.length + 1 → tot c us r = c * hd (zs us) + dt us r
  | u :: us, a :: r, c, h => by
    have ih := tot_dt (us := us) (r := r) (c := u * (c + a)) (by simpa using h)
    show tot (u * (c + a)) us r = c * (u * hd (zs us)) + (a * (u * hd (zs us)) + dt us r)
    rw [ih, ← Int.add_assoc, ← Int.add_mul, Int.mul_comm u (c + a), Int.mul_assoc]
  | [], [a], c, _ => by show c + a = c * 1 + a; omega
  | [], [], _, h => by simp at h
  | _ :: _, [], _, h => by simp at h
  | [], _ :: _ :: _, _, h => by simp at h
theorem tot_dt0 {us r : Rw} (h : r.length = us.length + 1) : tot 0 us r = dt us r := by rw [tot_dt h]; omega
theorem zhd : ∀ {us : Rw}, U us → 1 ≤ hd (zs us) := fun {us} h => by
  have := zs_pos us h 0 (Nat.zero_le _)
  cases us <;> exact this
theorem dt_nn : ∀ {us r : Rw}, U us → NN r → 0 ≤ dt us r
  | u :: us, a :: r, hu, h => by
    have h1 := zhd (us := u :: us) hu
    have h2 := dt_nn (us := us) (r := r) hu.2 h.2
    have h3 : 0 ≤ a * hd (zs (u :: us)) := Int.mul_nonneg h.1 (by omega)
    show 0 ≤ a * hd (zs (u :: us)) + dt us r
    omega
  | [], a :: _, _, h => h.1
  | [], [], _, _ => by show (0 : Int) ≤ 0; omega
  | _ :: _, [], _, _ => by show (0 : Int) ≤ 0; omega
theorem dt_mono : ∀ {us p r : Rw}, U us → Le p r → dt us p ≤ dt us r
  | u :: us, a :: p, b :: r, hu, h => by
    have h1 := zhd (us := u :: us) hu
    have h2 := dt_mono (us := us) (p := p) (r := r) hu.2 h.2
    have h3 : a * hd (zs (u :: us)) ≤ b * hd (zs (u :: us)) := Int.mul_le_mul_of_nonneg_right h.1 (by omega)
    show a * hd (zs (u :: us)) + dt us p ≤ b * hd (zs (u :: us)) + dt us r
    omega
  | [], a :: p, b :: r, _, h => h.1
  | [], [], [], _, _ => Int.le_refl _
  | _ :: _, [], [], _, _ => Int.le_refl _
  | _, [], _ :: _, _, h => h.elim
  | _, _ :: _, [], _, h => h.elim
/-- some lot of the one less some lot of the other -/
def Md (us r q : Rw) (t : Int) : Prop := ∃ p o, (NN p ∧ Le p r) ∧ (NN o ∧ Le o q) ∧ t = dt us p - dt us o
/-- some multiple of S between -/
def NB (A S g t : Int) : Prop := ∃ k : Int, A - g ≤ k * S ∧ k * S ≤ A + t
theorem nb_iff {A S g t : Int} (hS : 1 ≤ S) : NB A S g t ↔ A - g ≤ (A + t) / S * S := by
  constructor
  · rintro ⟨k, h1, h2⟩
    have : k ≤ (A + t) / S := by
      rw [Int.le_ediv_iff_mul_le (by omega)]; exact h2
    have := Int.mul_le_mul_of_nonneg_right this (c := S) (by omega)
    omega
  · intro h
    exact ⟨(A + t) / S, h, by have := Int.ediv_mul_le (A + t) (b := S) (by omega); omega⟩
/-- no unit below the first is in the way -/
def good (A : Int) : Rw → Rw → Rw → Prop
  | u :: us, _ :: r, _ :: q => NB A (hd (zs (u :: us))) (dt us r) (dt us q) ∧ good A us r q
  | _, _, _ => True
theorem Md_in {us r q : Rw} {t : Int} (hu : U us) (h : Md us r q t) : -dt us q ≤ t ∧ t ≤ dt us r := by
  obtain ⟨p, o, ⟨n1, l1⟩, ⟨n2, l2⟩, rfl⟩ := h
  have a1 := dt_mono hu l1
  have a2 := dt_mono hu l2
  have a3 := dt_nn hu n1
  have a4 := dt_nn hu n2
  omega
theorem Md_full {A : Int} : ∀ {us r q : Rw}, U us → NN r → NN q → r.length = us.length + 1 → q.length = us.length + 1 → good A us r q → ∀ t : Int, (∃ k, t - A = k * hd (zs us)) → -dt us q ≤ t → t ≤ dt us r → Md us r q t
  | u :: us, a :: r, b :: q, hu, nr, nq, h1, h2, g, t, ⟨k, hk⟩, lo, hi => by
    obtain ⟨⟨m, m1, m2⟩, g⟩ := g
    have ez : hd (zs (u :: us)) = u * hd (zs us) := rfl
    have zp := zhd (us := u :: us) hu
    generalize hS : hd (zs (u :: us)) = S at *
    have lo' : -(b * S + dt us q) ≤ t := by rw [← hS]; exact lo
    have hi' : t ≤ a * S + dt us r := by rw [← hS]; exact hi
    have na := nr.1
    have nb := nq.1
    -- a number of the first unit's pieces
    have key : ∃ n : Int, -b ≤ n ∧ n ≤ a ∧ -dt us q ≤ t - n * S ∧ t - n * S ≤ dt us r := by
      have e : (m + k) * S = m * S + k * S := Int.add_mul ..
      by_cases c1 : a < m + k
      · have := Int.mul_le_mul_of_nonneg_right (show a + 1 ≤ m + k by omega) (c := S) (by omega)
        rw [Int.add_mul] at this
        exact ⟨a, by omega, Int.le_refl _, by omega, by omega⟩
      · by_cases c2 : m + k < -b
        · have := Int.mul_le_mul_of_nonneg_right (show m + k + 1 ≤ -b by omega) (c := S) (by omega)
          rw [Int.add_mul] at this
          have e2 : -b * S = -(b * S) := Int.neg_mul ..
          exact ⟨-b, Int.le_refl _, by omega, by omega, by omega⟩
        · exact ⟨m + k, by omega, by omega, by omega, by omega⟩
    obtain ⟨n, n1, n2, n3, n4⟩ := key
    obtain ⟨p, o, ⟨p1, p2⟩, ⟨o1, o2⟩, e⟩ := Md_full (us := us) (r := r) (q := q) hu.2 nr.2 nq.2 (by simpa using h1) (by simpa using h2) g (t - n * S) ⟨(k - n) * u, by
      rw [Int.mul_assoc, ← ez, Int.sub_mul]; omega⟩ n3 n4
    refine ⟨max n 0 :: p, max (-n) 0 :: o, ⟨⟨by omega, p1⟩, by show max n 0 ≤ a ∧ _; exact ⟨by omega, p2⟩⟩, ⟨⟨by omega, o1⟩, by show max (-n) 0 ≤ b ∧ _; exact ⟨by omega, o2⟩⟩, ?_⟩
    show t = max n 0 * hd (zs (u :: us)) + dt us p - (max (-n) 0 * hd (zs (u :: us)) + dt us o)
    rw [hS]
    have e3 : max n 0 * S - max (-n) 0 * S = n * S := by rw [← Int.sub_mul]; congr 1; omega
    omega
  | [], [a], [b], _, nr, nq, _, _, _, t, _, lo, hi => by
    have na := nr.1
    have nb := nq.1
    have lo' : -b ≤ t := lo
    have hi' : t ≤ a := hi
    refine ⟨[max t 0], [max (-t) 0], ⟨⟨by omega, trivial⟩, ⟨by omega, trivial⟩⟩, ⟨⟨by omega, trivial⟩, ⟨by omega, trivial⟩⟩, ?_⟩
    show t = max t 0 - max (-t) 0
    omega
  | _ :: _, [], _, _, _, _, h, _, _, _, _, _, _ => by simp at h
  | _ :: _, _ :: _, [], _, _, _, _, h, _, _, _, _, _ => by simp at h
  | [], [], _, _, _, _, h, _, _, _, _, _, _ => by simp at h
  | [], _ :: _ :: _, _, _, _, _, h, _, _, _, _, _, _ => by simp at h
  | [], [_], [], _, _, _, _, h, _, _, _, _, _ => by simp at h
  | [], [_], _ :: _ :: _, _, _, _, _, h, _, _, _, _, _ => by simp at h
/-! ### unit by unit -/
/-- the unit i + 1 is in the way -/
def cb (A : Int) (us r q : Rw) (i : Nat) : Bool := decide ((A + dt (us.drop (i + 1)) (q.drop (i + 1))) / pick (zs us) i * pick (zs us) i < A - dt (us.drop (i + 1)) (r.drop (i + 1)))
/-- what the pieces of the unit i + 1 and below do not make -/
def Lost (A : Int) (us r q : Rw) (i : Nat) : Prop := ¬ ∃ x, Md (us.drop (i + 1)) (r.drop (i + 1)) (q.drop (i + 1)) x ∧ A % pick (zs us) i = x % pick (zs us) i
theorem U_drop : ∀ {us : Rw} (i : Nat), U us → U (us.drop i)
  | us, 0, h => h
  | [], i + 1, h => h
  | _ :: us, i + 1, h => U_drop (us := us) i h.2
theorem NN_drop : ∀ {r : Rw} (i : Nat), NN r → NN (r.drop i)
  | us, 0, h => h
  | [], i + 1, h => h
  | _ :: us, i + 1, h => NN_drop (r := us) i h.2
theorem pick_zs : ∀ {us : Rw} {i : Nat}, i ≤ us.length → pick (zs us) i = hd (zs (us.drop i))
  | us, 0, _ => by cases us <;> rfl
  | [], i + 1, h => by simp at h
  | u :: us, i + 1, h => pick_zs (us := us) (i := i) (by simpa using h)
theorem good_of {A : Int} : ∀ {us r q : Rw}, U us → r.length = us.length + 1 → q.length = us.length + 1 → (∀ i, i < us.length → cb A us r q i = false) → good A us r q
  | u :: us, a :: r, b :: q, hu, h1, h2, h => by
    refine ⟨?_, good_of hu.2 (by simpa using h1) (by simpa using h2) fun i hi => h (i + 1) (by simpa using hi)⟩
    have h0 := h 0 (by simp)
    rw [nb_iff (zhd (us := u :: us) hu)]
    have := of_decide_eq_false h0
    have e : pick (zs (u :: us)) 0 = hd (zs (u :: us)) := rfl
    rw [e] at this
    simp only [List.drop_succ_cons, List.drop_zero] at this
    omega
  | [], _, _, _, _, _, _ => by unfold good; trivial
  | _ :: _, [], _, _, h, _, _ => by simp at h
  | _ :: _, _ :: _, [], _, _, h, _ => by simp at h
theorem cb_drop {A : Int} {us r q : Rw} {i j : Nat} (h : i + j < us.length) : cb A (us.drop i) (r.drop i) (q.drop i) j = cb A us r q (i + j) := by
  have e : pick (zs (us.drop i)) j = pick (zs us) (i + j) := by
    rw [pick_zs (by rw [List.length_drop]; omega), pick_zs (by omega), List.drop_drop]
  unfold cb
  rw [e, List.drop_drop, List.drop_drop, List.drop_drop, Nat.add_assoc]
theorem lost_of_cb {A : Int} {us r q : Rw} {i : Nat} (hu : U us) (hi : i < us.length) (h : cb A us r q i = true) : Lost A us r q i := by
  rintro ⟨x, hx, e⟩
  have zp := zs_pos us hu i (by omega)
  obtain ⟨h1, h2⟩ := Md_in (U_drop (i + 1) hu) hx
  have h3 := of_decide_eq_true h
  have : NB A (pick (zs us) i) (dt (us.drop (i + 1)) (r.drop (i + 1))) (dt (us.drop (i + 1)) (q.drop (i + 1))) := by
    refine ⟨(A - x) / pick (zs us) i, ?_, ?_⟩
    all_goals
      have e2 : (A - x) % pick (zs us) i = 0 := by rw [Int.sub_emod, e, Int.sub_self, Int.zero_emod]
      have e3 := Int.mul_ediv_add_emod (A - x) (pick (zs us) i)
      rw [e2, Int.mul_comm] at e3
      omega
  rw [nb_iff zp] at this
  omega
theorem not_lost {A : Int} {us r q : Rw} {i : Nat} (hu : U us) (nr : NN r) (nq : NN q) (h1 : r.length = us.length + 1) (h2 : q.length = us.length + 1) (hi : i < us.length) (h : ∀ j, i ≤ j → j < us.length → cb A us r q j = false) : ¬ Lost A us r q i := by
  have zp := zs_pos us hu i (by omega)
  have h0 := of_decide_eq_false (h i (Nat.le_refl _) hi)
  obtain ⟨k, k1, k2⟩ : NB A (pick (zs us) i) (dt (us.drop (i + 1)) (r.drop (i + 1))) (dt (us.drop (i + 1)) (q.drop (i + 1))) := (nb_iff zp).2 (by omega)
  intro no
  have e0 : pick (zs us) i = pick (zs us) i := rfl
  obtain ⟨u, hz⟩ : ∃ u, pick (zs us) i = u * hd (zs (us.drop (i + 1))) := by
    refine ⟨us[i], ?_⟩
    rw [pick_zs (by omega), List.drop_eq_getElem_cons hi]
    rfl
  have m := Md_full (A := A) (us := us.drop (i + 1)) (r := r.drop (i + 1)) (q := q.drop (i + 1)) (U_drop _ hu) (NN_drop _ nr) (NN_drop _ nq) (by simp only [List.length_drop]; omega) (by simp only [List.length_drop]; omega)
    (good_of (U_drop _ hu) (by simp only [List.length_drop]; omega) (by simp only [List.length_drop]; omega) fun j hj => by
      rw [List.length_drop] at hj
      rw [cb_drop (by omega)]
      exact h _ (by omega) (by omega)) (A - k * pick (zs us) i) ⟨-(k * u), by rw [Int.neg_mul, Int.mul_assoc, ← hz]; omega⟩ (by omega) (by omega)
  refine no ⟨_, m, ?_⟩
  rw [Int.sub_emod, Int.mul_emod_left, Int.sub_zero, Int.emod_emod]
/-- what is left of the lots below a unit -/
theorem Md_below : ∀ {i : Nat} {us r q : Rw} {t : Int}, i < us.length → r.length = us.length + 1 → q.length = us.length + 1 → Md us r q t → ∃ x, Md (us.drop (i + 1)) (r.drop (i + 1)) (q.drop (i + 1)) x ∧ ∃ k, t - x = k * pick (zs us) i
  | i, u :: us, a :: r, b :: q, t, hi, h1, h2, ⟨c :: p, d :: o, ⟨n1, l1⟩, ⟨n2, l2⟩, e⟩ => by
    have e' : t = c * hd (zs (u :: us)) + dt us p - (d * hd (zs (u :: us)) + dt us o) := e
    have e2 : (c - d) * hd (zs (u :: us)) = c * hd (zs (u :: us)) - d * hd (zs (u :: us)) := Int.sub_mul ..
    have m : Md us r q (dt us p - dt us o) := ⟨p, o, ⟨n1.2, l1.2⟩, ⟨n2.2, l2.2⟩, rfl⟩
    cases i with
    | zero =>
      refine ⟨_, m, c - d, ?_⟩
      show t - _ = (c - d) * hd (zs (u :: us))
      omega
    | succ i =>
      obtain ⟨x, hx, k, hk⟩ := Md_below (i := i) (us := us) (by simpa using hi) (by simpa using h1) (by simpa using h2) m
      have z := zs_pq (u :: us) 0 (i + 1) (by omega) (by simp only [List.length_cons] at hi ⊢; omega)
      have z' : hd (zs (u :: us)) = pq (u :: us) 0 (i + 1) * pick (zs us) i := z
      refine ⟨x, hx, (c - d) * pq (u :: us) 0 (i + 1) + k, ?_⟩
      show t - x = ((c - d) * pq (u :: us) 0 (i + 1) + k) * pick (zs us) i
      rw [Int.add_mul, Int.mul_assoc, ← z']
      omega
  | _, _ :: _, _ :: _, _ :: _, _, _, _, _, ⟨[], _, ⟨_, l1⟩, _, _⟩ => l1.elim
  | _, _ :: _, _ :: _, _ :: _, _, _, _, _, ⟨_ :: _, [], _, ⟨_, l2⟩, _⟩ => l2.elim
  | _, [], _, _, _, hi, _, _, _ => by simp at hi
  | _, _ :: _, [], _, _, _, h, _, _ => by simp at h
  | _, _ :: _, _ :: _, [], _, _, _, h, _ => by simp at h
theorem paid_iff {A : Int} {us r q : Rw} (hu : U us) (nr : NN r) (nq : NN q) (h1 : r.length = us.length + 1) (h2 : q.length = us.length + 1) : Md us r q A ↔ (∀ i, i < us.length → cb A us r q i = false) ∧ -dt us q ≤ A ∧ A ≤ dt us r := by
  constructor
  · intro m
    refine ⟨fun i hi => ?_, Md_in hu m⟩
    cases c : cb A us r q i with
    | false => rfl
    | true =>
      obtain ⟨x, hx, k, hk⟩ := Md_below hi h1 h2 m
      refine (lost_of_cb hu hi c ⟨x, hx, ?_⟩).elim
      have e : A = x + k * pick (zs us) i := by omega
      rw [e, Int.add_mul_emod_self_right]
  · rintro ⟨h, lo, hi⟩
    exact Md_full hu nr nq h1 h2 (good_of hu h1 h2 h) A ⟨0, by omega⟩ lo hi
/-! ### the last that is lost -/
theorem last_eq {f g : Nat → Bool} : ∀ (n : Nat), (∀ i, i < n → f i = true → g i = true) → (∀ i, i < n → (∀ j, i ≤ j → j < n → f j = false) → g i = false) → ((List.range n).filter f).getLast? = ((List.range n).filter g).getLast?
  | 0, _, _ => rfl
  | n + 1, h1, h2 => by
    rw [List.range_succ, List.filter_append, List.filter_append]
    cases c : f n with
    | true =>
      have c2 := h1 n (by omega) c
      simp [List.filter_cons, c, c2]
    | false =>
      have c2 := h2 n (by omega) fun j j1 j2 => by
        have : j = n := by omega
        rw [this]; exact c
      simp only [List.filter_cons, c, c2, List.filter_nil, Bool.false_eq_true, if_false, List.append_nil]
      exact last_eq n (fun i hi => h1 i (by omega)) fun i hi h => h2 i (by omega) fun j j1 j2 => by
        by_cases e : j = n
        · rw [e]; exact c
        · exact h j j1 (by omega)
theorem find_last (f : Nat → Bool) (n : Nat) : (List.range n).reverse.find? f = ((List.range n).filter f).getLast? := by
  rw [← List.head?_filter, List.filter_reverse, List.head?_reverse]
end Hx

namespace Hx
open PySem PySem.Spec PyProof.Rows L2 RZ Yx Rm
variable [Tb] [Cb]
/-! # purses: the helpers -/
/-- what stands in a dict whose keys are numbers -/
def kyK (l : List (Int × D)) : List Int := l.map (·.1)
theorem dputK_mem {l : List (Int × D)} {k j : Int} {d : D} : j ∈ kyK (dputK l k d) ↔ j ∈ kyK l ∨ j = k := by
  unfold dputK kyK
  by_cases c : (l.any fun kv => decide (kv.1 = k)) = true
  · rw [if_pos c]
    have e : (l.map fun kv => if kv.1 = k then (kv.1, d) else kv).map (·.1) = l.map (·.1) := by
      rw [List.map_map]
      refine List.map_congr_left fun a _ => ?_
      show (if a.1 = k then (a.1, d) else a).1 = a.1
      split <;> rfl
    rw [e]
    refine ⟨.inl, fun h => h.elim id fun h => ?_⟩
    rw [List.any_eq_true] at c
    obtain ⟨a, ha, e⟩ := c
    rw [h, ← of_decide_eq_true e]
    exact List.mem_map_of_mem ha
  · rw [if_neg c, List.map_append, List.mem_append]
    simp
theorem dputK_len {l : List (Int × D)} {k : Int} {d : D} : (dputK l k d).length ≤ l.length + 1 := by
  unfold dputK
  split
  · rw [List.length_map]; omega
  · rw [List.length_append]; simp
theorem dgetK_mem {l : List (Int × D)} {k : Int} : (dgetK l k).isSome = decide (k ∈ kyK l) := by
  unfold dgetK kyK
  rw [Option.isSome_map]
  rw [Bool.eq_iff_iff, List.find?_isSome, decide_eq_true_eq, List.mem_map]
  exact ⟨fun ⟨a, h, e⟩ => ⟨a, h, of_decide_eq_true e⟩, fun ⟨a, h, e⟩ => ⟨a, h, decide_eq_true e⟩⟩
theorem le_snoc_inv : ∀ {done o : Rw} {a : Int}, Le o (done ++ [a]) → ∃ p i, o = p ++ [i] ∧ Le p done ∧ i ≤ a
  | [], [i], a, h => ⟨[], i, rfl, trivial, h.1⟩
  | [], [], _, h => h.elim
  | [], _ :: _ :: _, _, h => h.2.elim
  | d :: done, b :: o, a, h => by
    obtain ⟨p, i, e, h1, h2⟩ := le_snoc_inv (done := done) h.2
    exact ⟨b :: p, i, by rw [e]; rfl, ⟨h.1, h1⟩, h2⟩
  | _ :: _, [], _, h => h.elim
theorem NN_snoc_inv {o : Rw} {i : Int} (h : NN (o ++ [i])) : NN o ∧ 0 ≤ i := by
  rw [NN_mem] at h
  exact ⟨NN_mem.2 fun a ha => h a (by simp [ha]), h i (by simp)⟩
section
variable {K : PySem.W.Frag} {x : Option Gst} {us r q : Rw} {Q : D → Option Gst → Prop} {E : XE} {aBadUnits aBadRow aNoRow aBadParameter : Addr}
/-- a small row: at most three numbers of 0 to 2 -/
structure Sr (us r : Rw) : Prop where
  len : r.length = us.length + 1
  nn : NN r
  two : ∀ a ∈ r, a ≤ 2
theorem w_law_parts (hl : r.length ≤ 3) (hr : NN r) (hb : ∀ a ∈ r, a ≤ 2) (q : ∀ L : List Rw, (∀ o, o ∈ L ↔ NN o ∧ Le o r) → L.length ≤ 27 → Q (.lst (L.map dR)) x) : wR (m_law_parts K [dR r] x) Q E := by
  have hn := NN_mem.1 hr
  have pw : ∀ k : Nat, k ≤ 3 → (2 + 1) ^ k ≤ 27 := fun k hk => Nat.pow_le_pow_right (by decide) hk
  have key := for_inv (tg := (SG.name K 2).f) (bf := (S_law_parts_b2 K).f) D.int
    (fun done left σ y => y = x ∧ done ++ left = r ∧ ∃ (F : List Rw) (t2 t3 t4 t5 : Option Sl), σ = [some (.dat (dR r)), some (.dat (.lst (F.map dR))), t2, t3, t4, t5] ∧ Da t5 ∧ F.length ≤ (2 + 1) ^ done.length ∧ ∀ o, o ∈ F ↔ NN o ∧ Le o done)
    (by
      rintro done a left σ y ⟨rfl, e, F, t2, t3, t4, t5, rfl, h5, hl', hF⟩
      have ha : a ∈ r := by rw [← e]; simp
      have hdl : done.length + 1 ≤ 3 := by
        have : done.length + (left.length + 1) = r.length := by rw [← e]; simp
        omega
      have h1 : (2 + 1) ^ (done.length + 1) ≤ 27 := pw _ hdl
      rw [Nat.pow_succ] at h1
      have h3 : F.length * (2 + 1) ≤ (2 + 1) ^ done.length * (2 + 1) := Nat.mul_le_mul_right _ hl'
      obtain ⟨s3', s4', s5', eb, h5'⟩ := parts_b2 (K := K) (x := y) (r := r) (F := F) (m := 2) (s3 := t3) (s4 := t4) (s5 := t5) (hn a ha) (hb a ha) (by omega) (fun o ho => by rw [Le.length ((hF o).1 ho).2]; omega) (by omega) h5
      refine ⟨_, rfl, _, _, eb, rfl, by rw [← e]; simp, pts a F, _, _, _, _, rfl, h5', ?_, fun q => ⟨fun hq => ?_, fun ⟨h4, h5⟩ => ?_⟩⟩
      · have h2 := pts_len (m := 2) (hb a ha) F
        rw [List.length_append, List.length_cons, List.length_nil, Nat.pow_succ]
        omega
      · unfold pts pt at hq
        obtain ⟨o, ho, hq⟩ := List.mem_flatMap.mp hq
        obtain ⟨i, hi, rfl⟩ := List.mem_map.mp hq
        have hi' : i < (a + 1).toNat := List.mem_range.mp hi
        exact ⟨NN_snoc ((hF o).1 ho).1 (by omega), le_snoc ((hF o).1 ho).2 (by omega)⟩
      · obtain ⟨p, i, rfl, l1, l2⟩ := le_snoc_inv h5
        obtain ⟨n1, n2⟩ := NN_snoc_inv h4
        unfold pts pt
        refine List.mem_flatMap.mpr ⟨p, (hF p).2 ⟨n1, l1⟩, List.mem_map.mpr ⟨i.toNat, List.mem_range.mpr (by omega), ?_⟩⟩
        rw [Int.toNat_of_nonneg n2])
    r [] [some (.dat (dR r)), some (.dat (.lst [.tup []])), none, none, none, none] x
    ⟨rfl, rfl, [[]], none, none, none, none, rfl, .none, by simp, fun o => by
      rw [List.mem_singleton]
      exact ⟨fun h => by subst h; exact ⟨trivial, trivial⟩, fun h => by cases o with
        | nil => rfl
        | cons _ _ => exact h.2.elim⟩⟩
  obtain ⟨σ', y, ef, rfl, _, F, t2, t3, t4, t5, rfl, h5, hl', hF⟩ := key
  rw [List.nil_append] at hF hl'
  refine wR_is ?_ (q F hF (Nat.le_trans hl' (pw _ hl)))
  unfold m_law_parts mOf
  simp_all_arith! [S_law_parts]
  simp only [SG.name, dR_eq] at ef ⊢
  simp_arith! [ef]
theorem Sr.big (h : Sr us r) : Big N8 r := fun a ha => by
  have h1 := NN_mem.1 h.nn a ha
  have h2 := h.two a ha
  unfold N8; omega
theorem Sr.le {p : Rw} (h : Sr us r) (n : NN p) (l : Le p r) : Sr us p := ⟨by rw [Le.length l]; exact h.len, n, fun a ha => by
  have key : ∀ {p r : Rw}, Le p r → (∀ a ∈ r, a ≤ 2) → ∀ a ∈ p, a ≤ 2 := by
    intro p
    induction p with
    | nil => intro _ _ _ a ha; simp at ha
    | cons b p ih =>
      intro r l h a ha
      match r, l with
      | c :: r, l =>
        rcases List.mem_cons.1 ha with rfl | ha
        · have := h c (by simp); have := l.1; omega
        · exact ih l.2 (fun a ha => h a (by simp [ha])) a ha
  exact key l h.two a ha⟩
theorem w_law_sums (hu : UD us) (hr : Sr us r) (q : ∀ l : List (Int × D), (∀ k, k ∈ kyK l ↔ ∃ p, (NN p ∧ Le p r) ∧ k = dt us p) → l.length ≤ 27 → Q (.dcK l) x) : wR (m_law_sums K [dR us, dR r] x) Q E := by
  have l2 := hu.len
  (unfold m_law_sums; refine Yx.w_def ?_; unfold S_law_sums)
  simp_arith [Yx.startS]
  refine w_law_parts (by rw [hr.len]; omega) hr.nn hr.two fun L hL hl => ?_
  simp_arith [Yx.startS]
  refine wO_for dR L (fun done left σ y => y = x ∧ ∃ (l : List (Int × D)) (t3 : Option Sl), (∀ k, k ∈ kyK l ↔ ∃ p ∈ done, k = dt us p) ∧ l.length ≤ done.length ∧ σ = [some (.dat (dR us)), some (.dat (dR r)), some (.dik l), t3]) ⟨rfl, [], none, by simp [kyK], by simp, rfl⟩ ?_ ?_
  · rintro done p left σ y e ⟨rfl, l, t3, h1, h2, rfl⟩
    refine ⟨_, rfl, ?_⟩
    have hp := (hL p).1 (by rw [← e]; simp)
    have hs := hr.le hp.1 hp.2
    have dl : done.length ≤ L.length := by rw [← e]; simp
    have ll : l.length < 16777216 := by omega
    simp_arith [Yx.startS]
    refine w_total hu.uo hs.len hs.big ?_
    simp_arith [ll]
    refine kp ⟨rfl, _, _, fun k => ?_, ?_, rfl⟩
    · rw [dputK_mem, h1, tot_dt0 hs.len]
      simp only [List.mem_append, List.mem_singleton]
      exact ⟨fun h => h.elim (fun ⟨p, h, e⟩ => ⟨p, .inl h, e⟩) fun h => ⟨p, .inr rfl, h⟩, fun ⟨p', h, e5⟩ => h.elim (fun h => .inl ⟨p', h, e5⟩) fun h => by subst h; exact .inr e5⟩
    · have := dputK_len (l := l) (k := tot 0 us p) (d := .bl true)
      rw [List.length_append, List.length_singleton]
      omega
  · rintro σ y ⟨rfl, l, t3, h1, h2, rfl⟩
    simp_arith [Yx.startS]
    exact q l (fun k => by rw [h1]; exact ⟨fun ⟨p, h, e⟩ => ⟨p, (hL p).1 h, e⟩, fun ⟨p, h, e⟩ => ⟨p, (hL p).2 h, e⟩⟩) (by omega)
theorem w_law_paid (hu : UD us) (hr : Sr us r) (hq : Sr us q) (qq : ∀ l : List (Int × D), (∀ k, k ∈ kyK l ↔ Md us r q k) → l.length ≤ 729 → Q (.dcK l) x) : wR (m_law_paid K [dR us, dR r, dR q] x) Q E := by
  (unfold m_law_paid; refine Yx.w_def ?_; unfold S_law_paid)
  simp_arith [Yx.startS]
  refine w_law_sums hu hq fun b hb bl => ?_
  simp_arith [Yx.startS]
  refine w_law_sums hu hr fun a ha al => ?_
  simp_arith [Yx.startS]
  refine wO_for (fun p : Int × D => D.int p.1) a (fun done left σ y => y = x ∧ ∃ (l : List (Int × D)) (t3 t6 : Option Sl), (∀ k, k ∈ kyK l ↔ ∃ p ∈ done, ∃ o ∈ b, k = p.1 - o.1) ∧ l.length ≤ done.length * b.length ∧ σ = [some (.dat (dR us)), some (.dat (dR r)), some (.dat (dR q)), t3, some (.dik l), some (.dat (.dcK b)), t6]) ⟨rfl, [], none, none, by simp [kyK], by simp, rfl⟩ ?_ ?_
  · rintro done p left σ y e ⟨rfl, l, t3, t6, h1, h2, rfl⟩
    refine ⟨_, rfl, ?_⟩
    have dl : done.length < a.length := by rw [← e]; simp
    have dm : (done.length + 1) * b.length ≤ 27 * 27 := Nat.mul_le_mul (by omega) bl
    rw [Nat.add_mul, Nat.one_mul] at dm
    simp_arith [Yx.startS]
    refine wO_for (fun p : Int × D => D.int p.1) b (fun don left σ y' => y' = y ∧ ∃ (l : List (Int × D)) (t6 : Option Sl), (∀ k, k ∈ kyK l ↔ (∃ p ∈ done, ∃ o ∈ b, k = p.1 - o.1) ∨ ∃ o ∈ don, k = p.1 - o.1) ∧ l.length ≤ done.length * b.length + don.length ∧ σ = [some (.dat (dR us)), some (.dat (dR r)), some (.dat (dR q)), some (.dat (.int p.1)), some (.dik l), some (.dat (.dcK b)), t6]) ⟨rfl, l, t6, by simpa using h1, by simpa using h2, rfl⟩ ?_ ?_
    · rintro don o left' σ y' e' ⟨rfl, l, t6, h1, h2, rfl⟩
      refine ⟨_, rfl, ?_⟩
      have dl' : don.length < b.length := by rw [← e']; simp
      have ll : l.length < 16777216 := by omega
      simp_arith [ll]
      refine kp ⟨rfl, _, _, fun k => ?_, ?_, rfl⟩
      · rw [dputK_mem, h1]
        simp only [List.mem_append, List.mem_singleton]
        constructor
        · rintro ((h | ⟨o', h, e⟩) | h)
          · exact .inl h
          · exact .inr ⟨o', .inl h, e⟩
          · exact .inr ⟨o, .inr rfl, h⟩
        · rintro (h | ⟨o', h | h, e⟩)
          · exact .inl (.inl h)
          · exact .inl (.inr ⟨o', h, e⟩)
          · subst h; exact .inr e
      · have := dputK_len (l := l) (k := p.1 - o.1) (d := .bl true)
        rw [List.length_append, List.length_singleton]
        omega
    · rintro σ y' ⟨rfl, l, t6, h1, h2, rfl⟩
      simp_arith [Yx.startS]
      refine kp ⟨rfl, l, _, _, fun k => ?_, ?_, rfl⟩
      · rw [h1]
        simp only [List.mem_append, List.mem_singleton]
        constructor
        · rintro (⟨p', h, e⟩ | h)
          · exact ⟨p', .inl h, e⟩
          · exact ⟨p, .inr rfl, h⟩
        · rintro ⟨p', h | h, e5⟩
          · exact .inl ⟨p', h, e5⟩
          · subst h; exact .inr e5
      · rw [List.length_append, List.length_singleton, Nat.add_mul, Nat.one_mul]; exact h2
  · rintro σ y ⟨rfl, l, t3, t6, h1, h2, rfl⟩
    simp_arith [Yx.startS]
    have dm : a.length * b.length ≤ 27 * 27 := Nat.mul_le_mul al bl
    refine qq l (fun k => ?_) (by omega)
    rw [h1]
    constructor
    · rintro ⟨p, hp, o, ho, e⟩
      obtain ⟨p', p1, p2⟩ := (ha p.1).1 (List.mem_map_of_mem hp)
      obtain ⟨o', o1, o2⟩ := (hb o.1).1 (List.mem_map_of_mem ho)
      exact ⟨p', o', p1, o1, by rw [e, p2, o2]⟩
    · rintro ⟨p, o, p1, o1, e⟩
      obtain ⟨a', a1, a2⟩ := List.mem_map.1 ((ha _).2 ⟨p, p1, rfl⟩)
      obtain ⟨b', b1, b2⟩ := List.mem_map.1 ((hb _).2 ⟨o, o1, rfl⟩)
      exact ⟨a', a1, b', b1, by rw [e, a2, b2]⟩
/-- zeros ahead change nothing -/
theorem Md_zeros : ∀ {i : Nat} {us r q : Rw} {t : Int}, i ≤ us.length → (Md us (List.replicate i 0 ++ r) (List.replicate i 0 ++ q) t ↔ Md (us.drop i) r q t)
  | 0, _, _, _, _, _ => Iff.rfl
  | i + 1, u :: us, r, q, t, h => by
    have ih := Md_zeros (i := i) (us := us) (r := r) (q := q) (t := t) (by simpa using h)
    rw [List.drop_succ_cons, ← ih]
    rw [List.replicate_succ, List.cons_append, List.cons_append]
    constructor
    · rintro ⟨p, o, ⟨n1, l1⟩, ⟨n2, l2⟩, e⟩
      match p, o, n1, l1, n2, l2 with
      | a :: p, b :: o, n1, l1, n2, l2 =>
        have ha : a = 0 := by have := n1.1; have := l1.1; omega
        have hb : b = 0 := by have := n2.1; have := l2.1; omega
        subst ha hb
        refine ⟨p, o, ⟨n1.2, l1.2⟩, ⟨n2.2, l2.2⟩, ?_⟩
        rw [e]
        show 0 * hd (zs (u :: us)) + dt us p - (0 * hd (zs (u :: us)) + dt us o) = _
        omega
    · rintro ⟨p, o, ⟨n1, l1⟩, ⟨n2, l2⟩, e⟩
      refine ⟨0 :: p, 0 :: o, ⟨⟨Int.le_refl _, n1⟩, ⟨Int.le_refl _, l1⟩⟩, ⟨⟨Int.le_refl _, n2⟩, ⟨Int.le_refl _, l2⟩⟩, ?_⟩
      show t = 0 * hd (zs (u :: us)) + dt us p - (0 * hd (zs (u :: us)) + dt us o)
      rw [e]; omega
  | i + 1, [], _, _, _, h => by simp at h
/-- zeros -/
def zro (i : Nat) : Rw := List.replicate i 0
theorem NN_zeros {i : Nat} (h : NN r) : NN (List.replicate i 0 ++ r) := NN_mem.2 fun a ha => by
  rcases List.mem_append.1 ha with ha | ha
  · rw [List.eq_of_mem_replicate ha]; decide
  · exact NN_mem.1 h a ha
theorem Sr.zeros {i : Nat} (h : Sr us r) (hi : i ≤ us.length) : Sr us (List.replicate i 0 ++ r.drop i) := ⟨by rw [List.length_append, List.length_replicate, List.length_drop, h.len]; omega, NN_zeros (NN_drop i h.nn), fun a ha => by
  rcases List.mem_append.1 ha with ha | ha
  · rw [List.eq_of_mem_replicate ha]; decide
  · exact h.two a (List.mem_of_mem_drop ha)⟩
theorem mz {i : Nat} (h : i < 1000) : (opMul K).f (.tup [.int 0]) (.int ((i : Int) + 1)) = some (dR (zro (i + 1))) := by
  unfold zro
  rw [mulT (by simp) (by omega) (by omega) (by simp)]
  have e : ((i : Int) + 1).toNat = i + 1 := by omega
  have key : ∀ k : Nat, (List.replicate k [D.int 0]).flatten = (List.replicate k (0 : Int)).map D.int := by
    intro k
    induction k with
    | zero => rfl
    | succ k ih => rw [List.replicate_succ, List.flatten_cons, ih, List.replicate_succ]; rfl
  rw [e, key]; rfl
theorem at_pick : ∀ {L : Rw} {i : Nat}, i < L.length → atI (L.map D.int) (i : Int) = some (.int (pick L i)) := by
  intro L i h
  have key : ∀ (L : Rw) (i : Nat) (h : i < L.length), L[i] = pick L i := by
    intro L
    induction L with
    | nil => intro i h; simp at h
    | cons a L ih =>
      intro i h
      cases i with
      | zero => rfl
      | succ i => exact ih i (by simpa using h)
  rw [at_map (fun k => D.int k) h, key]
theorem w_law_rests {i : Nat} (hu : UD us) (hr : Sr us r) (hq : Sr us q) (hi : i < us.length) (qq : ∀ l : List (Int × D), (∀ k, k ∈ kyK l ↔ ∃ t, Md (us.drop (i + 1)) (r.drop (i + 1)) (q.drop (i + 1)) t ∧ k = t % pick (zs us) i) → Q (.dcK l) x) : wR (m_law_rests K [dR us, dR r, dR q, .int ((i : Int) + 1)] x) Q E := by
  have l2 := hu.len
  have z1 := zs_pos us hu.uo.u i (by omega)
  have m1 := mz (K := K) (i := i) (by omega)
  have e1 : (i : Int) + 1 - 1 = i := by omega
  have e2 : (((i + 1 : Nat)) : Int) = (i : Int) + 1 := by omega
  have a1 : atI ((zs us).map D.int) (i : Int) = some (.int (pick (zs us) i)) := at_pick (by rw [zs_length]; omega)
  have d1 : Yx.cutD (r.map D.int) (some ((i : Int) + 1)) none = (r.drop (i + 1)).map D.int := by rw [← e2, cut_drop, List.map_drop]
  have d2 : Yx.cutD (q.map D.int) (some ((i : Int) + 1)) none = (q.drop (i + 1)).map D.int := by rw [← e2, cut_drop, List.map_drop]
  have lz : (zro (i + 1)).length = i + 1 := List.length_replicate ..
  have ad : ∀ v : Rw, v.length ≤ 4 → (opAdd K).f (.tup ((zro (i + 1)).map D.int)) (.tup ((v.drop (i + 1)).map D.int)) = some (.tup ((zro (i + 1) ++ v.drop (i + 1)).map D.int)) := fun v hv => by
    rw [addT (szOk_lit (by rw [List.length_map, List.length_map, List.length_drop]; omega)), List.map_append]
  have ad1 := ad r (by rw [hr.len]; omega)
  have ad2 := ad q (by rw [hq.len]; omega)
  (unfold m_law_rests; refine Yx.w_def ?_; unfold S_law_rests)
  simp_arith [m1]
  refine wR_is (v_sizes hu.uo) ?_
  rw [szs_zs]
  simp_arith [e1, a1, d1, d2, ad1, ad2]
  refine w_law_paid hu (hr.zeros (i := i + 1) (by omega)) (hq.zeros (i := i + 1) (by omega)) fun f hf fl => ?_
  simp_arith [Yx.startS]
  refine wO_for (fun p : Int × D => D.int p.1) f (fun done left σ y => y = x ∧ ∃ (l : List (Int × D)) (t5 : Option Sl), (∀ k, k ∈ kyK l ↔ ∃ p ∈ done, k = p.1 % pick (zs us) i) ∧ l.length ≤ done.length ∧ σ = [some (.dat (dR us)), some (.dat (dR r)), some (.dat (dR q)), some (.dat (.int ((i : Int) + 1))), some (.dik l), t5, some (.dat (dR (zro (i + 1)))), some (.dat (.int (pick (zs us) i)))]) ⟨rfl, [], none, by simp [kyK], by simp, rfl⟩ ?_ ?_
  · rintro done p left σ y e ⟨rfl, l, t5, h1, h2, rfl⟩
    refine ⟨_, rfl, ?_⟩
    have dl : done.length < f.length := by rw [← e]; simp
    have ll : l.length < 16777216 := by omega
    have mo := modI (K := K) (i := p.1) (j := pick (zs us) i) (by omega)
    simp_arith [ll, mo]
    refine kp ⟨rfl, _, _, fun k => ?_, ?_, rfl⟩
    · rw [dputK_mem, h1]
      simp only [List.mem_append, List.mem_singleton]
      exact ⟨fun h => h.elim (fun ⟨p, h, e⟩ => ⟨p, .inl h, e⟩) fun h => ⟨p, .inr rfl, h⟩, fun ⟨p', h, e5⟩ => h.elim (fun h => .inl ⟨p', h, e5⟩) fun h => by subst h; exact .inr e5⟩
    · have := dputK_len (l := l) (k := p.1 % pick (zs us) i) (d := .bl true)
      rw [List.length_append, List.length_singleton]
      omega
  · rintro σ y ⟨rfl, l, t5, h1, h2, rfl⟩
    simp_arith [Yx.startS]
    refine qq l fun k => ?_
    rw [h1]
    have hf' : ∀ t, t ∈ kyK f ↔ Md (us.drop (i + 1)) (r.drop (i + 1)) (q.drop (i + 1)) t := fun t => by rw [hf]; exact Md_zeros (by omega)
    constructor
    · rintro ⟨p, hp, e⟩
      exact ⟨p.1, (hf' _).1 (List.mem_map_of_mem hp), e⟩
    · rintro ⟨t, ht, e⟩
      obtain ⟨p, p1, p2⟩ := List.mem_map.1 ((hf' t).2 ht)
      exact ⟨p, p1, by rw [e, p2]⟩
/-! ### the program's side -/
/-- the sums from each unit on, and 0 -/
def tf : Rw → Rw → Rw
  | u :: us, a :: r => dt (u :: us) (a :: r) :: tf us r
  | [], a :: _ => [a, 0]
  | _, [] => []
theorem tf_pick : ∀ {us r : Rw} {i : Nat}, r.length = us.length + 1 → i ≤ us.length → pick (tf us r) i = dt (us.drop i) (r.drop i)
  | u :: us, a :: r, 0, _, _ => rfl
  | [], [a], 0, _, _ => rfl
  | u :: us, a :: r, i + 1, h, hi => tf_pick (us := us) (r := r) (by simpa using h) (by simpa using hi)
  | [], _, i + 1, _, hi => by simp at hi
  | _, [], 0, h, _ => by simp at h
  | _ :: _, [], _ + 1, h, _ => by simp at h
  | [], _ :: _ :: _, 0, h, _ => by simp at h
theorem tf_len : ∀ {us r : Rw}, r.length = us.length + 1 → (tf us r).length = us.length + 2
  | u :: us, a :: r, h => by show (tf us r).length + 1 = us.length + 1 + 2; rw [tf_len (by simpa using h)]
  | [], [a], _ => rfl
  | _, [], h => by simp at h
  | [], _ :: _ :: _, h => by simp at h
/-- the sums from the end on -/
def pf : List (Int × Int) → Rw
  | [] => [0]
  | p :: L => (hd (pf L) + p.1 * p.2) :: pf L
theorem pf_tf : ∀ {us r : Rw}, r.length = us.length + 1 → pf ((zs us).zip r) = tf us r ∧ hd (tf us r) = dt us r
  | u :: us, a :: r, h => by
    obtain ⟨h1, h2⟩ := pf_tf (us := us) (r := r) (by simpa using h)
    refine ⟨?_, rfl⟩
    show (hd (pf ((zs us).zip r)) + hd (zs (u :: us)) * a) :: pf ((zs us).zip r) = (a * hd (zs (u :: us)) + dt us r) :: tf us r
    rw [h1, h2, Int.add_comm, Int.mul_comm]
  | [], [a], _ => ⟨by show [0 + 1 * a, 0] = [a, 0]; rw [Int.zero_add, Int.one_mul], rfl⟩
  | _, [], h => by simp at h
  | [], _ :: _ :: _, h => by simp at h
theorem rev_map {r : Rw} : cutR (r.map D.int) none none = r.reverse.map D.int := by rw [cutR_rev, List.map_reverse]
theorem atI_snoc {a : D} (l : List D) : atI (l ++ [a]) (-1) = some a := L2.atI_last l a
theorem pf_hd : ∀ L, ∃ t, pf L = hd (pf L) :: t
  | [] => ⟨[], rfl⟩
  | _ :: L => ⟨pf L, rfl⟩
theorem at_pf (L : List (Int × Int)) : atI ((pf L).reverse.map D.int) (-1) = some (.int (hd (pf L))) := by
  obtain ⟨t, e⟩ := pf_hd L
  rw [e, List.reverse_cons, List.map_append]
  exact atI_snoc _
theorem pf_snoc (L : List (Int × Int)) (p : Int × Int) : (pf (p :: L)).reverse.map D.int = (pf L).reverse.map D.int ++ [.int (hd (pf L) + p.1 * p.2)] := by
  show ((hd (pf L) + p.1 * p.2) :: pf L).reverse.map D.int = _
  rw [List.reverse_cons, List.map_append]; rfl
theorem zip_rev0 : ∀ {a b : Rw}, a.length = b.length → a.reverse.zip b.reverse = (a.zip b).reverse
  | [], [], _ => rfl
  | x :: a, y :: b, h => by
    have h' : a.length = b.length := by simpa using h
    rw [List.reverse_cons, List.reverse_cons, List.zip_append (by rw [List.length_reverse, List.length_reverse, h']), zip_rev0 h']
    show _ = ((x, y) :: a.zip b).reverse
    rw [List.reverse_cons]
    rfl
  | [], _ :: _, h => by simp at h
  | _ :: _, [], h => by simp at h
theorem zip_rev' (us r : Rw) (h : r.length = us.length + 1) : (zs us).reverse.zip r.reverse = ((zs us).zip r).reverse := zip_rev0 (by rw [zs_length, h])
theorem pf_len : ∀ L, (pf L).length = L.length + 1
  | [] => rfl
  | _ :: L => by show (pf L).length + 1 = L.length + 1 + 1; rw [pf_len L]
theorem w_totals_from (hu : UO us) (hr : RO us r) (q : Q (.lst ((tf us r).map D.int)) x) : wR (m_totals_from K aBadUnits [dR us, dR r] x) Q E := by
  have l3 := hu.len
  have ll := hr.len
  have ls := zs_length us
  have s1 : szOk ((zs us).reverse.map D.int).length = true := szOk_lit (by rw [List.length_map, List.length_reverse]; omega)
  have s2 : szOk (r.reverse.map D.int).length = true := szOk_lit (by rw [List.length_map, List.length_reverse]; omega)
  (unfold m_totals_from; refine Yx.w_def ?_; unfold S_totals_from)
  simp_arith [Yx.startS]
  refine wR_is (v_zs hu) ?_
  simp_arith [rev_map, s1, s2, zip_rows]
  rw [zip_rev' us r ll]
  refine wO_for pr2 ((zs us).zip r).reverse (fun done left σ y => y = x ∧ ∃ t3 t4, σ = [some (.dat (dR us)), some (.dat (dR r)), some (.own ((pf done.reverse).reverse.map D.int)), t3, t4]) ⟨rfl, none, none, rfl⟩ ?_ ?_
  · rintro done p left σ y e ⟨rfl, t3, t4, rfl⟩
    refine ⟨_, rfl, ?_⟩
    have hp := List.of_mem_zip (List.mem_reverse.1 (show p ∈ ((zs us).zip r).reverse by rw [← e]; simp))
    have h1 := szs_sm hu p.1 (by rw [szs_zs]; exact hp.1)
    have h2 := hr.big p.2 hp.2
    have a1 := at_pf done.reverse
    have dl : (done.length : Nat) ≤ 4 := by
      have := congrArg List.length e
      simp only [List.length_append, List.length_cons, List.length_reverse, List.length_zip] at this
      omega
    have pl : ((pf done.reverse).reverse.map D.int).length < 16777216 := by rw [List.length_map, List.length_reverse, pf_len, List.length_reverse]; omega
    simp_arith [a1, pl, mulF_int (K := K) (.of (by omega) (by omega) : Sm p.1) (sm8 (by unfold N8 at *; omega) (by unfold N8 at *; omega) : Sm p.2)]
    refine kp ⟨rfl, some (.dat (.int p.1)), some (.dat (.int p.2)), ?_⟩
    rw [List.reverse_append, List.reverse_singleton, List.singleton_append, pf_snoc]
  · rintro σ y ⟨rfl, t3, t4, rfl⟩
    rw [List.reverse_reverse, (pf_tf ll).1]
    simp_arith [List.map_reverse, List.reverse_reverse]
    exact q
theorem zs_ro (hu : UO us) : ∀ a ∈ zs us, 1 ≤ a ∧ a ≤ 10000 := fun a ha => szs_sm hu a (by rw [szs_zs]; exact ha)
theorem dt_bd0 {M : Int} (hM : 0 ≤ M) : ∀ {us r : Rw}, (∀ z ∈ zs us, 1 ≤ z ∧ z ≤ 10000) → NN r → (∀ a ∈ r, a ≤ M) → dt us r ≤ (us.length + 1) * (M * 10000)
  | u :: us, a :: r, hz, hn, hm => by
    have ih := dt_bd0 hM (us := us) (r := r) (fun z h => hz z (List.mem_cons_of_mem _ h)) hn.2 fun b h => hm b (by simp [h])
    have z1 := hz (hd (zs (u :: us))) (List.mem_cons_self ..)
    have h1 : a * hd (zs (u :: us)) ≤ M * 10000 := Int.mul_le_mul (hm a (by simp)) z1.2 (by omega) hM
    show a * hd (zs (u :: us)) + dt us r ≤ (((us.length + 1 : Nat) : Int) + 1) * (M * 10000)
    have e : (((us.length + 1 : Nat) : Int) + 1) * (M * 10000) = ((us.length : Int) + 1) * (M * 10000) + M * 10000 := by
      rw [show (((us.length + 1 : Nat) : Int) + 1) = ((us.length : Int) + 1) + 1 by omega, Int.add_mul, Int.one_mul]
    omega
  | [], a :: r, _, hn, hm => by
    have := hm a (by simp)
    have := hn.1
    show a ≤ (((0 : Nat) : Int) + 1) * (M * 10000)
    omega
  | us, [], _, _, _ => by
    have : 0 ≤ ((us.length : Int) + 1) * (M * 10000) := Int.mul_nonneg (by omega) (by omega)
    cases us <;> exact this
theorem dt_bd (hu : UO us) (h : RO us r) : 0 ≤ dt us r ∧ dt us r ≤ 10 ^ 65 := by
  have h1 := dt_bd0 (M := 10 ^ 60) (by decide) (zs_ro hu) h.nn h.top
  have l3 := hu.len
  have h2 : ((us.length : Int) + 1) * (10 ^ 60 * 10000) ≤ 4 * (10 ^ 60 * 10000) := Int.mul_le_mul_of_nonneg_right (by omega) (by decide)
  exact ⟨dt_nn hu.u h.nn, by omega⟩
theorem UO.drop (hu : UO us) (i : Nat) : UO (us.drop i) := ⟨by have := hu.len; rw [List.length_drop]; omega, fun u h => hu.two u (List.mem_of_mem_drop h)⟩
theorem RO.drop (h : RO us r) {i : Nat} (hi : i ≤ us.length) : RO (us.drop i) (r.drop i) := ⟨by rw [List.length_drop, List.length_drop, h.len]; omega, NN_drop i h.nn, fun a ha => h.top a (List.mem_of_mem_drop ha)⟩
theorem ediv_bd {x S M : Int} (hS : 1 ≤ S) (hM : 0 ≤ M) (h1 : -M ≤ x) (h2 : x ≤ M) : -M ≤ x / S ∧ x / S ≤ M := by
  have m : M * 1 ≤ M * S := Int.mul_le_mul_of_nonneg_left hS hM
  constructor
  · rw [Int.le_ediv_iff_mul_le (by omega), Int.neg_mul]; omega
  · have : x / S < M + 1 := by
      rw [Int.ediv_lt_iff_lt_mul (by omega), Int.add_mul]; omega
    omega
/-- which unit is in the way -/
def blk (A : Int) (us r q : Rw) : D := match ((List.range us.length).filter (cb A us r q)).getLast? with
  | some i => .int ((i : Int) + 1)
  | none => if -dt us q ≤ A ∧ A ≤ dt us r then .non else .int 0
theorem rng_rev (n : Nat) : (rngD 1 n).reverse = (List.range n).reverse.map fun i : Nat => D.int ((i : Int) + 1) := by
  unfold rngD
  rw [← List.map_reverse]
  refine List.map_congr_left fun i _ => ?_
  rw [Int.add_comm]
theorem at_tf (hl : r.length = us.length + 1) {i : Nat} (hi : i ≤ us.length) : atI ((tf us r).map D.int) (i : Int) = some (.int (dt (us.drop i) (r.drop i))) := by
  rw [at_pick (by rw [tf_len hl]; omega), tf_pick hl hi]
theorem w_blocked {A : Int} (hu : UO us) (hr : RO us r) (hq : RO us q) (hA : -10 ^ 60 ≤ A ∧ A ≤ 10 ^ 60) (qq : Q (blk A us r q) x) : wR (m_blocked K aBadUnits [dR us, dR r, dR q, .int A] x) Q E := by
  have l3 := hu.len
  have i1 : i62 1 = true := by decide
  have i2 : i62 ((us.length + 1 : Nat) : Int) = true := by unfold i62; rw [decide_eq_true_eq]; omega
  have tn : (((us.length + 1 : Nat) : Int) - 1).toNat = us.length := by omega
  (unfold m_blocked; refine Yx.w_def ?_; unfold S_blocked)
  simp_arith [Yx.startS]
  refine w_totals_from hu hr ?_
  simp_arith [Yx.startS]
  refine w_totals_from hu hq ?_
  simp_arith [Yx.startS]
  refine wR_is (v_zs hu) ?_
  simp_arith [List.length_map, zs_length, i1, i2, tn, rng_rev]
  have qe : blk A us r q = match (List.range us.length).reverse.find? (cb A us r q) with
    | some i => .int ((i : Int) + 1)
    | none => if -dt us q ≤ A ∧ A ≤ dt us r then .non else .int 0 := by rw [find_last]; rfl
  refine wO_for (fun i : Nat => D.int ((i : Int) + 1)) (List.range us.length).reverse (fun done left σ y => y = x ∧ (List.range us.length).reverse.find? (cb A us r q) = left.find? (cb A us r q) ∧ ∃ t5, σ = [some (.dat (dR us)), some (.dat (dR r)), some (.dat (dR q)), some (.dat (.int A)), some (.dat (dR (zs us))), t5, some (.dat (.lst ((tf us r).map D.int))), some (.dat (.lst ((tf us q).map D.int)))]) ⟨rfl, rfl, none, rfl⟩ ?_ ?_
  · rintro done i left σ y e ⟨rfl, hf, t5, rfl⟩
    refine ⟨_, rfl, ?_⟩
    have hi : i < us.length := List.mem_range.1 (List.mem_reverse.1 (by rw [← e]; simp))
    have zp := zs_pos us hu.u i (by omega)
    have zb := zs_ro hu (pick (zs us) i) (by rw [pick_get _ _ (by rw [zs_length]; omega)]; exact List.getElem_mem _)
    have e1 : (i : Int) + 1 - 1 = i := by omega
    have g1 : atI ((tf us r).map D.int) ((i : Int) + 1) = _ := at_tf (i := i + 1) hr.len (by omega)
    have g2 : atI ((tf us q).map D.int) ((i : Int) + 1) = _ := at_tf (i := i + 1) hq.len (by omega)
    have g3 : atI ((zs us).map D.int) (i : Int) = some (.int (pick (zs us) i)) := at_pick (by rw [zs_length]; omega)
    have b1 := dt_bd (hu.drop (i + 1)) (hq.drop (i := i + 1) (by omega))
    have b2 := ediv_bd (x := A + dt (us.drop (i + 1)) (q.drop (i + 1))) (S := pick (zs us) i) (M := 10 ^ 66) zp (by decide) (by omega) (by omega)
    have dv := divI (K := K) (i := A + dt (us.drop (i + 1)) (q.drop (i + 1))) (j := pick (zs us) i) (by omega) (by omega)
    simp_arith [e1, g1, g2, g3, dv, mulF_int (K := K) (sm8 (by unfold N8; omega) (by unfold N8; omega) : Sm ((A + dt (us.drop (i + 1)) (q.drop (i + 1))) / pick (zs us) i)) (.of (by omega) (by omega) : Sm (pick (zs us) i))]
    by_cases c : cb A us r q i = true
    · have c' := of_decide_eq_true c
      simp_arith [c']
      rw [qe, hf, List.find?_cons_of_pos c] at qq
      exact qq
    · have c' := of_decide_eq_false (Bool.eq_false_iff.2 c)
      simp_arith [c']
      refine kp ⟨rfl, ?_, _, rfl⟩
      rw [hf, List.find?_cons_of_neg c]
  · rintro σ y ⟨rfl, hf, t5, rfl⟩
    have g1 : atI ((tf us r).map D.int) 0 = _ := at_tf (i := 0) hr.len (by omega)
    have g2 : atI ((tf us q).map D.int) 0 = _ := at_tf (i := 0) hq.len (by omega)
    rw [qe, hf] at qq
    rw [List.drop_zero, List.drop_zero] at g1 g2
    simp_arith [g2]
    by_cases c1 : -dt us q ≤ A
    · by_cases c2 : A ≤ dt us r
      · rw [List.find?_nil] at qq
        dsimp only at qq
        rw [if_pos ⟨c1, c2⟩] at qq
        simp_arith [c1, c2, g1]
        exact qq
      · rw [List.find?_nil] at qq
        dsimp only at qq
        rw [if_neg fun h => c2 h.2] at qq
        simp_arith [c1, c2, g1]
        exact qq
    · rw [List.find?_nil] at qq
      dsimp only at qq
      rw [if_neg fun h => c1 h.1] at qq
      simp_arith [c1]
      exact qq
/-! ### amounts -/
theorem w_need_amount {d : D} (hu : UO us) (hr : RO us r) (hq : RO us q) (hd : okd d = true) (q1 : isw (-10 ^ 60) (10 ^ 60) d = true → Q .non x) (q2 : isw (-10 ^ 60) (10 ^ 60) d = false → E aBadParameter (some ("value", d)) x) : wR (m_need_amount K aBadParameter aBadRow aBadUnits [dR us, dR r, dR q, d] x) Q E := by
  (unfold m_need_amount; refine Yx.w_def ?_; unfold S_need_amount)
  simp_arith [Yx.startS]
  refine wR_is (v_need_row hu hr) ?_
  simp_arith [Yx.startS]
  refine wR_is (v_need_row hu hq) ?_
  simp_arith [pow60]
  refine wR_is (v_is_wholeD hd) ?_
  cases c : isw (-10 ^ 60) (10 ^ 60) d with
  | true => 
    have c' : isw (-1000000000000000000000000000000000000000000000000000000000000) 1000000000000000000000000000000000000000000000000000000000000 d = true := c
    simp_arith [c']; exact q1 c
  | false =>
    have c' : isw (-1000000000000000000000000000000000000000000000000000000000000) 1000000000000000000000000000000000000000000000000000000000000 d = false := c
    simp_arith [c']; exact q2 c
theorem w_blocked_unit {A : Int} (hu : UO us) (hr : RO us r) (hq : RO us q) (q1 : (-10 ^ 60 ≤ A ∧ A ≤ 10 ^ 60) → blk A us r q = .non → E aNoRow none x) (q2 : (-10 ^ 60 ≤ A ∧ A ≤ 10 ^ 60) → ∀ i : Int, blk A us r q = .int i → Q (.int i) x) (q3 : ¬ (-10 ^ 60 ≤ A ∧ A ≤ 10 ^ 60) → E aBadParameter (some ("value", .int A)) x) : wR (m_blocked_unit K aBadParameter aBadRow aBadUnits aNoRow [dR us, dR r, dR q, .int A] x) Q E := by
  have ie : isw (-10 ^ 60) (10 ^ 60) (.int A) = (decide (-10 ^ 60 ≤ A) && decide (A ≤ 10 ^ 60)) := rfl
  (unfold m_blocked_unit; refine Yx.w_def ?_; unfold S_blocked_unit)
  simp_arith [Yx.startS]
  refine w_need_amount hu hr hq rfl (fun h => ?_) fun h => ?_
  · have hA : -10 ^ 60 ≤ A ∧ A ≤ 10 ^ 60 := by
      rw [ie, Bool.and_eq_true, decide_eq_true_eq, decide_eq_true_eq] at h; exact h
    simp_arith [Yx.startS]
    refine w_blocked hu hr hq hA ?_
    have : blk A us r q = .non ∨ ∃ i : Int, blk A us r q = .int i := by
      unfold blk
      split
      · exact .inr ⟨_, rfl⟩
      · split
        · exact .inl rfl
        · exact .inr ⟨_, rfl⟩
    rcases this with e | ⟨i, e⟩
    · rw [e]; simp_arith [Yx.startS]; exact q1 hA e
    · rw [e]; simp_arith [Yx.startS]; exact q2 hA i e
  · refine q3 fun hA => ?_
    rw [ie, decide_eq_true hA.1, decide_eq_true hA.2] at h
    cases h
def isNon : D → Bool
  | .non => true
  | _ => false
theorem w_can_pay {A : Int} (hu : UO us) (hr : RO us r) (hq : RO us q) (hA : -10 ^ 60 ≤ A ∧ A ≤ 10 ^ 60) (qq : Q (.bl (isNon (blk A us r q))) x) : wR (m_can_pay K aBadParameter aBadRow aBadUnits [dR us, dR r, dR q, .int A] x) Q E := by
  have ie : isw (-10 ^ 60) (10 ^ 60) (.int A) = true := by
    show (decide (-10 ^ 60 ≤ A) && decide (A ≤ 10 ^ 60)) = true
    rw [decide_eq_true hA.1, decide_eq_true hA.2]; rfl
  (unfold m_can_pay; refine Yx.w_def ?_; unfold S_can_pay)
  simp_arith [Yx.startS]
  refine w_need_amount hu hr hq rfl (fun h => ?_) fun h => by rw [ie] at h; cases h
  simp_arith [Yx.startS]
  refine w_blocked hu hr hq hA ?_
  have : blk A us r q = .non ∨ ∃ i : Int, blk A us r q = .int i := by
    unfold blk
    split
    · exact .inr ⟨_, rfl⟩
    · split
      · exact .inl rfl
      · exact .inr ⟨_, rfl⟩
  rcases this with e | ⟨i, e⟩
  · rw [e] at qq ⊢; simp_arith [Yx.startS]; exact qq
  · rw [e] at qq ⊢; simp_arith [Yx.startS]; exact qq
/-- a purse -/
theorem w_law_purse {m : Nat} {s : Gst} (g : GOk m s) (h : m ≤ 800000) (hu : UD us) (qq : ∀ r s', Sr us r → GOk (m + 3) s' → Q (dR r) (some s')) : wR (m_law_purse K [.st, dR us] (some s)) Q E := by
  have l2 := hu.len
  have i1 : i62 ((us.length : Int) + 1) = true := by unfold i62; rw [decide_eq_true_eq]; omega
  obtain ⟨n, hn⟩ : ∃ n, us.length + 1 = n := ⟨_, rfl⟩
  have tn : ((us.length : Int) + 1).toNat = n := by omega
  (unfold m_law_purse; refine Yx.w_def ?_; unfold S_law_purse)
  simp_arith [List.length_map, i1, tn]
  unfold rngD
  refine wR_comp (fun i : Nat => D.int (0 + (i : Int))) (List.range n) (fun done acc y => ∃ (r : Rw) (s' : Gst), acc = r.map D.int ∧ r.length = done.length ∧ (∀ a ∈ r, 0 ≤ a ∧ a ≤ 2) ∧ y = some s' ∧ GOk (m + done.length) s') (by rw [List.length_range]; omega) ⟨[], s, rfl, rfl, by simp, rfl, g⟩ ?_ ?_
  · rintro done i left acc y e ⟨r, s', rfl, h1, h2, rfl, g'⟩
    have dl : done.length + (left.length + 1) = n := by have := congrArg List.length e; simpa using this
    refine ⟨_, rfl, ?_⟩
    simp_arith [Yx.startS]
    refine w_draw g' (by omega) (by decide) (by decide) fun k s2 k0 k1 g2 => ?_
    refine kp ⟨r ++ [k], s2, by rw [List.map_append]; rfl, by simp [h1], fun a ha => ?_, rfl, by rw [List.length_append, List.length_singleton]; exact g2⟩
    rcases List.mem_append.1 ha with ha | ha
    · exact h2 a ha
    · rw [List.mem_singleton] at ha; subst ha; omega
  · rintro acc y ⟨r, s', rfl, h1, h2, rfl, g'⟩
    rw [List.length_range] at h1
    simp_arith [List.length_map]
    exact qq r s' ⟨by omega, NN_mem.2 fun a ha => (h2 a ha).1, fun a ha => (h2 a ha).2⟩ (g'.mono (by rw [List.length_range]; omega))
end
end Hx

namespace Y85
open PySem PySem.Spec PyProof.Rows L2 RZ Yx
def top (i : Nat) : Stmt := PySem.Challenge.pw_stairyard_k85_whole_why_not_paid.main.body.getD i (.Pass ⟨0, 0, 0, 0⟩)
structure Ad where
  YardError : Addr
  BadUnits : Addr
  BadRow : Addr
  BadParameter : Addr
  NoRow : Addr
/-- they are apart -/
def Ad.Ok (ad : Ad) : Prop := [ad.YardError, ad.BadUnits, ad.BadRow, ad.BadParameter, ad.NoRow].Nodup
/-- which class is beneath which -/
def subT (ad : Ad) (C c : Addr) : Option Bool := if C = ad.BadUnits then (if c = ad.YardError then some true else if c = ad.BadUnits then some true else if c = ad.BadRow then some false else if c = ad.BadParameter then some false else if c = ad.NoRow then some false else none) else if C = ad.BadRow then (if c = ad.YardError then some true else if c = ad.BadUnits then some false else if c = ad.BadRow then some true else if c = ad.BadParameter then some false else if c = ad.NoRow then some false else none) else if C = ad.BadParameter then (if c = ad.YardError then some true else if c = ad.BadUnits then some false else if c = ad.BadRow then some false else if c = ad.BadParameter then some true else if c = ad.NoRow then some false else none) else if C = ad.NoRow then (if c = ad.YardError then some true else if c = ad.BadUnits then some false else if c = ad.BadRow then some false else if c = ad.BadParameter then some false else if c = ad.NoRow then some true else none) else none
structure Zt (K : PySem.W.Frag) (ad : Ad) : Prop where
  ex : ∀ C c b, subT ad C c = some b → PySem.W.exmOne K (.ref C) (.ref c) = some b
  is : ∀ C c b, subT ad C c = some b → ExcC K C ∧ PySem.W.kitOne K (.ref C) (.ref c) = some b
section
def lim : Nat := 1000000
variable [Tb]
abbrev s_law_heard : Stmt := top 34
def X_law_heard_0 (K : PySem.W.Frag) (ad : Ad) (Z : Zt K ad) (c : Clo K) (a : Addr) (cls : Value) (d : Option Addr) (C : Addr) (y : Option (Str × D)) : @SE _ (cbOf c) K (Bx K a cls d C y (some 2)) := letI := cbOf c; SE.tup (SA.cons (SE.str "units") (SA.cons (SE.xval a cls d C y 2 ad.BadUnits "value") (SA.cons (SE.xis a cls d C y 2 (.ref ad.YardError) (.ref ad.YardError) (fun C => subT ad C ad.YardError) (fun _ h => h) (fun C b h => Z.is C ad.YardError b h)) (SA.nil))))
def X_law_heard_1 (K : PySem.W.Frag) (ad : Ad) (Z : Zt K ad) (c : Clo K) (a : Addr) (cls : Value) (d : Option Addr) (C : Addr) (y : Option (Str × D)) : @SE _ (cbOf c) K (Bx K a cls d C y (some 2)) := letI := cbOf c; SE.tup (SA.cons (SE.str "row") (SA.cons (SE.xval a cls d C y 2 ad.BadRow "value") (SA.cons (SE.xis a cls d C y 2 (.ref ad.YardError) (.ref ad.YardError) (fun C => subT ad C ad.YardError) (fun _ h => h) (fun C b h => Z.is C ad.YardError b h)) (SA.nil))))
def X_law_heard_2 (K : PySem.W.Frag) (ad : Ad) (Z : Zt K ad) (c : Clo K) (a : Addr) (cls : Value) (d : Option Addr) (C : Addr) (y : Option (Str × D)) : @SE _ (cbOf c) K (Bx K a cls d C y (some 2)) := letI := cbOf c; SE.tup (SA.cons (SE.str "parameter") (SA.cons (SE.xval a cls d C y 2 ad.BadParameter "value") (SA.cons (SE.xis a cls d C y 2 (.ref ad.YardError) (.ref ad.YardError) (fun C => subT ad C ad.YardError) (fun _ h => h) (fun C b h => Z.is C ad.YardError b h)) (SA.nil))))
def X_law_heard_3 (K : PySem.W.Frag) (ad : Ad) (Z : Zt K ad) (c : Clo K) (a : Addr) (cls : Value) (d : Option Addr) (C : Addr) (y : Option (Str × D)) : @SE _ (cbOf c) K (Bx K a cls d C y (some 2)) := letI := cbOf c; SE.tup (SA.cons (SE.str "none") (SA.cons (SE.xis a cls d C y 2 (.ref ad.YardError) (.ref ad.YardError) (fun C => subT ad C ad.YardError) (fun _ h => h) (fun C b h => Z.is C ad.YardError b h)) (SA.nil)))
def S_law_heard (K : PySem.W.Frag) (ad : Ad) (Z : Zt K ad) (c : Clo K) : @SS _ (cbOf c) K := letI := cbOf c; SS.seq (SS.asg (SG.name K 1) (SE.non)) (SS.seq (SS.try (subT ad) (fun C c b h => Z.ex C c b h) (SS.seq (SS.asg (SG.name K 1) (SE.tup (SA.cons (SE.str "is") (SA.cons (SE.hole c _) (SA.nil))))) (SS.skip)) [{ c := ad.BadUnits, nm := some 2, e := X_law_heard_0 K ad Z c, te := fun a cls d => (X_law_heard_0 K ad Z c a cls d 0 none).t W0, ef := fun C y => (X_law_heard_0 K ad Z c 0 .none none C y).f, act := .asg 1, ht := fun _ _ _ _ _ => rfl, hf := fun _ _ _ _ _ => rfl }, { c := ad.BadRow, nm := some 2, e := X_law_heard_1 K ad Z c, te := fun a cls d => (X_law_heard_1 K ad Z c a cls d 0 none).t W0, ef := fun C y => (X_law_heard_1 K ad Z c 0 .none none C y).f, act := .asg 1, ht := fun _ _ _ _ _ => rfl, hf := fun _ _ _ _ _ => rfl }, { c := ad.BadParameter, nm := some 2, e := X_law_heard_2 K ad Z c, te := fun a cls d => (X_law_heard_2 K ad Z c a cls d 0 none).t W0, ef := fun C y => (X_law_heard_2 K ad Z c 0 .none none C y).f, act := .asg 1, ht := fun _ _ _ _ _ => rfl, hf := fun _ _ _ _ _ => rfl }, { c := ad.NoRow, nm := some 2, e := X_law_heard_3 K ad Z c, te := fun a cls d => (X_law_heard_3 K ad Z c a cls d 0 none).t W0, ef := fun C y => (X_law_heard_3 K ad Z c 0 .none none C y).f, act := .asg 1, ht := fun _ _ _ _ _ => rfl, hf := fun _ _ _ _ _ => rfl }] (len_of rfl)) (SS.seq (SS.ret (SE.var 1)) (SS.skip)))
variable [Cb]
abbrev s_is_from : Stmt := top 7
def S_is_from (K : PySem.W.Frag) (ad : Ad) : SS K := SS.seq (SS.ret (SE.andV (SE.isi (SE.var 0) "int") (SE.andV (SE.notV (SE.isi (SE.var 0) "bool")) (SE.bin (opGe K) (SE.var 0) (SE.var 1))))) (SS.skip)
def m_is_from (K : PySem.W.Frag) (ad : Ad) : MF := mOf 2 2 (S_is_from K ad).f
abbrev s_is_whole : Stmt := top 8
def S_is_whole (K : PySem.W.Frag) (ad : Ad) : SS K := SS.seq (SS.ret (SE.andV (SE.callF (m_is_from K ad) (SA.cons (SE.var 0) (SA.cons (SE.var 1) (SA.nil)))) (SE.bin (opLe K) (SE.var 0) (SE.var 2)))) (SS.skip)
def m_is_whole (K : PySem.W.Frag) (ad : Ad) : MF := mOf 3 3 (S_is_whole K ad).f
abbrev s_is_tuple_of : Stmt := top 9
def S_is_tuple_of (K : PySem.W.Frag) (ad : Ad) : SS K := SS.seq (SS.ret (SE.andV (SE.isi (SE.var 0) "tuple") (SE.bin (opEq K) (SE.seq (opLen K) (SQ.of (SE.var 0))) (SE.var 1)))) (SS.skip)
def m_is_tuple_of (K : PySem.W.Frag) (ad : Ad) : MF := mOf 2 2 (S_is_tuple_of K ad).f
abbrev s_is_numbers : Stmt := top 10
def S_is_numbers (K : PySem.W.Frag) (ad : Ad) : SS K := SS.seq (SS.ret (SE.andV (SE.callF (m_is_tuple_of K ad) (SA.cons (SE.var 1) (SA.cons (SE.bin (opAdd K) (SE.seq (opLen K) (SQ.of (SE.var 0))) (SE.int 1)) (SA.nil)))) (SE.seq (opAll K) (SQ.ofN (SN.comp [4] (SI.any (SE.var 1)) (SG.name K 4) (ST.tru1) (SE.callF (m_is_whole K ad) (SA.cons (SE.var 4) (SA.cons (SE.var 2) (SA.cons (SE.var 3) (SA.nil))))) (ofb rfl)))))) (SS.skip)
def m_is_numbers (K : PySem.W.Frag) (ad : Ad) : MF := mOf 4 5 (S_is_numbers K ad).f
abbrev s_is_row : Stmt := top 11
def S_is_row (K : PySem.W.Frag) (ad : Ad) : SS K := SS.seq (SS.ret (SE.callF (m_is_numbers K ad) (SA.cons (SE.var 0) (SA.cons (SE.var 1) (SA.cons (SE.int 0) (SA.cons (SE.bin (opPow K) (SE.int 10) (SE.int 60)) (SA.nil))))))) (SS.skip)
def m_is_row (K : PySem.W.Frag) (ad : Ad) : MF := mOf 2 2 (S_is_row K ad).f
abbrev s_need_units : Stmt := top 13
def S_need_units (K : PySem.W.Frag) (ad : Ad) : SS K := SS.seq (SS.ite (ST.or (ST.not (ST.val (SE.isi (SE.var 0) "tuple"))) (ST.val (SE.bin (opGt K) (SE.seq (opLen K) (SQ.of (SE.var 0))) (SE.int 3)))) (SS.seq (SS.raise1 ad.BadUnits "value" (SE.var 0)) (SS.skip)) (SS.skip)) (SS.seq (SS.ite (ST.not (ST.val (SE.seq (opAll K) (SQ.ofN (SN.comp [1] (SI.any (SE.var 0)) (SG.name K 1) (ST.tru1) (SE.callF (m_is_whole K ad) (SA.cons (SE.var 1) (SA.cons (SE.int 2) (SA.cons (SE.int 10) (SA.nil))))) (ofb rfl)))))) (SS.seq (SS.raise1 ad.BadUnits "value" (SE.var 0)) (SS.skip)) (SS.skip)) (SS.seq (SS.ret (SE.var 0)) (SS.skip)))
def m_need_units (K : PySem.W.Frag) (ad : Ad) : MF := mOf 1 2 (S_need_units K ad).f
abbrev s_sizes : Stmt := top 14
def S_sizes (K : PySem.W.Frag) (ad : Ad) : SS K := SS.seq (SS.expr (SE.callF (m_need_units K ad) (SA.cons (SE.var 0) (SA.nil)))) (SS.seq (SS.asgO 1 (SN.lst (SA.cons (SE.int 1) (SA.nil)))) (SS.seq (SS.for (SI.rev (SE.var 0)) (SG.name K 2) (SS.seq (SS.append 1 (SE.bin (opMul K) (SE.var 2) (SE.ixO 1 (SE.un (opNeg K) (SE.int 1))))) (SS.skip))) (SS.frz 1 (SS.seq (SS.ret (SE.seq (opTuple K) (SQ.of (SE.rvl (SE.var 1))))) (SS.skip)))))
def m_sizes (K : PySem.W.Frag) (ad : Ad) : MF := mOf 1 3 (S_sizes K ad).f
abbrev s_need_row : Stmt := top 16
def S_need_row (K : PySem.W.Frag) (ad : Ad) : SS K := SS.seq (SS.expr (SE.callF (m_need_units K ad) (SA.cons (SE.var 0) (SA.nil)))) (SS.seq (SS.ite (ST.not (ST.val (SE.callF (m_is_row K ad) (SA.cons (SE.var 0) (SA.cons (SE.var 1) (SA.nil)))))) (SS.seq (SS.raise1 ad.BadRow "value" (SE.var 1)) (SS.skip)) (SS.skip)) (SS.seq (SS.ret (SE.var 1)) (SS.skip)))
def m_need_row (K : PySem.W.Frag) (ad : Ad) : MF := mOf 2 2 (S_need_row K ad).f
abbrev s_need_amount : Stmt := top 20
def S_need_amount (K : PySem.W.Frag) (ad : Ad) : SS K := SS.seq (SS.expr (SE.callF (m_need_row K ad) (SA.cons (SE.var 0) (SA.cons (SE.var 1) (SA.nil))))) (SS.seq (SS.expr (SE.callF (m_need_row K ad) (SA.cons (SE.var 0) (SA.cons (SE.var 2) (SA.nil))))) (SS.seq (SS.ite (ST.not (ST.val (SE.callF (m_is_whole K ad) (SA.cons (SE.var 3) (SA.cons (SE.un (opNeg K) (SE.bin (opPow K) (SE.int 10) (SE.int 60))) (SA.cons (SE.bin (opPow K) (SE.int 10) (SE.int 60)) (SA.nil))))))) (SS.seq (SS.raise1 ad.BadParameter "value" (SE.var 3)) (SS.skip)) (SS.skip)) (SS.skip)))
def m_need_amount (K : PySem.W.Frag) (ad : Ad) : MF := mOf 4 4 (S_need_amount K ad).f
abbrev s_totals_from : Stmt := top 21
def S_totals_from (K : PySem.W.Frag) (ad : Ad) : SS K := SS.seq (SS.asgO 2 (SN.lst (SA.cons (SE.int 0) (SA.nil)))) (SS.seq (SS.for (SI.zipG (SE.rv (SE.callF (m_sizes K ad) (SA.cons (SE.var 0) (SA.nil))) (SO.none) (SO.none)) (SE.rv (SE.var 1) (SO.none) (SO.none))) (SG.tup 2 (SGs.cons (SG.name K 3) (SGs.cons (SG.name K 4) (SGs.nil K)))) (SS.seq (SS.append 2 (SE.bin (opAdd K) (SE.ixO 2 (SE.un (opNeg K) (SE.int 1))) (SE.bin (opMul K) (SE.var 3) (SE.var 4)))) (SS.skip))) (SS.frz 2 (SS.seq (SS.ret (SE.rvl (SE.var 2))) (SS.skip))))
def m_totals_from (K : PySem.W.Frag) (ad : Ad) : MF := mOf 2 5 (S_totals_from K ad).f
abbrev s_blocked : Stmt := top 22
def S_blocked (K : PySem.W.Frag) (ad : Ad) : SS K := SS.seq (SS.par2 6 7 (SX.cons (SE.callF (m_totals_from K ad) (SA.cons (SE.var 0) (SA.cons (SE.var 1) (SA.nil)))) (SX.cons (SE.callF (m_totals_from K ad) (SA.cons (SE.var 0) (SA.cons (SE.var 2) (SA.nil)))) (SX.nil)))) (SS.seq (SS.asg (SG.name K 4) (SE.callF (m_sizes K ad) (SA.cons (SE.var 0) (SA.nil)))) (SS.seq (SS.for (SI.rvr2 (SE.int 1) (SE.seq (opLen K) (SQ.of (SE.var 4)))) (SG.name K 5) (SS.seq (SS.ite (ST.val (SE.bin (opLt K) (SE.bin (opMul K) (SE.bin (opDiv K) (SE.bin (opAdd K) (SE.var 3) (SE.bin (opIx K) (SE.var 7) (SE.var 5))) (SE.bin (opIx K) (SE.var 4) (SE.bin (opSub K) (SE.var 5) (SE.int 1)))) (SE.bin (opIx K) (SE.var 4) (SE.bin (opSub K) (SE.var 5) (SE.int 1)))) (SE.bin (opSub K) (SE.var 3) (SE.bin (opIx K) (SE.var 6) (SE.var 5))))) (SS.seq (SS.ret (SE.var 5)) (SS.skip)) (SS.skip)) (SS.skip))) (SS.seq (SS.ret (SE.ite (ST.val (SE.chain (opLe K) (opLe K) (SE.un (opNeg K) (SE.bin (opIx K) (SE.var 7) (SE.int 0))) (SE.var 3) (SE.bin (opIx K) (SE.var 6) (SE.int 0)))) (SE.non) (SE.int 0))) (SS.skip))))
def m_blocked (K : PySem.W.Frag) (ad : Ad) : MF := mOf 4 8 (S_blocked K ad).f
abbrev s_can_pay : Stmt := top 18
def S_can_pay (K : PySem.W.Frag) (ad : Ad) : SS K := SS.seq (SS.expr (SE.callF (m_need_amount K ad) (SA.cons (SE.var 0) (SA.cons (SE.var 1) (SA.cons (SE.var 2) (SA.cons (SE.var 3) (SA.nil))))))) (SS.seq (SS.ret (SE.bin (opIs K) (SE.callF (m_blocked K ad) (SA.cons (SE.var 0) (SA.cons (SE.var 1) (SA.cons (SE.var 2) (SA.cons (SE.var 3) (SA.nil)))))) (SE.non))) (SS.skip))
def m_can_pay (K : PySem.W.Frag) (ad : Ad) : MF := mOf 4 4 (S_can_pay K ad).f
abbrev s_blocked_unit : Stmt := top 19
def S_blocked_unit (K : PySem.W.Frag) (ad : Ad) : SS K := SS.seq (SS.expr (SE.callF (m_need_amount K ad) (SA.cons (SE.var 0) (SA.cons (SE.var 1) (SA.cons (SE.var 2) (SA.cons (SE.var 3) (SA.nil))))))) (SS.seq (SS.asg (SG.name K 4) (SE.callF (m_blocked K ad) (SA.cons (SE.var 0) (SA.cons (SE.var 1) (SA.cons (SE.var 2) (SA.cons (SE.var 3) (SA.nil))))))) (SS.seq (SS.ite (ST.val (SE.bin (opIs K) (SE.var 4) (SE.non))) (SS.seq (SS.raise0 ad.NoRow) (SS.skip)) (SS.skip)) (SS.seq (SS.ret (SE.var 4)) (SS.skip))))
def m_blocked_unit (K : PySem.W.Frag) (ad : Ad) : MF := mOf 4 5 (S_blocked_unit K ad).f
abbrev s_law_mixed : Stmt := top 24
def S_law_mixed (K : PySem.W.Frag) (ad : Ad) : SS K := SS.seq (SS.asg (SG.name K 0) (SE.bin (opMod K) (SE.call (opInt K) (SA.cons (SE.var 0) (SA.nil))) (SE.int 2147483647))) (SS.seq (SS.ret (SE.bin (opMod K) (SE.bin (opMul K) (SE.bin (opMod K) (SE.bin (opAdd K) (SE.bin (opAdd K) (SE.bin (opMul K) (SE.var 0) (SE.bin (opAdd K) (SE.int 48271) (SE.bin (opMul K) (SE.bin (opMul K) (SE.int 2) (SE.var 1)) (SE.var 1)))) (SE.bin (opMul K) (SE.int 69621) (SE.var 1))) (SE.int 11)) (SE.int 2147483647)) (SE.int 69621)) (SE.int 2147483629))) (SS.skip))
def m_law_mixed (K : PySem.W.Frag) (ad : Ad) : MF := mOf 2 2 (S_law_mixed K ad).f
abbrev s_law_draw : Stmt := top 26
def S_law_draw (K : PySem.W.Frag) (ad : Ad) : SS K := SS.seq (SS.asg (SG.name K 2) (SE.stAt 0)) (SS.seq (SS.stAt 0 (SE.bin (opAdd K) (SE.var 2) (SE.int 1))) (SS.seq (SS.asg (SG.name K 3) (SE.bin (opMod K) (SE.call (opInt K) (SA.cons (SE.var 2) (SA.nil))) (SE.seq (opLen K) (SQ.of (SE.stCells 0))))) (SS.seq (SS.asg (SG.name K 4) (SE.stLeft 0 (SE.var 3))) (SS.seq (SS.ite (ST.val (SE.bin (opGt K) (SE.var 4) (SE.int 0))) (SS.seq (SS.stLeft 0 (SE.var 3) (SE.bin (opDiv K) (SE.var 4) (SE.var 1))) (SS.seq (SS.ret (SE.bin (opMod K) (SE.call (opInt K) (SA.cons (SE.var 4) (SA.nil))) (SE.var 1))) (SS.skip))) (SS.skip)) (SS.seq (SS.asg (SG.name K 5) (SE.callF (m_law_mixed K ad) (SA.cons (SE.callF (m_law_mixed K ad) (SA.cons (SE.bin (opIx K) (SE.stCells 0) (SE.var 3)) (SA.cons (SE.var 2) (SA.nil)))) (SA.cons (SE.bin (opAdd K) (SE.int 40) (SE.var 2)) (SA.nil))))) (SS.seq (SS.ret (SE.bin (opMod K) (SE.bin (opDiv K) (SE.call (opInt K) (SA.cons (SE.bin (opAdd K) (SE.bin (opMul K) (SE.var 5) (SE.int 2147483647)) (SE.callF (m_law_mixed K ad) (SA.cons (SE.var 5) (SA.cons (SE.bin (opAdd K) (SE.int 7) (SE.var 2)) (SA.nil))))) (SA.nil))) (SE.int 64)) (SE.var 1))) (SS.skip)))))))
def m_law_draw (K : PySem.W.Frag) (ad : Ad) : MF := mOf 2 6 (S_law_draw K ad).f
abbrev s_law_units : Stmt := top 27
def S_law_units (K : PySem.W.Frag) (ad : Ad) : SS K := SS.seq (SS.ret (SE.seq (opTuple K) (SQ.ofN (SN.comp [1] (SI.rng1 (SE.callF (m_law_draw K ad) (SA.cons (SE.var 0) (SA.cons (SE.int 3) (SA.nil))))) (SG.name K 1) (ST.tru1) (SE.bin (opAdd K) (SE.int 2) (SE.callF (m_law_draw K ad) (SA.cons (SE.var 0) (SA.cons (SE.int 3) (SA.nil))))) (ofb rfl))))) (SS.skip)
def m_law_units (K : PySem.W.Frag) (ad : Ad) : MF := mOf 1 2 (S_law_units K ad).f
abbrev s_law_sizes : Stmt := top 28
def S_law_sizes (K : PySem.W.Frag) (ad : Ad) : SS K := SS.seq (SS.asg (SG.name K 1) (SE.tup (SA.cons (SE.int 1) (SA.nil)))) (SS.seq (SS.for (SI.any (SE.rv (SE.var 0) (SO.none) (SO.none))) (SG.name K 2) (SS.seq (SS.asg (SG.name K 1) (SE.bin (opAdd K) (SE.tup (SA.cons (SE.bin (opMul K) (SE.bin (opIx K) (SE.var 1) (SE.int 0)) (SE.var 2)) (SA.nil))) (SE.var 1))) (SS.skip))) (SS.seq (SS.ret (SE.var 1)) (SS.skip)))
def m_law_sizes (K : PySem.W.Frag) (ad : Ad) : MF := mOf 1 3 (S_law_sizes K ad).f
abbrev s_law_total : Stmt := top 29
def S_law_total (K : PySem.W.Frag) (ad : Ad) : SS K := SS.seq (SS.ret (SE.seq (opSum K) (SQ.ofN (SN.comp [2, 3] (SI.zipG (SE.var 1) (SE.callF (m_law_sizes K ad) (SA.cons (SE.var 0) (SA.nil)))) (SG.tup 2 (SGs.cons (SG.name K 2) (SGs.cons (SG.name K 3) (SGs.nil K)))) (ST.tru1) (SE.bin (opMul K) (SE.var 2) (SE.var 3)) (ofb rfl))))) (SS.skip)
def m_law_total (K : PySem.W.Frag) (ad : Ad) : MF := mOf 2 4 (S_law_total K ad).f
abbrev s_law_parts : Stmt := top 30
def S_law_parts (K : PySem.W.Frag) (ad : Ad) : SS K := SS.seq (SS.asg (SG.name K 1) (SE.ofN (SN.lst (SA.cons (SE.tup (SA.nil)) (SA.nil))))) (SS.seq (SS.for (SI.any (SE.var 0)) (SG.name K 2) (SS.seq (SS.asg (SG.name K 3) (SE.ofN (SN.lst (SA.nil)))) (SS.seq (SS.for (SI.any (SE.var 1)) (SG.name K 4) (SS.seq (SS.asg (SG.name K 3) (SE.bin (opAdd K) (SE.var 3) (SE.ofN (SN.comp [5] (SI.rng1 (SE.bin (opAdd K) (SE.var 2) (SE.int 1))) (SG.name K 5) (ST.tru1) (SE.bin (opAdd K) (SE.var 4) (SE.tup (SA.cons (SE.var 5) (SA.nil)))) (ofb rfl))))) (SS.skip))) (SS.seq (SS.asg (SG.name K 1) (SE.ofN (SN.seq (opList K) (SQ.of (SE.var 3))))) (SS.skip))))) (SS.seq (SS.ret (SE.var 1)) (SS.skip)))
def m_law_parts (K : PySem.W.Frag) (ad : Ad) : MF := mOf 1 6 (S_law_parts K ad).f
abbrev s_law_purse : Stmt := top 31
def S_law_purse (K : PySem.W.Frag) (ad : Ad) : SS K := SS.seq (SS.ret (SE.seq (opTuple K) (SQ.ofN (SN.comp [2] (SI.rng1 (SE.bin (opAdd K) (SE.seq (opLen K) (SQ.of (SE.var 1))) (SE.int 1))) (SG.name K 2) (ST.tru1) (SE.callF (m_law_draw K ad) (SA.cons (SE.var 0) (SA.cons (SE.int 3) (SA.nil)))) (ofb rfl))))) (SS.skip)
def m_law_purse (K : PySem.W.Frag) (ad : Ad) : MF := mOf 2 3 (S_law_purse K ad).f
abbrev s_law_sums : Stmt := top 32
def S_law_sums (K : PySem.W.Frag) (ad : Ad) : SS K := SS.seq (SS.newD 2 true) (SS.seq (SS.for (SI.any (SE.callF (m_law_parts K ad) (SA.cons (SE.var 1) (SA.nil)))) (SG.name K 3) (SS.seq (SS.dputK 2 (SE.callF (m_law_total K ad) (SA.cons (SE.var 0) (SA.cons (SE.var 3) (SA.nil)))) (SE.bl true)) (SS.skip))) (SS.frzD 2 (SS.seq (SS.ret (SE.var 2)) (SS.skip))))
def m_law_sums (K : PySem.W.Frag) (ad : Ad) : MF := mOf 2 4 (S_law_sums K ad).f
abbrev s_law_paid : Stmt := top 33
def S_law_paid (K : PySem.W.Frag) (ad : Ad) : SS K := SS.seq (SS.par2 4 5 (SX.consD0 true (SX.cons (SE.callF (m_law_sums K ad) (SA.cons (SE.var 0) (SA.cons (SE.var 2) (SA.nil)))) (SX.nil)))) (SS.seq (SS.for (SI.dct (SE.callF (m_law_sums K ad) (SA.cons (SE.var 0) (SA.cons (SE.var 1) (SA.nil))))) (SG.name K 3) (SS.seq (SS.for (SI.dct (SE.var 5)) (SG.name K 6) (SS.seq (SS.dputK 4 (SE.bin (opSub K) (SE.var 3) (SE.var 6)) (SE.bl true)) (SS.skip))) (SS.skip))) (SS.frzD 4 (SS.seq (SS.ret (SE.var 4)) (SS.skip))))
def m_law_paid (K : PySem.W.Frag) (ad : Ad) : MF := mOf 3 7 (S_law_paid K ad).f
abbrev s_law_like : Stmt := top 35
def S_law_like (K : PySem.W.Frag) (ad : Ad) : SS K := SS.seq (SS.ret (SE.bin (opEq K) (SE.call (opRepr K) (SA.cons (SE.var 0) (SA.nil))) (SE.call (opRepr K) (SA.cons (SE.var 1) (SA.nil))))) (SS.skip)
def m_law_like (K : PySem.W.Frag) (ad : Ad) : MF := mOf 2 2 (S_law_like K ad).f
abbrev s_law_rests : Stmt := top 36
def S_law_rests (K : PySem.W.Frag) (ad : Ad) : SS K := SS.seq (SS.par2 6 7 (SX.cons (SE.bin (opMul K) (SE.tup (SA.cons (SE.int 0) (SA.nil))) (SE.var 3)) (SX.cons (SE.bin (opIx K) (SE.callF (m_law_sizes K ad) (SA.cons (SE.var 0) (SA.nil))) (SE.bin (opSub K) (SE.var 3) (SE.int 1))) (SX.nil)))) (SS.seq (SS.newD 4 true) (SS.seq (SS.for (SI.dct (SE.callF (m_law_paid K ad) (SA.cons (SE.var 0) (SA.cons (SE.bin (opAdd K) (SE.var 6) (SE.sl (SE.var 1) (SO.some (SE.var 3)) (SO.none))) (SA.cons (SE.bin (opAdd K) (SE.var 6) (SE.sl (SE.var 2) (SO.some (SE.var 3)) (SO.none))) (SA.nil)))))) (SG.name K 5) (SS.seq (SS.dputK 4 (SE.bin (opMod K) (SE.call (opInt K) (SA.cons (SE.var 5) (SA.nil))) (SE.var 7)) (SE.bl true)) (SS.skip))) (SS.frzD 4 (SS.seq (SS.ret (SE.var 4)) (SS.skip)))))
def m_law_rests (K : PySem.W.Frag) (ad : Ad) : MF := mOf 4 8 (S_law_rests K ad).f
abbrev s_law_right : Stmt := top 37
def L_law_right_0 (K : PySem.W.Frag) (ad : Ad) (Z : Zt K ad) : SE K B0 := SE.callF (m_blocked_unit K ad) (SA.cons (SE.var 1) (SA.cons (SE.var 4) (SA.cons (SE.var 5) (SA.cons (SE.var 3) (SA.nil)))))
def S_law_right (K : PySem.W.Frag) (ad : Ad) (Z : Zt K ad) : SS K := SS.seq (SS.asg (SG.name K 1) (SE.callF (m_law_units K ad) (SA.cons (SE.var 0) (SA.nil)))) (SS.seq (SS.asg (SG.tup 2 (SGs.cons (SG.name K 4) (SGs.cons (SG.name K 5) (SGs.nil K)))) (SE.tup (SA.cons (SE.callF (m_law_purse K ad) (SA.cons (SE.var 0) (SA.cons (SE.var 1) (SA.nil)))) (SA.cons (SE.callF (m_law_purse K ad) (SA.cons (SE.var 0) (SA.cons (SE.var 1) (SA.nil)))) (SA.nil))))) (SS.seq (SS.asg (SG.tup 2 (SGs.cons (SG.name K 6) (SGs.cons (SG.name K 7) (SGs.nil K)))) (SE.tup (SA.cons (SE.callF (m_law_paid K ad) (SA.cons (SE.var 1) (SA.cons (SE.var 4) (SA.cons (SE.var 5) (SA.nil))))) (SA.cons (SE.callF (m_law_sizes K ad) (SA.cons (SE.var 1) (SA.nil))) (SA.nil))))) (SS.seq (SS.asg (SG.name K 2) (SE.ofN (SN.comp [10] (SI.rng2 (SE.int 1) (SE.bin (opAdd K) (SE.seq (opLen K) (SQ.of (SE.var 1))) (SE.int 1))) (SG.name K 10) (ST.tru1) (SE.callF (m_law_rests K ad) (SA.cons (SE.var 1) (SA.cons (SE.var 4) (SA.cons (SE.var 5) (SA.cons (SE.var 10) (SA.nil)))))) (ofb rfl)))) (SS.seq (SS.for (SI.rng2 (SE.bin (opSub K) (SE.un (opNeg K) (SE.callF (m_law_total K ad) (SA.cons (SE.var 1) (SA.cons (SE.var 5) (SA.nil))))) (SE.int 2)) (SE.bin (opAdd K) (SE.callF (m_law_total K ad) (SA.cons (SE.var 1) (SA.cons (SE.var 4) (SA.nil)))) (SE.int 3))) (SG.name K 3) (SS.seq (SS.asg (SG.name K 8) (SE.bin (opAdd K) (SE.ofN (SN.lst (SA.cons (SE.int 0) (SA.nil)))) (SE.ofN (SN.comp [10] (SI.rng2 (SE.int 1) (SE.bin (opAdd K) (SE.seq (opLen K) (SQ.of (SE.var 1))) (SE.int 1))) (SG.name K 10) (ST.val (SE.inD (SE.bin (opMod K) (SE.call (opInt K) (SA.cons (SE.var 3) (SA.nil))) (SE.bin (opIx K) (SE.var 7) (SE.bin (opSub K) (SE.var 10) (SE.int 1)))) (SE.bin (opIx K) (SE.var 2) (SE.bin (opSub K) (SE.var 10) (SE.int 1))) true)) (SE.var 10) (ofb rfl))))) (SS.seq (SS.asg (SG.name K 9) (SE.ite (ST.val (SE.inD (SE.var 3) (SE.var 6) false)) (SE.tup (SA.cons (SE.str "none") (SA.cons (SE.bl true) (SA.nil)))) (SE.tup (SA.cons (SE.str "is") (SA.cons (SE.bin (opIx K) (SE.var 8) (SE.un (opNeg K) (SE.int 1))) (SA.nil)))))) (SS.seq (SS.ite (ST.not (ST.val (SE.callF (m_law_like K ad) (SA.cons (SE.lam 3 (S_law_heard K ad Z) (L_law_right_0 K ad Z)) (SA.cons (SE.var 9) (SA.nil)))))) (SS.seq (SS.ret (SE.bl false)) (SS.skip)) (SS.skip)) (SS.skip))))) (SS.seq (SS.ret (SE.bl true)) (SS.skip))))))
def m_law_right (K : PySem.W.Frag) (ad : Ad) (Z : Zt K ad) : MF := mOf 1 11 (S_law_right K ad Z).f
abbrev s_law_by_hand : Stmt := top 38
def L_law_by_hand_0 (K : PySem.W.Frag) (ad : Ad) (Z : Zt K ad) : SE K B0 := SE.callF (m_blocked_unit K ad) (SA.cons (SE.tup (SA.cons (SE.int 2) (SA.cons (SE.int 3) (SA.nil)))) (SA.cons (SE.tup (SA.cons (SE.int 1) (SA.cons (SE.int 0) (SA.cons (SE.int 1) (SA.nil))))) (SA.cons (SE.tup (SA.cons (SE.int 0) (SA.cons (SE.int 0) (SA.cons (SE.int 2) (SA.nil))))) (SA.cons (SE.int 3) (SA.nil)))))
def L_law_by_hand_1 (K : PySem.W.Frag) (ad : Ad) (Z : Zt K ad) : SE K B0 := SE.callF (m_blocked_unit K ad) (SA.cons (SE.tup (SA.cons (SE.int 2) (SA.cons (SE.int 3) (SA.nil)))) (SA.cons (SE.tup (SA.cons (SE.int 1) (SA.cons (SE.int 0) (SA.cons (SE.int 1) (SA.nil))))) (SA.cons (SE.tup (SA.cons (SE.int 0) (SA.cons (SE.int 0) (SA.cons (SE.int 2) (SA.nil))))) (SA.cons (SE.int 12) (SA.nil)))))
def L_law_by_hand_2 (K : PySem.W.Frag) (ad : Ad) (Z : Zt K ad) : SE K B0 := SE.callF (m_blocked_unit K ad) (SA.cons (SE.tup (SA.cons (SE.int 2) (SA.cons (SE.int 3) (SA.nil)))) (SA.cons (SE.tup (SA.cons (SE.int 1) (SA.cons (SE.int 0) (SA.cons (SE.int 0) (SA.nil))))) (SA.cons (SE.tup (SA.cons (SE.int 0) (SA.cons (SE.int 0) (SA.cons (SE.int 0) (SA.nil))))) (SA.cons (SE.int 2) (SA.nil)))))
def L_law_by_hand_3 (K : PySem.W.Frag) (ad : Ad) (Z : Zt K ad) : SE K B0 := SE.callF (m_blocked_unit K ad) (SA.cons (SE.tup (SA.cons (SE.int 10) (SA.nil))) (SA.cons (SE.tup (SA.cons (SE.var 0) (SA.cons (SE.int 4) (SA.nil)))) (SA.cons (SE.tup (SA.cons (SE.int 0) (SA.cons (SE.int 4) (SA.nil)))) (SA.cons (SE.bin (opSub K) (SE.bin (opMul K) (SE.var 0) (SE.int 10)) (SE.int 5)) (SA.nil)))))
def L_law_by_hand_4 (K : PySem.W.Frag) (ad : Ad) (Z : Zt K ad) : SE K B0 := SE.callF (m_blocked_unit K ad) (SA.cons (SE.tup (SA.cons (SE.int 10) (SA.nil))) (SA.cons (SE.tup (SA.cons (SE.var 0) (SA.cons (SE.int 4) (SA.nil)))) (SA.cons (SE.tup (SA.cons (SE.int 0) (SA.cons (SE.int 4) (SA.nil)))) (SA.cons (SE.bin (opSub K) (SE.bin (opPow K) (SE.int 10) (SE.int 59)) (SE.int 4)) (SA.nil)))))
def L_law_by_hand_5 (K : PySem.W.Frag) (ad : Ad) (Z : Zt K ad) : SE K B0 := SE.callF (m_blocked_unit K ad) (SA.cons (SE.tup (SA.cons (SE.int 10) (SA.nil))) (SA.cons (SE.tup (SA.cons (SE.var 0) (SA.cons (SE.int 4) (SA.nil)))) (SA.cons (SE.tup (SA.cons (SE.int 0) (SA.cons (SE.int 4) (SA.nil)))) (SA.cons (SE.un (opNeg K) (SE.int 5)) (SA.nil)))))
def L_law_by_hand_6 (K : PySem.W.Frag) (ad : Ad) (Z : Zt K ad) : SE K B0 := SE.callF (m_blocked_unit K ad) (SA.cons (SE.tup (SA.nil)) (SA.cons (SE.tup (SA.cons (SE.var 0) (SA.nil))) (SA.cons (SE.tup (SA.cons (SE.int 0) (SA.nil))) (SA.cons (SE.un (opNeg K) (SE.int 1)) (SA.nil)))))
def L_law_by_hand_7 (K : PySem.W.Frag) (ad : Ad) (Z : Zt K ad) : SE K B0 := SE.callF (m_blocked_unit K ad) (SA.cons (SE.tup (SA.cons (SE.int 1) (SA.nil))) (SA.cons (SE.non) (SA.cons (SE.non) (SA.cons (SE.non) (SA.nil)))))
def L_law_by_hand_8 (K : PySem.W.Frag) (ad : Ad) (Z : Zt K ad) : SE K B0 := SE.callF (m_blocked_unit K ad) (SA.cons (SE.tup (SA.nil)) (SA.cons (SE.non) (SA.cons (SE.non) (SA.cons (SE.non) (SA.nil)))))
def L_law_by_hand_9 (K : PySem.W.Frag) (ad : Ad) (Z : Zt K ad) : SE K B0 := SE.callF (m_blocked_unit K ad) (SA.cons (SE.tup (SA.nil)) (SA.cons (SE.tup (SA.cons (SE.int 1) (SA.nil))) (SA.cons (SE.tup (SA.cons (SE.int 1) (SA.cons (SE.int 1) (SA.nil)))) (SA.cons (SE.non) (SA.nil)))))
def L_law_by_hand_10 (K : PySem.W.Frag) (ad : Ad) (Z : Zt K ad) : SE K B0 := SE.callF (m_blocked_unit K ad) (SA.cons (SE.tup (SA.nil)) (SA.cons (SE.tup (SA.cons (SE.int 1) (SA.nil))) (SA.cons (SE.tup (SA.cons (SE.int 1) (SA.nil))) (SA.cons (SE.bin (opAdd K) (SE.var 0) (SE.int 1)) (SA.nil)))))
def S_law_by_hand (K : PySem.W.Frag) (ad : Ad) (Z : Zt K ad) : SS K := SS.seq (SS.asg (SG.name K 0) (SE.bin (opPow K) (SE.int 10) (SE.int 60))) (SS.seq (SS.asgO 1 (SN.lst (SA.cons (SE.lam 3 (S_law_heard K ad Z) (L_law_by_hand_0 K ad Z)) (SA.nil)))) (SS.seq (SS.append 1 (SE.lam 3 (S_law_heard K ad Z) (L_law_by_hand_1 K ad Z))) (SS.seq (SS.append 1 (SE.lam 3 (S_law_heard K ad Z) (L_law_by_hand_2 K ad Z))) (SS.seq (SS.append 1 (SE.lam 3 (S_law_heard K ad Z) (L_law_by_hand_3 K ad Z))) (SS.seq (SS.append 1 (SE.lam 3 (S_law_heard K ad Z) (L_law_by_hand_4 K ad Z))) (SS.seq (SS.append 1 (SE.lam 3 (S_law_heard K ad Z) (L_law_by_hand_5 K ad Z))) (SS.seq (SS.append 1 (SE.lam 3 (S_law_heard K ad Z) (L_law_by_hand_6 K ad Z))) (SS.seq (SS.append 1 (SE.lam 3 (S_law_heard K ad Z) (L_law_by_hand_7 K ad Z))) (SS.seq (SS.append 1 (SE.lam 3 (S_law_heard K ad Z) (L_law_by_hand_8 K ad Z))) (SS.seq (SS.append 1 (SE.lam 3 (S_law_heard K ad Z) (L_law_by_hand_9 K ad Z))) (SS.seq (SS.append 1 (SE.lam 3 (S_law_heard K ad Z) (L_law_by_hand_10 K ad Z))) (SS.seq (SS.asg (SG.name K 2) (SE.ofN (SN.lst (SA.cons (SE.tup (SA.cons (SE.str "is") (SA.cons (SE.int 1) (SA.nil)))) (SA.cons (SE.tup (SA.cons (SE.str "is") (SA.cons (SE.int 0) (SA.nil)))) (SA.cons (SE.tup (SA.cons (SE.str "is") (SA.cons (SE.int 2) (SA.nil)))) (SA.cons (SE.tup (SA.cons (SE.str "parameter") (SA.cons (SE.bin (opSub K) (SE.bin (opMul K) (SE.var 0) (SE.int 10)) (SE.int 5)) (SA.cons (SE.bl true) (SA.nil))))) (SA.cons (SE.tup (SA.cons (SE.str "none") (SA.cons (SE.bl true) (SA.nil)))) (SA.cons (SE.tup (SA.cons (SE.str "is") (SA.cons (SE.int 1) (SA.nil)))) (SA.cons (SE.tup (SA.cons (SE.str "is") (SA.cons (SE.int 0) (SA.nil)))) (SA.nil))))))))))) (SS.seq (SS.asg (SG.name K 2) (SE.bin (opAdd K) (SE.var 2) (SE.ofN (SN.lst (SA.cons (SE.tup (SA.cons (SE.str "units") (SA.cons (SE.tup (SA.cons (SE.int 1) (SA.nil))) (SA.cons (SE.bl true) (SA.nil))))) (SA.cons (SE.tup (SA.cons (SE.str "row") (SA.cons (SE.non) (SA.cons (SE.bl true) (SA.nil))))) (SA.cons (SE.tup (SA.cons (SE.str "row") (SA.cons (SE.tup (SA.cons (SE.int 1) (SA.cons (SE.int 1) (SA.nil)))) (SA.cons (SE.bl true) (SA.nil))))) (SA.cons (SE.tup (SA.cons (SE.str "parameter") (SA.cons (SE.bin (opAdd K) (SE.var 0) (SE.int 1)) (SA.cons (SE.bl true) (SA.nil))))) (SA.nil))))))))) (SS.frz 1 (SS.seq (SS.ret (SE.andV (SE.callF (m_law_like K ad) (SA.cons (SE.var 1) (SA.cons (SE.var 2) (SA.nil)))) (SE.callF (m_law_like K ad) (SA.cons (SE.callF (m_can_pay K ad) (SA.cons (SE.tup (SA.cons (SE.int 2) (SA.nil))) (SA.cons (SE.tup (SA.cons (SE.int 1) (SA.cons (SE.int 0) (SA.nil)))) (SA.cons (SE.tup (SA.cons (SE.int 0) (SA.cons (SE.int 1) (SA.nil)))) (SA.cons (SE.int 1) (SA.nil)))))) (SA.cons (SE.bl true) (SA.nil)))))) (SS.skip))))))))))))))))
def m_law_by_hand (K : PySem.W.Frag) (ad : Ad) (Z : Zt K ad) : MF := mOf 0 3 (S_law_by_hand K ad Z).f
end
structure Txt (P : Program) (w : World) (K : PySem.W.Frag) (mg : Str → Option Value) (base : Heap) (ad : Ad) : Prop where
  n_all : mg "all" = none
  n_bool : mg "bool" = none
  n_int : mg "int" = none
  n_isinstance : mg "isinstance" = none
  n_len : mg "len" = none
  n_list : mg "list" = none
  n_range : mg "range" = none
  n_repr : mg "repr" = none
  n_reversed : mg "reversed" = none
  n_sum : mg "sum" = none
  n_tuple : mg "tuple" = none
  n_zip : mg "zip" = none
  g_YardError : mg "YardError" = some (.ref ad.YardError)
  g_BadUnits : mg "BadUnits" = some (.ref ad.BadUnits)
  xf_BadUnits : XfC K ad.BadUnits
  xn_BadUnits : PySem.W.findIn K (.ref ad.BadUnits) "value" = some none
  x_BadUnits : XTxt P w K mg base "BadUnits" ad.BadUnits ["self", "value"] (spI1 ad.BadUnits "value")
  g_BadRow : mg "BadRow" = some (.ref ad.BadRow)
  xf_BadRow : XfC K ad.BadRow
  xn_BadRow : PySem.W.findIn K (.ref ad.BadRow) "value" = some none
  x_BadRow : XTxt P w K mg base "BadRow" ad.BadRow ["self", "value"] (spI1 ad.BadRow "value")
  g_BadParameter : mg "BadParameter" = some (.ref ad.BadParameter)
  xf_BadParameter : XfC K ad.BadParameter
  xn_BadParameter : PySem.W.findIn K (.ref ad.BadParameter) "value" = some none
  x_BadParameter : XTxt P w K mg base "BadParameter" ad.BadParameter ["self", "value"] (spI1 ad.BadParameter "value")
  g_NoRow : mg "NoRow" = some (.ref ad.NoRow)
  x_NoRow : XTxt P w K mg base "NoRow" ad.NoRow ["self"] (spI0 ad.NoRow)
section
variable [Tb] [Cb]
variable {P : Program} {w : World} {K : PySem.W.Frag} {mg : Str → Option Value} {base : Heap} {ad : Ad}
theorem sc_is_from : FnScope ["value", "least"] ["value", "least"] (defScope s_is_from) := ⟨rfl, rfl, rfl, by decide +kernel, rfl, by decide +kernel, by decide +kernel⟩
theorem ok_is_from {f : Addr} {fd : FuncData}  (FF : Fun K "is_from" "is_from" s_is_from f fd) (T : Txt P w K mg base ad)   : FnG P w K mg base 6 f fd ["value", "least"] (spF K (m_is_from K ad)) := def_ok FF sc_is_from (S_is_from K ad) fun cdv A outer s H E hr hgu => by
  have sc := sc_is_from
  have hu := u100 hr
  have tk : Takes (cxOf (L2.CX P w) P w K mg base ["value", "least"] "is_from" (defScope s_is_from) f cdv A outer s H E) (fun cls d _ H => E cls d H) := takes_of rfl rfl rfl rfl
  simp_all_arith! [S_is_from]
  exact pss_cons (by exact (ps_ret (pe_and (pe_callB call_isi (by rfl) T.n_isinstance boot_isinstance (pa_cons (pv 0) (pa_cons (pe_bltn (v := .ty "int") (by rfl) T.n_int boot_int rfl) pa_nil))) (pe_and (pe_not (pe_callB call_isi (by rfl) T.n_isinstance boot_isinstance (pa_cons (pv 0) (pa_cons (pe_bltn (v := .ty "bool") (by rfl) T.n_bool boot_bool rfl) pa_nil)))) (pe_one (pe_cmpR op_ge (pv 0) (pv 1) (nomark _))))))) (by exact (pss_nil))
theorem sc_is_whole : FnScope ["value", "least", "most"] ["value", "least", "most"] (defScope s_is_whole) := ⟨rfl, rfl, rfl, by decide +kernel, rfl, by decide +kernel, by decide +kernel⟩
theorem ok_is_whole {f : Addr} {fd : FuncData} {f_is_from : Addr} {d_is_from : FuncData} (FF : Fun K "is_whole" "is_whole" s_is_whole f fd) (T : Txt P w K mg base ad) (c_is_from : Cal P w K mg base 6 "is_from" f_is_from d_is_from ["value", "least"] (m_is_from K ad))  : FnG P w K mg base 7 f fd ["value", "least", "most"] (spF K (m_is_whole K ad)) := def_ok FF sc_is_whole (S_is_whole K ad) fun cdv A outer s H E hr hgu => by
  have sc := sc_is_whole
  have hu := u100 hr
  have tk : Takes (cxOf (L2.CX P w) P w K mg base ["value", "least", "most"] "is_whole" (defScope s_is_whole) f cdv A outer s H E) (fun cls d _ H => E cls d H) := takes_of rfl rfl rfl rfl
  simp_all_arith! [S_is_whole]
  exact pss_cons (by exact (ps_ret (pe_and (by exact (pe_callG c_is_from.F (hr.mono (by decide)) hgu rfl c_is_from.g c_is_from.k c_is_from.b tk (pa_cons (pv 0) (pa_cons (pv 1) (pa_nil))))) (pe_one (pe_cmpR op_le (pv 0) (pv 2) (nomark _)))))) (by exact (pss_nil))
theorem sc_is_tuple_of : FnScope ["value", "many"] ["value", "many"] (defScope s_is_tuple_of) := ⟨rfl, rfl, rfl, by decide +kernel, rfl, by decide +kernel, by decide +kernel⟩
theorem ok_is_tuple_of {f : Addr} {fd : FuncData}  (FF : Fun K "is_tuple_of" "is_tuple_of" s_is_tuple_of f fd) (T : Txt P w K mg base ad)   : FnG P w K mg base 6 f fd ["value", "many"] (spF K (m_is_tuple_of K ad)) := def_ok FF sc_is_tuple_of (S_is_tuple_of K ad) fun cdv A outer s H E hr hgu => by
  have sc := sc_is_tuple_of
  have hu := u100 hr
  have tk : Takes (cxOf (L2.CX P w) P w K mg base ["value", "many"] "is_tuple_of" (defScope s_is_tuple_of) f cdv A outer s H E) (fun cls d _ H => E cls d H) := takes_of rfl rfl rfl rfl
  simp_all_arith! [S_is_tuple_of]
  exact pss_cons (by exact (ps_ret (pe_and (pe_callB call_isi (by rfl) T.n_isinstance boot_isinstance (pa_cons (pv 0) (pa_cons (pe_bltn (v := .ty "tuple") (by rfl) T.n_tuple boot_tuple rfl) pa_nil))) (pe_one (pe_cmpR (op_eqX (u64 hu)) (pe_callB call_len_seq (by rfl) T.n_len PySem.boot_len (pa_cons (pv 0) pa_nil)) (pv 1) (nomark _)))))) (by exact (pss_nil))
theorem sc_is_numbers : FnScope ["units", "value", "least", "most", "number"] ["units", "value", "least", "most"] (defScope s_is_numbers) := ⟨rfl, rfl, rfl, by decide +kernel, rfl, by decide +kernel, by decide +kernel⟩
theorem ok_is_numbers {f : Addr} {fd : FuncData} {f_is_tuple_of : Addr} {d_is_tuple_of : FuncData} {f_is_whole : Addr} {d_is_whole : FuncData} (FF : Fun K "is_numbers" "is_numbers" s_is_numbers f fd) (T : Txt P w K mg base ad) (c_is_tuple_of : Cal P w K mg base 6 "is_tuple_of" f_is_tuple_of d_is_tuple_of ["value", "many"] (m_is_tuple_of K ad)) (c_is_whole : Cal P w K mg base 7 "is_whole" f_is_whole d_is_whole ["value", "least", "most"] (m_is_whole K ad))  : FnG P w K mg base 8 f fd ["units", "value", "least", "most"] (spF K (m_is_numbers K ad)) := def_ok FF sc_is_numbers (S_is_numbers K ad) fun cdv A outer s H E hr hgu => by
  have sc := sc_is_numbers
  have hu := u100 hr
  have tk : Takes (cxOf (L2.CX P w) P w K mg base ["units", "value", "least", "most", "number"] "is_numbers" (defScope s_is_numbers) f cdv A outer s H E) (fun cls d _ H => E cls d H) := takes_of rfl rfl rfl rfl
  simp_all_arith! [S_is_numbers]
  exact pss_cons (by exact (ps_ret (pe_and (by exact (pe_callG c_is_tuple_of.F (hr.mono (by decide)) hgu rfl c_is_tuple_of.g c_is_tuple_of.k c_is_tuple_of.b tk (pa_cons (pv 1) (pa_cons (pe_op op_addX (pe_callB call_len_seq (by rfl) T.n_len PySem.boot_len (pa_cons (pv 0) pa_nil)) (pe_int)) (pa_nil))))) (pe_one (pe_callB (cr_all rfl) (by rfl) T.n_all boot_all (pa_cons (by exact (pe_lc (own := [("number", 4)]) rfl sc.nd (pi_any (pv 1)) (by show BlkOk ["units", "value", "least", "most", "number"] (defScope s_is_numbers) _ _; exact ⟨rfl, by decide +kernel, by decide +kernel, by decide +kernel, by decide +kernel⟩) (fun _ _ _ _ _ => by exact (pg_name (i := 4) sc.nd rfl (by first | exact Or.inl rfl | exact Or.inr rfl))) (fun _ _ _ _ _ => by exact (pts_nil)) (fun _ _ _ _ _ => by exact (by exact (pe_callG c_is_whole.F (hr.mono (by decide)) hgu rfl c_is_whole.g c_is_whole.k c_is_whole.b takes0 (pa_cons (pv 4) (pa_cons (pv 2) (pa_cons (pv 3) (pa_nil))))))))) pa_nil)))))) (by exact (pss_nil))
theorem sc_is_row : FnScope ["units", "value"] ["units", "value"] (defScope s_is_row) := ⟨rfl, rfl, rfl, by decide +kernel, rfl, by decide +kernel, by decide +kernel⟩
theorem ok_is_row {f : Addr} {fd : FuncData} {f_is_numbers : Addr} {d_is_numbers : FuncData} (FF : Fun K "is_row" "is_row" s_is_row f fd) (T : Txt P w K mg base ad) (c_is_numbers : Cal P w K mg base 8 "is_numbers" f_is_numbers d_is_numbers ["units", "value", "least", "most"] (m_is_numbers K ad))  : FnG P w K mg base 9 f fd ["units", "value"] (spF K (m_is_row K ad)) := def_ok FF sc_is_row (S_is_row K ad) fun cdv A outer s H E hr hgu => by
  have sc := sc_is_row
  have hu := u100 hr
  have tk : Takes (cxOf (L2.CX P w) P w K mg base ["units", "value"] "is_row" (defScope s_is_row) f cdv A outer s H E) (fun cls d _ H => E cls d H) := takes_of rfl rfl rfl rfl
  simp_all_arith! [S_is_row]
  exact pss_cons (by exact (ps_ret (by exact (pe_callG c_is_numbers.F (hr.mono (by decide)) hgu rfl c_is_numbers.g c_is_numbers.k c_is_numbers.b tk (pa_cons (pv 0) (pa_cons (pv 1) (pa_cons (pe_int) (pa_cons (pe_op op_pow (pe_int) (pe_int)) (pa_nil))))))))) (by exact (pss_nil))
theorem sc_need_units : FnScope ["value", "ratio"] ["value"] (defScope s_need_units) := ⟨rfl, rfl, rfl, by decide +kernel, rfl, by decide +kernel, by decide +kernel⟩
theorem ok_need_units {f : Addr} {fd : FuncData} {f_is_whole : Addr} {d_is_whole : FuncData} (FF : Fun K "need_units" "need_units" s_need_units f fd) (T : Txt P w K mg base ad) (c_is_whole : Cal P w K mg base 7 "is_whole" f_is_whole d_is_whole ["value", "least", "most"] (m_is_whole K ad))  : FnG P w K mg base 8 f fd ["value"] (spF K (m_need_units K ad)) := def_ok FF sc_need_units (S_need_units K ad) fun cdv A outer s H E hr hgu => by
  have sc := sc_need_units
  have hu := u100 hr
  have tk : Takes (cxOf (L2.CX P w) P w K mg base ["value", "ratio"] "need_units" (defScope s_need_units) f cdv A outer s H E) (fun cls d _ H => E cls d H) := takes_of rfl rfl rfl rfl
  simp_all_arith! [S_need_units]
  exact pss_cons (by exact (ps_if ((pw_or (pt_not (pt_val (pe_callB call_isi (by rfl) T.n_isinstance boot_isinstance (pa_cons (pv 0) (pa_cons (pe_bltn (v := .ty "tuple") (by rfl) T.n_tuple boot_tuple rfl) pa_nil))))) (pw_or1 (pt_cmpR op_gt (pe_callB call_len_seq (by rfl) T.n_len PySem.boot_len (pa_cons (pv 0) pa_nil)) (pe_int) (nomark _)))).pt) (pss_cons (by exact (ps_rs1 (k := 0) T.x_BadUnits rfl (hr.mono (by decide)) tk (pv 0))) (by exact (pss_nil))) (pss_nil))) (by exact (pss_cons (by exact (ps_if (pt_not (pt_val (pe_callB (cr_all rfl) (by rfl) T.n_all boot_all (pa_cons (by exact (pe_lc (own := [("ratio", 1)]) rfl sc.nd (pi_any (pv 0)) (by show BlkOk ["value", "ratio"] (defScope s_need_units) _ _; exact ⟨rfl, by decide +kernel, by decide +kernel, by decide +kernel, by decide +kernel⟩) (fun _ _ _ _ _ => by exact (pg_name (i := 1) sc.nd rfl (by first | exact Or.inl rfl | exact Or.inr rfl))) (fun _ _ _ _ _ => by exact (pts_nil)) (fun _ _ _ _ _ => by exact (by exact (pe_callG c_is_whole.F (hr.mono (by decide)) hgu rfl c_is_whole.g c_is_whole.k c_is_whole.b takes0 (pa_cons (pv 1) (pa_cons (pe_int) (pa_cons (pe_int) (pa_nil))))))))) pa_nil)))) (pss_cons (by exact (ps_rs1 (k := 0) T.x_BadUnits rfl (hr.mono (by decide)) tk (pv 0))) (by exact (pss_nil))) (pss_nil))) (by exact (pss_cons (by exact (ps_ret (pv 0))) (by exact (pss_nil))))))
theorem sc_sizes : FnScope ["units", "upwards", "ratio"] ["units"] (defScope s_sizes) := ⟨rfl, rfl, rfl, by decide +kernel, rfl, by decide +kernel, by decide +kernel⟩
theorem ok_sizes {f : Addr} {fd : FuncData} {f_need_units : Addr} {d_need_units : FuncData} (FF : Fun K "sizes" "sizes" s_sizes f fd) (T : Txt P w K mg base ad) (c_need_units : Cal P w K mg base 8 "need_units" f_need_units d_need_units ["value"] (m_need_units K ad))  : FnG P w K mg base 9 f fd ["units"] (spF K (m_sizes K ad)) := def_ok FF sc_sizes (S_sizes K ad) fun cdv A outer s H E hr hgu => by
  have sc := sc_sizes
  have hu := u100 hr
  have tk : Takes (cxOf (L2.CX P w) P w K mg base ["units", "upwards", "ratio"] "sizes" (defScope s_sizes) f cdv A outer s H E) (fun cls d _ H => E cls d H) := takes_of rfl rfl rfl rfl
  simp_all_arith! [S_sizes]
  exact pss_cons (by exact (ps_expr (by exact (pe_callG c_need_units.F (hr.mono (by decide)) hgu rfl c_need_units.g c_need_units.k c_need_units.b tk (pa_cons (pv 0) (pa_nil)))))) (by exact (pss_cons (by exact (ps_asg (pe_lst (pa_cons (pe_int) (pa_nil))) (pg_name (i := 1) sc.nd rfl (by first | exact Or.inl rfl | exact Or.inr rfl)))) (by exact (pss_cons (by exact (ps_for (passes_of rfl) rfl (RT.pi_revA (by rfl) T.n_reversed (pv 0)) (pg_name (i := 2) sc.nd rfl (by first | exact Or.inl rfl | exact Or.inr rfl)) (pss_cons (by exact (ps_expr (pe_bm PySem.F.plainAttrs_list PySem.F.slot_list_append PySem.F.type_list_append mt_append (pv 1) (pa_cons (pe_op op_mulX (pv 2) (pe_ix (ix_list.or ix_tup) (pv 1) (pe_un un_neg (pe_int)) (fun _ _ => rfl))) pa_nil)))) (by exact (pss_nil))))) (by exact (pss_cons (by exact (ps_ret (pe_callTy cr_tupleX (by rfl) T.n_tuple boot_tuple (pa_cons (pe_revL (pv 1)) pa_nil)))) (by exact (pss_nil))))))))
theorem sc_need_row : FnScope ["units", "value"] ["units", "value"] (defScope s_need_row) := ⟨rfl, rfl, rfl, by decide +kernel, rfl, by decide +kernel, by decide +kernel⟩
theorem ok_need_row {f : Addr} {fd : FuncData} {f_is_row : Addr} {d_is_row : FuncData} {f_need_units : Addr} {d_need_units : FuncData} (FF : Fun K "need_row" "need_row" s_need_row f fd) (T : Txt P w K mg base ad) (c_is_row : Cal P w K mg base 9 "is_row" f_is_row d_is_row ["units", "value"] (m_is_row K ad)) (c_need_units : Cal P w K mg base 8 "need_units" f_need_units d_need_units ["value"] (m_need_units K ad))  : FnG P w K mg base 10 f fd ["units", "value"] (spF K (m_need_row K ad)) := def_ok FF sc_need_row (S_need_row K ad) fun cdv A outer s H E hr hgu => by
  have sc := sc_need_row
  have hu := u100 hr
  have tk : Takes (cxOf (L2.CX P w) P w K mg base ["units", "value"] "need_row" (defScope s_need_row) f cdv A outer s H E) (fun cls d _ H => E cls d H) := takes_of rfl rfl rfl rfl
  simp_all_arith! [S_need_row]
  exact pss_cons (by exact (ps_expr (by exact (pe_callG c_need_units.F (hr.mono (by decide)) hgu rfl c_need_units.g c_need_units.k c_need_units.b tk (pa_cons (pv 0) (pa_nil)))))) (by exact (pss_cons (by exact (ps_if (pt_not (pt_val (by exact (pe_callG c_is_row.F (hr.mono (by decide)) hgu rfl c_is_row.g c_is_row.k c_is_row.b tk (pa_cons (pv 0) (pa_cons (pv 1) (pa_nil))))))) (pss_cons (by exact (ps_rs1 (k := 0) T.x_BadRow rfl (hr.mono (by decide)) tk (pv 1))) (by exact (pss_nil))) (pss_nil))) (by exact (pss_cons (by exact (ps_ret (pv 1))) (by exact (pss_nil))))))
theorem sc_need_amount : FnScope ["units", "one", "other", "amount"] ["units", "one", "other", "amount"] (defScope s_need_amount) := ⟨rfl, rfl, rfl, by decide +kernel, rfl, by decide +kernel, by decide +kernel⟩
theorem ok_need_amount {f : Addr} {fd : FuncData} {f_is_whole : Addr} {d_is_whole : FuncData} {f_need_row : Addr} {d_need_row : FuncData} (FF : Fun K "_need_amount" "_need_amount" s_need_amount f fd) (T : Txt P w K mg base ad) (c_is_whole : Cal P w K mg base 7 "is_whole" f_is_whole d_is_whole ["value", "least", "most"] (m_is_whole K ad)) (c_need_row : Cal P w K mg base 10 "need_row" f_need_row d_need_row ["units", "value"] (m_need_row K ad))  : FnG P w K mg base 11 f fd ["units", "one", "other", "amount"] (spF K (m_need_amount K ad)) := def_ok FF sc_need_amount (S_need_amount K ad) fun cdv A outer s H E hr hgu => by
  have sc := sc_need_amount
  have hu := u100 hr
  have tk : Takes (cxOf (L2.CX P w) P w K mg base ["units", "one", "other", "amount"] "_need_amount" (defScope s_need_amount) f cdv A outer s H E) (fun cls d _ H => E cls d H) := takes_of rfl rfl rfl rfl
  simp_all_arith! [S_need_amount]
  exact pss_cons (by exact (ps_expr (by exact (pe_callG c_need_row.F (hr.mono (by decide)) hgu rfl c_need_row.g c_need_row.k c_need_row.b tk (pa_cons (pv 0) (pa_cons (pv 1) (pa_nil))))))) (by exact (pss_cons (by exact (ps_expr (by exact (pe_callG c_need_row.F (hr.mono (by decide)) hgu rfl c_need_row.g c_need_row.k c_need_row.b tk (pa_cons (pv 0) (pa_cons (pv 2) (pa_nil))))))) (by exact (pss_cons (by exact (ps_if (pt_not (pt_val (by exact (pe_callG c_is_whole.F (hr.mono (by decide)) hgu rfl c_is_whole.g c_is_whole.k c_is_whole.b tk (pa_cons (pv 3) (pa_cons (pe_un un_neg (pe_op op_pow (pe_int) (pe_int))) (pa_cons (pe_op op_pow (pe_int) (pe_int)) (pa_nil)))))))) (pss_cons (by exact (ps_rs1 (k := 0) T.x_BadParameter rfl (hr.mono (by decide)) tk (pv 3))) (by exact (pss_nil))) (pss_nil))) (by exact (pss_nil))))))
theorem sc_totals_from : FnScope ["units", "row", "totals", "size", "many"] ["units", "row"] (defScope s_totals_from) := ⟨rfl, rfl, rfl, by decide +kernel, rfl, by decide +kernel, by decide +kernel⟩
theorem ok_totals_from {f : Addr} {fd : FuncData} {f_sizes : Addr} {d_sizes : FuncData} (FF : Fun K "_totals_from" "_totals_from" s_totals_from f fd) (T : Txt P w K mg base ad) (c_sizes : Cal P w K mg base 9 "sizes" f_sizes d_sizes ["units"] (m_sizes K ad))  : FnG P w K mg base 10 f fd ["units", "row"] (spF K (m_totals_from K ad)) := def_ok FF sc_totals_from (S_totals_from K ad) fun cdv A outer s H E hr hgu => by
  have sc := sc_totals_from
  have hu := u100 hr
  have tk : Takes (cxOf (L2.CX P w) P w K mg base ["units", "row", "totals", "size", "many"] "_totals_from" (defScope s_totals_from) f cdv A outer s H E) (fun cls d _ H => E cls d H) := takes_of rfl rfl rfl rfl
  simp_all_arith! [S_totals_from]
  exact pss_cons (by exact (ps_asg (pe_lst (pa_cons (pe_int) (pa_nil))) (pg_name (i := 2) sc.nd rfl (by first | exact Or.inl rfl | exact Or.inr rfl)))) (by exact (pss_cons (by exact (ps_for (passes_of rfl) rfl (pi_zipG (by rfl) T.n_zip (pa_cons (pe_rvT (by exact (pe_callG c_sizes.F (hr.mono (by decide)) hgu rfl c_sizes.g c_sizes.k c_sizes.b tk (pa_cons (pv 0) (pa_nil)))) (po_none) (po_none)) (pa_cons (pe_rvT (pv 1) (po_none) (po_none)) pa_nil))) (pg_tup rfl (pgs_cons (pg_name (i := 3) sc.nd rfl (by first | exact Or.inl rfl | exact Or.inr rfl)) (pgs_cons (pg_name (i := 4) sc.nd rfl (by first | exact Or.inl rfl | exact Or.inr rfl)) (pgs_nil)))) (pss_cons (by exact (ps_expr (pe_bm PySem.F.plainAttrs_list PySem.F.slot_list_append PySem.F.type_list_append mt_append (pv 2) (pa_cons (pe_op op_addX (pe_ix (ix_list.or ix_tup) (pv 2) (pe_un un_neg (pe_int)) (fun _ _ => rfl)) (pe_op op_mulX (pv 3) (pv 4))) pa_nil)))) (by exact (pss_nil))))) (by exact (pss_cons (by exact (ps_ret (pe_revL (pv 2)))) (by exact (pss_nil))))))
theorem sc_blocked : FnScope ["units", "one", "other", "amount", "size", "unit", "gives", "takes"] ["units", "one", "other", "amount"] (defScope s_blocked) := ⟨rfl, rfl, rfl, by decide +kernel, rfl, by decide +kernel, by decide +kernel⟩
theorem ok_blocked {f : Addr} {fd : FuncData} {f_totals_from : Addr} {d_totals_from : FuncData} {f_sizes : Addr} {d_sizes : FuncData} (FF : Fun K "_blocked" "_blocked" s_blocked f fd) (T : Txt P w K mg base ad) (c_totals_from : Cal P w K mg base 10 "_totals_from" f_totals_from d_totals_from ["units", "row"] (m_totals_from K ad)) (c_sizes : Cal P w K mg base 9 "sizes" f_sizes d_sizes ["units"] (m_sizes K ad))  : FnG P w K mg base 11 f fd ["units", "one", "other", "amount"] (spF K (m_blocked K ad)) := def_ok FF sc_blocked (S_blocked K ad) fun cdv A outer s H E hr hgu => by
  have sc := sc_blocked
  have hu := u100 hr
  have tk : Takes (cxOf (L2.CX P w) P w K mg base ["units", "one", "other", "amount", "size", "unit", "gives", "takes"] "_blocked" (defScope s_blocked) f cdv A outer s H E) (fun cls d _ H => E cls d H) := takes_of rfl rfl rfl rfl
  simp_all_arith! [S_blocked]
  exact pss_cons (by exact (ps_par (i := 6) (j := 7) rfl sc.nd rfl rfl (by decide) rfl rfl (pa_cons (by exact (pe_callG c_totals_from.F (hr.mono (by decide)) hgu rfl c_totals_from.g c_totals_from.k c_totals_from.b tk (pa_cons (pv 0) (pa_cons (pv 1) (pa_nil))))) (pa_cons (by exact (pe_callG c_totals_from.F (hr.mono (by decide)) hgu rfl c_totals_from.g c_totals_from.k c_totals_from.b tk (pa_cons (pv 0) (pa_cons (pv 2) (pa_nil))))) (pa_nil))) (by rfl))) (by exact (pss_cons (by exact (ps_asg (by exact (pe_callG c_sizes.F (hr.mono (by decide)) hgu rfl c_sizes.g c_sizes.k c_sizes.b tk (pa_cons (pv 0) (pa_nil)))) (pg_name (i := 4) sc.nd rfl (by first | exact Or.inl rfl | exact Or.inr rfl)))) (by exact (pss_cons (by exact (ps_for (passes_of rfl) rfl (pi_revR (by rfl) T.n_reversed (L2.prg_2 (by rfl) T.n_range (pe_int) (pe_callB call_len_seq (by rfl) T.n_len PySem.boot_len (pa_cons (pv 4) pa_nil)))) (pg_name (i := 5) sc.nd rfl (by first | exact Or.inl rfl | exact Or.inr rfl)) (pss_cons (by exact (ps_if (pt_cmpR op_lt (pe_op op_mulX (pe_op op_fdivW (pe_op op_addX (pv 3) (pe_ix (ix_list.or ix_tup) (pv 7) (pv 5) (fun _ _ => rfl))) (pe_ix (ix_list.or ix_tup) (pv 4) (pe_op op_sub (pv 5) (pe_int)) (fun _ _ => rfl))) (pe_ix (ix_list.or ix_tup) (pv 4) (pe_op op_sub (pv 5) (pe_int)) (fun _ _ => rfl))) (pe_op op_sub (pv 3) (pe_ix (ix_list.or ix_tup) (pv 6) (pv 5) (fun _ _ => rfl))) (nomark _)) (pss_cons (by exact (ps_ret (pv 5))) (by exact (pss_nil))) (pss_nil))) (by exact (pss_nil))))) (by exact (pss_cons (by exact (ps_ret (pe_ifExp (pt_chain op_le op_le (pe_un un_neg (pe_ix (ix_list.or ix_tup) (pv 7) (pe_int) (fun _ _ => rfl))) (pv 3) (pe_ix (ix_list.or ix_tup) (pv 6) (pe_int) (fun _ _ => rfl))) (pe_non) (pe_int)))) (by exact (pss_nil))))))))
theorem sc_can_pay : FnScope ["units", "one", "other", "amount"] ["units", "one", "other", "amount"] (defScope s_can_pay) := ⟨rfl, rfl, rfl, by decide +kernel, rfl, by decide +kernel, by decide +kernel⟩
theorem ok_can_pay {f : Addr} {fd : FuncData} {f_blocked : Addr} {d_blocked : FuncData} {f_need_amount : Addr} {d_need_amount : FuncData} (FF : Fun K "can_pay" "can_pay" s_can_pay f fd) (T : Txt P w K mg base ad) (c_blocked : Cal P w K mg base 11 "_blocked" f_blocked d_blocked ["units", "one", "other", "amount"] (m_blocked K ad)) (c_need_amount : Cal P w K mg base 11 "_need_amount" f_need_amount d_need_amount ["units", "one", "other", "amount"] (m_need_amount K ad))  : FnG P w K mg base 12 f fd ["units", "one", "other", "amount"] (spF K (m_can_pay K ad)) := def_ok FF sc_can_pay (S_can_pay K ad) fun cdv A outer s H E hr hgu => by
  have sc := sc_can_pay
  have hu := u100 hr
  have tk : Takes (cxOf (L2.CX P w) P w K mg base ["units", "one", "other", "amount"] "can_pay" (defScope s_can_pay) f cdv A outer s H E) (fun cls d _ H => E cls d H) := takes_of rfl rfl rfl rfl
  simp_all_arith! [S_can_pay]
  exact pss_cons (by exact (ps_expr (by exact (pe_callG c_need_amount.F (hr.mono (by decide)) hgu rfl c_need_amount.g c_need_amount.k c_need_amount.b tk (pa_cons (pv 0) (pa_cons (pv 1) (pa_cons (pv 2) (pa_cons (pv 3) (pa_nil))))))))) (by exact (pss_cons (by exact (ps_ret (pe_cmpR op_isX (by exact (pe_callG c_blocked.F (hr.mono (by decide)) hgu rfl c_blocked.g c_blocked.k c_blocked.b tk (pa_cons (pv 0) (pa_cons (pv 1) (pa_cons (pv 2) (pa_cons (pv 3) (pa_nil))))))) (pe_non) (nomark _)))) (by exact (pss_nil))))
theorem sc_blocked_unit : FnScope ["units", "one", "other", "amount", "unit"] ["units", "one", "other", "amount"] (defScope s_blocked_unit) := ⟨rfl, rfl, rfl, by decide +kernel, rfl, by decide +kernel, by decide +kernel⟩
theorem ok_blocked_unit {f : Addr} {fd : FuncData} {f_blocked : Addr} {d_blocked : FuncData} {f_need_amount : Addr} {d_need_amount : FuncData} (FF : Fun K "blocked_unit" "blocked_unit" s_blocked_unit f fd) (T : Txt P w K mg base ad) (c_blocked : Cal P w K mg base 11 "_blocked" f_blocked d_blocked ["units", "one", "other", "amount"] (m_blocked K ad)) (c_need_amount : Cal P w K mg base 11 "_need_amount" f_need_amount d_need_amount ["units", "one", "other", "amount"] (m_need_amount K ad))  : FnG P w K mg base 12 f fd ["units", "one", "other", "amount"] (spF K (m_blocked_unit K ad)) := def_ok FF sc_blocked_unit (S_blocked_unit K ad) fun cdv A outer s H E hr hgu => by
  have sc := sc_blocked_unit
  have hu := u100 hr
  have tk : Takes (cxOf (L2.CX P w) P w K mg base ["units", "one", "other", "amount", "unit"] "blocked_unit" (defScope s_blocked_unit) f cdv A outer s H E) (fun cls d _ H => E cls d H) := takes_of rfl rfl rfl rfl
  simp_all_arith! [S_blocked_unit]
  exact pss_cons (by exact (ps_expr (by exact (pe_callG c_need_amount.F (hr.mono (by decide)) hgu rfl c_need_amount.g c_need_amount.k c_need_amount.b tk (pa_cons (pv 0) (pa_cons (pv 1) (pa_cons (pv 2) (pa_cons (pv 3) (pa_nil))))))))) (by exact (pss_cons (by exact (ps_asg (by exact (pe_callG c_blocked.F (hr.mono (by decide)) hgu rfl c_blocked.g c_blocked.k c_blocked.b tk (pa_cons (pv 0) (pa_cons (pv 1) (pa_cons (pv 2) (pa_cons (pv 3) (pa_nil))))))) (pg_name (i := 4) sc.nd rfl (by first | exact Or.inl rfl | exact Or.inr rfl)))) (by exact (pss_cons (by exact (ps_if (pt_cmpR op_isX (pv 4) (pe_non) (nomark _)) (pss_cons (by exact (ps_rs0 (k := 0) T.x_NoRow rfl (hr.mono (by decide)) tk)) (by exact (pss_nil))) (pss_nil))) (by exact (pss_cons (by exact (ps_ret (pv 4))) (by exact (pss_nil))))))))
theorem sc_law_mixed : FnScope ["cell", "k"] ["cell", "k"] (defScope s_law_mixed) := ⟨rfl, rfl, rfl, by decide +kernel, rfl, by decide +kernel, by decide +kernel⟩
theorem ok_law_mixed {f : Addr} {fd : FuncData}  (FF : Fun K "_law_mixed" "_law_mixed" s_law_mixed f fd) (T : Txt P w K mg base ad)   : FnG P w K mg base 6 f fd ["cell", "k"] (spF K (m_law_mixed K ad)) := def_ok FF sc_law_mixed (S_law_mixed K ad) fun cdv A outer s H E hr hgu => by
  have sc := sc_law_mixed
  have hu := u100 hr
  have tk : Takes (cxOf (L2.CX P w) P w K mg base ["cell", "k"] "_law_mixed" (defScope s_law_mixed) f cdv A outer s H E) (fun cls d _ H => E cls d H) := takes_of rfl rfl rfl rfl
  simp_all_arith! [S_law_mixed]
  exact pss_cons (by exact (ps_asg (pe_op op_mod (pe_callTy call_int1 (by rfl) T.n_int boot_int (pa_cons (pv 0) (pa_nil))) (pe_int)) (pg_name (i := 0) sc.nd rfl (by first | exact Or.inl rfl | exact Or.inr rfl)))) (by exact (pss_cons (by exact (ps_ret (pe_op op_mod (pe_op op_mulX (pe_op op_mod (pe_op op_addX (pe_op op_addX (pe_op op_mulX (pv 0) (pe_op op_addX (pe_int) (pe_op op_mulX (pe_op op_mulX (pe_int) (pv 1)) (pv 1)))) (pe_op op_mulX (pe_int) (pv 1))) (pe_int)) (pe_int)) (pe_int)) (pe_int)))) (by exact (pss_nil))))
theorem sc_law_draw : FnScope ["state", "limit", "at", "place", "left", "number"] ["state", "limit"] (defScope s_law_draw) := ⟨rfl, rfl, rfl, by decide +kernel, rfl, by decide +kernel, by decide +kernel⟩
theorem ok_law_draw {f : Addr} {fd : FuncData} {f_law_mixed : Addr} {d_law_mixed : FuncData} (FF : Fun K "_law_draw" "_law_draw" s_law_draw f fd) (T : Txt P w K mg base ad) (c_law_mixed : Cal P w K mg base 6 "_law_mixed" f_law_mixed d_law_mixed ["cell", "k"] (m_law_mixed K ad))  : FnG P w K mg base 7 f fd ["state", "limit"] (spF K (m_law_draw K ad)) := def_ok FF sc_law_draw (S_law_draw K ad) fun cdv A outer s H E hr hgu => by
  have sc := sc_law_draw
  have hu := u100 hr
  have tk : Takes (cxOf (L2.CX P w) P w K mg base ["state", "limit", "at", "place", "left", "number"] "_law_draw" (defScope s_law_draw) f cdv A outer s H E) (fun cls d _ H => E cls d H) := takes_of rfl rfl rfl rfl
  simp_all_arith! [S_law_draw]
  exact pss_cons (by exact (ps_asg (pe_dget (u1 hu) (pv 0) pe_str (fun _ _ => rfl)) (pg_name (i := 2) sc.nd rfl (by first | exact Or.inl rfl | exact Or.inr rfl)))) (by exact (pss_cons (by exact (ps_dput (u1 hu) (pv 0) pe_str (pe_op op_addX (pv 2) (pe_int)) (by rfl))) (by exact (pss_cons (by exact (ps_asg (pe_op op_mod (pe_callTy call_int1 (by rfl) T.n_int boot_int (pa_cons (pv 2) (pa_nil))) (pe_callB call_len_seq (by rfl) T.n_len PySem.boot_len (pa_cons (pe_dget (u1 hu) (pv 0) pe_str (fun _ _ => rfl)) pa_nil))) (pg_name (i := 3) sc.nd rfl (by first | exact Or.inl rfl | exact Or.inr rfl)))) (by exact (pss_cons (by exact (ps_asg (pe_ix (ix_list.or ix_tup) (pe_dget (u1 hu) (pv 0) pe_str (fun _ _ => rfl)) (pv 3) (fun _ _ => rfl)) (pg_name (i := 4) sc.nd rfl (by first | exact Or.inl rfl | exact Or.inr rfl)))) (by exact (pss_cons (by exact (ps_if (pt_cmpR op_gt (pv 4) (pe_int) (nomark _)) (pss_cons (by exact (ps_asg (pe_op op_fdivW (pv 4) (pv 1)) (pg_sub (pe_dget (u1 hu) (pv 0) pe_str (fun _ _ => rfl)) (pv 3) set_list (fun _ => rfl)))) (by exact (pss_cons (by exact (ps_ret (pe_op op_mod (pe_callTy call_int1 (by rfl) T.n_int boot_int (pa_cons (pv 4) (pa_nil))) (pv 1)))) (by exact (pss_nil))))) (pss_nil))) (by exact (pss_cons (by exact (ps_asg (by exact (pe_callG c_law_mixed.F (hr.mono (by decide)) hgu rfl c_law_mixed.g c_law_mixed.k c_law_mixed.b tk (pa_cons (by exact (pe_callG c_law_mixed.F (hr.mono (by decide)) hgu rfl c_law_mixed.g c_law_mixed.k c_law_mixed.b tk (pa_cons (pe_ix (ix_list.or ix_tup) (pe_dget (u1 hu) (pv 0) pe_str (fun _ _ => rfl)) (pv 3) (fun _ _ => rfl)) (pa_cons (pv 2) (pa_nil))))) (pa_cons (pe_op op_addX (pe_int) (pv 2)) (pa_nil))))) (pg_name (i := 5) sc.nd rfl (by first | exact Or.inl rfl | exact Or.inr rfl)))) (by exact (pss_cons (by exact (ps_ret (pe_op op_mod (pe_op op_fdivW (pe_callTy call_int1 (by rfl) T.n_int boot_int (pa_cons (pe_op op_addX (pe_op op_mulX (pv 5) (pe_int)) (by exact (pe_callG c_law_mixed.F (hr.mono (by decide)) hgu rfl c_law_mixed.g c_law_mixed.k c_law_mixed.b tk (pa_cons (pv 5) (pa_cons (pe_op op_addX (pe_int) (pv 2)) (pa_nil)))))) (pa_nil))) (pe_int)) (pv 1)))) (by exact (pss_nil))))))))))))))
theorem sc_law_units : FnScope ["state", "step"] ["state"] (defScope s_law_units) := ⟨rfl, rfl, rfl, by decide +kernel, rfl, by decide +kernel, by decide +kernel⟩
theorem ok_law_units {f : Addr} {fd : FuncData} {f_law_draw : Addr} {d_law_draw : FuncData} (FF : Fun K "_law_units" "_law_units" s_law_units f fd) (T : Txt P w K mg base ad) (c_law_draw : Cal P w K mg base 7 "_law_draw" f_law_draw d_law_draw ["state", "limit"] (m_law_draw K ad))  : FnG P w K mg base 8 f fd ["state"] (spF K (m_law_units K ad)) := def_ok FF sc_law_units (S_law_units K ad) fun cdv A outer s H E hr hgu => by
  have sc := sc_law_units
  have hu := u100 hr
  have tk : Takes (cxOf (L2.CX P w) P w K mg base ["state", "step"] "_law_units" (defScope s_law_units) f cdv A outer s H E) (fun cls d _ H => E cls d H) := takes_of rfl rfl rfl rfl
  simp_all_arith! [S_law_units]
  exact pss_cons (by exact (ps_ret (pe_callTy cr_tupleX (by rfl) T.n_tuple boot_tuple (pa_cons (by exact (pe_lc (own := [("step", 1)]) rfl sc.nd (pi_range1 (by rfl) T.n_range (pa_cons (by exact (pe_callG c_law_draw.F (hr.mono (by decide)) hgu rfl c_law_draw.g c_law_draw.k c_law_draw.b tk (pa_cons (pv 0) (pa_cons (pe_int) (pa_nil))))) pa_nil)) (by show BlkOk ["state", "step"] (defScope s_law_units) _ _; exact ⟨rfl, by decide +kernel, by decide +kernel, by decide +kernel, by decide +kernel⟩) (fun _ _ _ _ _ => by exact (pg_name (i := 1) sc.nd rfl (by first | exact Or.inl rfl | exact Or.inr rfl))) (fun _ _ _ _ _ => by exact (pts_nil)) (fun _ _ _ _ _ => by exact (pe_op op_addX (pe_int) (by exact (pe_callG c_law_draw.F (hr.mono (by decide)) hgu rfl c_law_draw.g c_law_draw.k c_law_draw.b takes0 (pa_cons (pv 0) (pa_cons (pe_int) (pa_nil))))))))) pa_nil)))) (by exact (pss_nil))
theorem sc_law_sizes : FnScope ["units_so", "found", "ratio"] ["units_so"] (defScope s_law_sizes) := ⟨rfl, rfl, rfl, by decide +kernel, rfl, by decide +kernel, by decide +kernel⟩
theorem ok_law_sizes {f : Addr} {fd : FuncData}  (FF : Fun K "_law_sizes" "_law_sizes" s_law_sizes f fd) (T : Txt P w K mg base ad)   : FnG P w K mg base 6 f fd ["units_so"] (spF K (m_law_sizes K ad)) := def_ok FF sc_law_sizes (S_law_sizes K ad) fun cdv A outer s H E hr hgu => by
  have sc := sc_law_sizes
  have hu := u100 hr
  have tk : Takes (cxOf (L2.CX P w) P w K mg base ["units_so", "found", "ratio"] "_law_sizes" (defScope s_law_sizes) f cdv A outer s H E) (fun cls d _ H => E cls d H) := takes_of rfl rfl rfl rfl
  simp_all_arith! [S_law_sizes]
  exact pss_cons (by exact (ps_asg (pe_tup (pa_cons (pe_int) (pa_nil))) (pg_name (i := 1) sc.nd rfl (by first | exact Or.inl rfl | exact Or.inr rfl)))) (by exact (pss_cons (by exact (ps_for (passes_of rfl) rfl (pi_any (pe_rvT (pv 0) (po_none) (po_none))) (pg_name (i := 2) sc.nd rfl (by first | exact Or.inl rfl | exact Or.inr rfl)) (pss_cons (by exact (ps_asg (pe_op op_addX (pe_tup (pa_cons (pe_op op_mulX (pe_ix (ix_list.or ix_tup) (pv 1) (pe_int) (fun _ _ => rfl)) (pv 2)) (pa_nil))) (pv 1)) (pg_name (i := 1) sc.nd rfl (by first | exact Or.inl rfl | exact Or.inr rfl)))) (by exact (pss_nil))))) (by exact (pss_cons (by exact (ps_ret (pv 1))) (by exact (pss_nil))))))
theorem sc_law_total : FnScope ["units_so", "row", "number", "size"] ["units_so", "row"] (defScope s_law_total) := ⟨rfl, rfl, rfl, by decide +kernel, rfl, by decide +kernel, by decide +kernel⟩
theorem ok_law_total {f : Addr} {fd : FuncData} {f_law_sizes : Addr} {d_law_sizes : FuncData} (FF : Fun K "_law_total" "_law_total" s_law_total f fd) (T : Txt P w K mg base ad) (c_law_sizes : Cal P w K mg base 6 "_law_sizes" f_law_sizes d_law_sizes ["units_so"] (m_law_sizes K ad))  : FnG P w K mg base 7 f fd ["units_so", "row"] (spF K (m_law_total K ad)) := def_ok FF sc_law_total (S_law_total K ad) fun cdv A outer s H E hr hgu => by
  have sc := sc_law_total
  have hu := u100 hr
  have tk : Takes (cxOf (L2.CX P w) P w K mg base ["units_so", "row", "number", "size"] "_law_total" (defScope s_law_total) f cdv A outer s H E) (fun cls d _ H => E cls d H) := takes_of rfl rfl rfl rfl
  simp_all_arith! [S_law_total]
  exact pss_cons (by exact (ps_ret (pe_callB (cr_sumA rfl) (by rfl) T.n_sum boot_sum (pa_cons (by exact (pe_lc (own := [("number", 2), ("size", 3)]) rfl sc.nd (pi_zipG (by rfl) T.n_zip (pa_cons (pv 1) (pa_cons (by exact (pe_callG c_law_sizes.F (hr.mono (by decide)) hgu rfl c_law_sizes.g c_law_sizes.k c_law_sizes.b tk (pa_cons (pv 0) (pa_nil)))) pa_nil))) (by show BlkOk ["units_so", "row", "number", "size"] (defScope s_law_total) _ _; exact ⟨rfl, by decide +kernel, by decide +kernel, by decide +kernel, by decide +kernel⟩) (fun _ _ _ _ _ => by exact (pg_tup rfl (pgs_cons (pg_name (i := 2) sc.nd rfl (by first | exact Or.inl rfl | exact Or.inr rfl)) (pgs_cons (pg_name (i := 3) sc.nd rfl (by first | exact Or.inl rfl | exact Or.inr rfl)) (pgs_nil))))) (fun _ _ _ _ _ => by exact (pts_nil)) (fun _ _ _ _ _ => by exact (pe_op op_mulX (pv 2) (pv 3))))) pa_nil)))) (by exact (pss_nil))
theorem sc_law_parts : FnScope ["row", "found", "number", "more", "part", "less"] ["row"] (defScope s_law_parts) := ⟨rfl, rfl, rfl, by decide +kernel, rfl, by decide +kernel, by decide +kernel⟩
theorem ok_law_parts {f : Addr} {fd : FuncData}  (FF : Fun K "_law_parts" "_law_parts" s_law_parts f fd) (T : Txt P w K mg base ad)   : FnG P w K mg base 6 f fd ["row"] (spF K (m_law_parts K ad)) := def_ok FF sc_law_parts (S_law_parts K ad) fun cdv A outer s H E hr hgu => by
  have sc := sc_law_parts
  have hu := u100 hr
  have tk : Takes (cxOf (L2.CX P w) P w K mg base ["row", "found", "number", "more", "part", "less"] "_law_parts" (defScope s_law_parts) f cdv A outer s H E) (fun cls d _ H => E cls d H) := takes_of rfl rfl rfl rfl
  simp_all_arith! [S_law_parts]
  exact pss_cons (by exact (ps_asg (pe_lst (pa_cons (pe_tup (pa_nil)) (pa_nil))) (pg_name (i := 1) sc.nd rfl (by first | exact Or.inl rfl | exact Or.inr rfl)))) (by exact (pss_cons (by exact (ps_for (passes_of rfl) rfl (pi_any (pv 0)) (pg_name (i := 2) sc.nd rfl (by first | exact Or.inl rfl | exact Or.inr rfl)) (pss_cons (by exact (ps_asg (pe_lst (pa_nil)) (pg_name (i := 3) sc.nd rfl (by first | exact Or.inl rfl | exact Or.inr rfl)))) (by exact (pss_cons (by exact (ps_for (passes_of rfl) rfl (pi_any (pv 1)) (pg_name (i := 4) sc.nd rfl (by first | exact Or.inl rfl | exact Or.inr rfl)) (pss_cons (by exact (ps_asg (pe_op op_addX (pv 3) (by exact (pe_lc (own := [("less", 5)]) rfl sc.nd (pi_range1 (by rfl) T.n_range (pa_cons (pe_op op_addX (pv 2) (pe_int)) pa_nil)) (by show BlkOk ["row", "found", "number", "more", "part", "less"] (defScope s_law_parts) _ _; exact ⟨rfl, by decide +kernel, by decide +kernel, by decide +kernel, by decide +kernel⟩) (fun _ _ _ _ _ => by exact (pg_name (i := 5) sc.nd rfl (by first | exact Or.inl rfl | exact Or.inr rfl))) (fun _ _ _ _ _ => by exact (pts_nil)) (fun _ _ _ _ _ => by exact (pe_op op_addX (pv 4) (pe_tup (pa_cons (pv 5) (pa_nil)))))))) (pg_name (i := 3) sc.nd rfl (by first | exact Or.inl rfl | exact Or.inr rfl)))) (by exact (pss_nil))))) (by exact (pss_cons (by exact (ps_asg (pe_callTy call_list_of (by rfl) T.n_list boot_list (pa_cons (pv 3) pa_nil)) (pg_name (i := 1) sc.nd rfl (by first | exact Or.inl rfl | exact Or.inr rfl)))) (by exact (pss_nil))))))))) (by exact (pss_cons (by exact (ps_ret (pv 1))) (by exact (pss_nil))))))
theorem sc_law_purse : FnScope ["state", "units_so", "unit"] ["state", "units_so"] (defScope s_law_purse) := ⟨rfl, rfl, rfl, by decide +kernel, rfl, by decide +kernel, by decide +kernel⟩
theorem ok_law_purse {f : Addr} {fd : FuncData} {f_law_draw : Addr} {d_law_draw : FuncData} (FF : Fun K "_law_purse" "_law_purse" s_law_purse f fd) (T : Txt P w K mg base ad) (c_law_draw : Cal P w K mg base 7 "_law_draw" f_law_draw d_law_draw ["state", "limit"] (m_law_draw K ad))  : FnG P w K mg base 8 f fd ["state", "units_so"] (spF K (m_law_purse K ad)) := def_ok FF sc_law_purse (S_law_purse K ad) fun cdv A outer s H E hr hgu => by
  have sc := sc_law_purse
  have hu := u100 hr
  have tk : Takes (cxOf (L2.CX P w) P w K mg base ["state", "units_so", "unit"] "_law_purse" (defScope s_law_purse) f cdv A outer s H E) (fun cls d _ H => E cls d H) := takes_of rfl rfl rfl rfl
  simp_all_arith! [S_law_purse]
  exact pss_cons (by exact (ps_ret (pe_callTy cr_tupleX (by rfl) T.n_tuple boot_tuple (pa_cons (by exact (pe_lc (own := [("unit", 2)]) rfl sc.nd (pi_range1 (by rfl) T.n_range (pa_cons (pe_op op_addX (pe_callB call_len_seq (by rfl) T.n_len PySem.boot_len (pa_cons (pv 1) pa_nil)) (pe_int)) pa_nil)) (by show BlkOk ["state", "units_so", "unit"] (defScope s_law_purse) _ _; exact ⟨rfl, by decide +kernel, by decide +kernel, by decide +kernel, by decide +kernel⟩) (fun _ _ _ _ _ => by exact (pg_name (i := 2) sc.nd rfl (by first | exact Or.inl rfl | exact Or.inr rfl))) (fun _ _ _ _ _ => by exact (pts_nil)) (fun _ _ _ _ _ => by exact (by exact (pe_callG c_law_draw.F (hr.mono (by decide)) hgu rfl c_law_draw.g c_law_draw.k c_law_draw.b takes0 (pa_cons (pv 0) (pa_cons (pe_int) (pa_nil)))))))) pa_nil)))) (by exact (pss_nil))
theorem sc_law_sums : FnScope ["units_so", "row", "found", "part"] ["units_so", "row"] (defScope s_law_sums) := ⟨rfl, rfl, rfl, by decide +kernel, rfl, by decide +kernel, by decide +kernel⟩
theorem ok_law_sums {f : Addr} {fd : FuncData} {f_law_parts : Addr} {d_law_parts : FuncData} {f_law_total : Addr} {d_law_total : FuncData} (FF : Fun K "_law_sums" "_law_sums" s_law_sums f fd) (T : Txt P w K mg base ad) (c_law_parts : Cal P w K mg base 6 "_law_parts" f_law_parts d_law_parts ["row"] (m_law_parts K ad)) (c_law_total : Cal P w K mg base 7 "_law_total" f_law_total d_law_total ["units_so", "row"] (m_law_total K ad))  : FnG P w K mg base 8 f fd ["units_so", "row"] (spF K (m_law_sums K ad)) := def_ok FF sc_law_sums (S_law_sums K ad) fun cdv A outer s H E hr hgu => by
  have sc := sc_law_sums
  have hu := u100 hr
  have tk : Takes (cxOf (L2.CX P w) P w K mg base ["units_so", "row", "found", "part"] "_law_sums" (defScope s_law_sums) f cdv A outer s H E) (fun cls d _ H => E cls d H) := takes_of rfl rfl rfl rfl
  simp_all_arith! [S_law_sums]
  exact pss_cons (by exact (ps_asg pe_dnewK (pg_name (i := 2) sc.nd rfl (by first | exact Or.inl rfl | exact Or.inr rfl)))) (by exact (pss_cons (by exact (ps_for (passes_of rfl) rfl (pi_any (by exact (pe_callG c_law_parts.F (hr.mono (by decide)) hgu rfl c_law_parts.g c_law_parts.k c_law_parts.b tk (pa_cons (pv 1) (pa_nil))))) (pg_name (i := 3) sc.nd rfl (by first | exact Or.inl rfl | exact Or.inr rfl)) (pss_cons (by exact (ps_dput (u1 hu) (pv 2) (by exact (pe_callG c_law_total.F (hr.mono (by decide)) hgu rfl c_law_total.g c_law_total.k c_law_total.b tk (pa_cons (pv 0) (pa_cons (pv 3) (pa_nil))))) (pe_bl) (by rfl))) (by exact (pss_nil))))) (by exact (pss_lck 2 (pss_cons (by exact (ps_ret (pv 2))) (by exact (pss_nil)))))))
theorem sc_law_paid : FnScope ["units_so", "mine", "others", "given_so", "found", "back", "less"] ["units_so", "mine", "others"] (defScope s_law_paid) := ⟨rfl, rfl, rfl, by decide +kernel, rfl, by decide +kernel, by decide +kernel⟩
theorem ok_law_paid {f : Addr} {fd : FuncData} {f_law_sums : Addr} {d_law_sums : FuncData} (FF : Fun K "_law_paid" "_law_paid" s_law_paid f fd) (T : Txt P w K mg base ad) (c_law_sums : Cal P w K mg base 8 "_law_sums" f_law_sums d_law_sums ["units_so", "row"] (m_law_sums K ad))  : FnG P w K mg base 9 f fd ["units_so", "mine", "others"] (spF K (m_law_paid K ad)) := def_ok FF sc_law_paid (S_law_paid K ad) fun cdv A outer s H E hr hgu => by
  have sc := sc_law_paid
  have hu := u100 hr
  have tk : Takes (cxOf (L2.CX P w) P w K mg base ["units_so", "mine", "others", "given_so", "found", "back", "less"] "_law_paid" (defScope s_law_paid) f cdv A outer s H E) (fun cls d _ H => E cls d H) := takes_of rfl rfl rfl rfl
  simp_all_arith! [S_law_paid]
  exact pss_cons (by exact (ps_par (i := 4) (j := 5) rfl sc.nd rfl rfl (by decide) rfl rfl (pa_cons pe_dnewK (pa_cons (by exact (pe_callG c_law_sums.F (hr.mono (by decide)) hgu rfl c_law_sums.g c_law_sums.k c_law_sums.b tk (pa_cons (pv 0) (pa_cons (pv 2) (pa_nil))))) (pa_nil))) (by rfl))) (by exact (pss_cons (by exact (ps_for (passes_of rfl) rfl (pi_keys (by exact (pe_callG c_law_sums.F (hr.mono (by decide)) hgu rfl c_law_sums.g c_law_sums.k c_law_sums.b tk (pa_cons (pv 0) (pa_cons (pv 1) (pa_nil)))))) (pg_name (i := 3) sc.nd rfl (by first | exact Or.inl rfl | exact Or.inr rfl)) (pss_cons (by exact (ps_for (passes_of rfl) rfl (pi_keys (pv 5)) (pg_name (i := 6) sc.nd rfl (by first | exact Or.inl rfl | exact Or.inr rfl)) (pss_cons (by exact (ps_dput (u1 hu) (pv 4) (pe_op op_sub (pv 3) (pv 6)) (pe_bl) (by rfl))) (by exact (pss_nil))))) (by exact (pss_nil))))) (by exact (pss_lck 4 (pss_cons (by exact (ps_ret (pv 4))) (by exact (pss_nil)))))))
omit [Cb] in
theorem sc_law_heard : FnScope ["call", "told", "error_so"] ["call"] (defScope s_law_heard) := ⟨rfl, rfl, rfl, by decide +kernel, rfl, by decide +kernel, by decide +kernel⟩
omit [Cb] in
theorem ok_law_heard {f : Addr} {fd : FuncData} (FF : Fun K "_law_heard" "_law_heard" s_law_heard f fd) (T : Txt P w K mg base ad) (Z : Zt K ad) (hg : mg "_law_heard" = some (.ref f)) (hk : PySem.W.keepIn K (.ref f) = true) (hb : Binds K fd ["call"] []) : Hlp P w K mg base 5 "_law_heard" s_law_heard f fd "call" ["call", "told", "error_so"] (S_law_heard K ad Z) where
  F := FF
  S := sc_law_heard
  g := hg
  ke := hk
  b := hb
  v := (by first | exact Or.inl rfl | exact Or.inr (Or.inl rfl))
  one := fun _ _ _ => rfl
  run := fun c cdv A outer s H hr hgu act => by
    letI : Cb := cbOf c
    have sc := sc_law_heard
    have hu := u100 hr
    have tk : Takes (cxOf (L2.CX P w) P w K mg base ["call", "told", "error_so"] "_law_heard" (defScope s_law_heard) f cdv A outer s H fun _ _ _ => False) (fun _ _ _ _ => False) := takes_of rfl rfl rfl rfl
    simp_all_arith! [S_law_heard]
    exact pss_cons (by exact (ps_asg (pe_non) (pg_name (i := 1) sc.nd rfl (by first | exact Or.inl rfl | exact Or.inr rfl)))) (by exact (pss_cons (by exact (ps_trySS rfl rfl rfl tk (fun W pn xe tk po => by simp_all_arith!; exact (pss_cons (by exact (ps_asg (pe_tup (pa_cons (pe_str) (pa_cons (act W pn xe _ _ tk) (pa_nil)))) (pg_name (i := 1) sc.nd rfl (by first | exact Or.inl rfl | exact Or.inr rfl)))) (by exact (pss_nil)))) (by exact (HsX.named (by exact ⟨rfl, by decide, .inl T.g_BadUnits⟩) sc.nd rfl rfl (fun a oe cls d pn hz hf => by dsimp only [X_law_heard_0, Yx.SE.loan, Yx.SN.sortDK, Yx.SE.ixD, Yx.SE.inD, Yx.SE.ixOD, Yx.SE.inOD, Yx.SS.frzD, Yx.SS.newD, Yx.SX.consD0, Yx.SS.dputK, Yx.SI.dct, Yx.SA.cons, Yx.SA.nil, Yx.SA.star, Yx.SE.andV, Yx.SE.bin, Yx.SE.bl, Yx.SE.call, Yx.SE.callF, Yx.SE.chain, Yx.SE.con, Yx.SE.inDic, Yx.SE.inOwn, Yx.SE.int, Yx.SE.isi, Yx.SE.ite, Yx.SE.ixO, Yx.SE.non, Yx.SE.notV, Yx.SE.ofN, Yx.SE.orV, Yx.SE.ref, Yx.SE.rv, Yx.SE.seq, Yx.SE.sl, Yx.SE.stAt, Yx.SE.stCells, Yx.SE.stLeft, Yx.SE.str, Yx.SE.tup, Yx.SE.tupOf, Yx.SE.un, Yx.SE.var, Yx.SE.hole, Yx.SE.callV, Yx.SN.rep, Yx.SN.lrg1, Yx.SN.cat, Yx.SI.rngDn, Yx.SI.zip3G, Yx.SE.xis, Yx.SE.xval, Yx.SG.name, Yx.SG.tup, Yx.SGs.cons, Yx.SGs.nil, Yx.SI.enum, Yx.SI.enumL, Yx.SI.enumZ, Yx.SI.lst, Yx.SI.rev, Yx.SI.rng1, Yx.SI.rng2, Yx.SI.rvr1, Yx.SI.rvr2, Yx.SI.tup, Yx.SI.any, Yx.SE.rvl, Yx.SE.rvB, Yx.SI.zip, Yx.SI.zipG, Yx.SN.comp, Yx.SN.comp2, Yx.SN.lst, Yx.SN.seq, Yx.SO.none, Yx.SO.some, Yx.SQ.of, Yx.SQ.ofN, Yx.SQ.own, Yx.SS.append, Yx.SS.asg, Yx.SS.asgO, Yx.SS.brk, Yx.SS.cont, Yx.SS.dput, Yx.SS.expr, Yx.SS.for, Yx.SS.frz, Yx.SS.ite, Yx.SS.par2, Yx.SS.par3, Yx.SS.raise0, Yx.SS.raise1, Yx.SS.ret, Yx.SS.seq, Yx.SS.setix, Yx.SS.skip, Yx.SS.stAt, Yx.SS.stLeft, Yx.SS.while, Yx.ST.and, Yx.ST.not, Yx.ST.or, Yx.ST.tru, Yx.ST.tru1, Yx.ST.val, Yx.SX.cons, Yx.SX.consD, Yx.SX.consN, Yx.SX.nil, Yx.HA.t]; exact (pss_one (ps_asg (pe_tup (pa_cons (pe_str) (pa_cons (pe_xf T.xf_BadUnits T.xn_BadUnits hz hf (pv 2)) (pa_cons (pe_callB (call_isX hz hf) (by rfl) T.n_isinstance boot_isinstance (pa_cons (pv 2) (pa_cons (pe_glob (v := .ref ad.YardError) rfl T.g_YardError rfl) pa_nil))) (pa_nil))))) (pg_name (i := 1) sc.nd rfl (by first | exact Or.inl rfl | exact Or.inr rfl))))) (HsX.named (by exact ⟨rfl, by decide, .inl T.g_BadRow⟩) sc.nd rfl rfl (fun a oe cls d pn hz hf => by dsimp only [X_law_heard_1, Yx.SE.loan, Yx.SN.sortDK, Yx.SE.ixD, Yx.SE.inD, Yx.SE.ixOD, Yx.SE.inOD, Yx.SS.frzD, Yx.SS.newD, Yx.SX.consD0, Yx.SS.dputK, Yx.SI.dct, Yx.SA.cons, Yx.SA.nil, Yx.SA.star, Yx.SE.andV, Yx.SE.bin, Yx.SE.bl, Yx.SE.call, Yx.SE.callF, Yx.SE.chain, Yx.SE.con, Yx.SE.inDic, Yx.SE.inOwn, Yx.SE.int, Yx.SE.isi, Yx.SE.ite, Yx.SE.ixO, Yx.SE.non, Yx.SE.notV, Yx.SE.ofN, Yx.SE.orV, Yx.SE.ref, Yx.SE.rv, Yx.SE.seq, Yx.SE.sl, Yx.SE.stAt, Yx.SE.stCells, Yx.SE.stLeft, Yx.SE.str, Yx.SE.tup, Yx.SE.tupOf, Yx.SE.un, Yx.SE.var, Yx.SE.hole, Yx.SE.callV, Yx.SN.rep, Yx.SN.lrg1, Yx.SN.cat, Yx.SI.rngDn, Yx.SI.zip3G, Yx.SE.xis, Yx.SE.xval, Yx.SG.name, Yx.SG.tup, Yx.SGs.cons, Yx.SGs.nil, Yx.SI.enum, Yx.SI.enumL, Yx.SI.enumZ, Yx.SI.lst, Yx.SI.rev, Yx.SI.rng1, Yx.SI.rng2, Yx.SI.rvr1, Yx.SI.rvr2, Yx.SI.tup, Yx.SI.any, Yx.SE.rvl, Yx.SE.rvB, Yx.SI.zip, Yx.SI.zipG, Yx.SN.comp, Yx.SN.comp2, Yx.SN.lst, Yx.SN.seq, Yx.SO.none, Yx.SO.some, Yx.SQ.of, Yx.SQ.ofN, Yx.SQ.own, Yx.SS.append, Yx.SS.asg, Yx.SS.asgO, Yx.SS.brk, Yx.SS.cont, Yx.SS.dput, Yx.SS.expr, Yx.SS.for, Yx.SS.frz, Yx.SS.ite, Yx.SS.par2, Yx.SS.par3, Yx.SS.raise0, Yx.SS.raise1, Yx.SS.ret, Yx.SS.seq, Yx.SS.setix, Yx.SS.skip, Yx.SS.stAt, Yx.SS.stLeft, Yx.SS.while, Yx.ST.and, Yx.ST.not, Yx.ST.or, Yx.ST.tru, Yx.ST.tru1, Yx.ST.val, Yx.SX.cons, Yx.SX.consD, Yx.SX.consN, Yx.SX.nil, Yx.HA.t]; exact (pss_one (ps_asg (pe_tup (pa_cons (pe_str) (pa_cons (pe_xf T.xf_BadRow T.xn_BadRow hz hf (pv 2)) (pa_cons (pe_callB (call_isX hz hf) (by rfl) T.n_isinstance boot_isinstance (pa_cons (pv 2) (pa_cons (pe_glob (v := .ref ad.YardError) rfl T.g_YardError rfl) pa_nil))) (pa_nil))))) (pg_name (i := 1) sc.nd rfl (by first | exact Or.inl rfl | exact Or.inr rfl))))) (HsX.named (by exact ⟨rfl, by decide, .inl T.g_BadParameter⟩) sc.nd rfl rfl (fun a oe cls d pn hz hf => by dsimp only [X_law_heard_2, Yx.SE.loan, Yx.SN.sortDK, Yx.SE.ixD, Yx.SE.inD, Yx.SE.ixOD, Yx.SE.inOD, Yx.SS.frzD, Yx.SS.newD, Yx.SX.consD0, Yx.SS.dputK, Yx.SI.dct, Yx.SA.cons, Yx.SA.nil, Yx.SA.star, Yx.SE.andV, Yx.SE.bin, Yx.SE.bl, Yx.SE.call, Yx.SE.callF, Yx.SE.chain, Yx.SE.con, Yx.SE.inDic, Yx.SE.inOwn, Yx.SE.int, Yx.SE.isi, Yx.SE.ite, Yx.SE.ixO, Yx.SE.non, Yx.SE.notV, Yx.SE.ofN, Yx.SE.orV, Yx.SE.ref, Yx.SE.rv, Yx.SE.seq, Yx.SE.sl, Yx.SE.stAt, Yx.SE.stCells, Yx.SE.stLeft, Yx.SE.str, Yx.SE.tup, Yx.SE.tupOf, Yx.SE.un, Yx.SE.var, Yx.SE.hole, Yx.SE.callV, Yx.SN.rep, Yx.SN.lrg1, Yx.SN.cat, Yx.SI.rngDn, Yx.SI.zip3G, Yx.SE.xis, Yx.SE.xval, Yx.SG.name, Yx.SG.tup, Yx.SGs.cons, Yx.SGs.nil, Yx.SI.enum, Yx.SI.enumL, Yx.SI.enumZ, Yx.SI.lst, Yx.SI.rev, Yx.SI.rng1, Yx.SI.rng2, Yx.SI.rvr1, Yx.SI.rvr2, Yx.SI.tup, Yx.SI.any, Yx.SE.rvl, Yx.SE.rvB, Yx.SI.zip, Yx.SI.zipG, Yx.SN.comp, Yx.SN.comp2, Yx.SN.lst, Yx.SN.seq, Yx.SO.none, Yx.SO.some, Yx.SQ.of, Yx.SQ.ofN, Yx.SQ.own, Yx.SS.append, Yx.SS.asg, Yx.SS.asgO, Yx.SS.brk, Yx.SS.cont, Yx.SS.dput, Yx.SS.expr, Yx.SS.for, Yx.SS.frz, Yx.SS.ite, Yx.SS.par2, Yx.SS.par3, Yx.SS.raise0, Yx.SS.raise1, Yx.SS.ret, Yx.SS.seq, Yx.SS.setix, Yx.SS.skip, Yx.SS.stAt, Yx.SS.stLeft, Yx.SS.while, Yx.ST.and, Yx.ST.not, Yx.ST.or, Yx.ST.tru, Yx.ST.tru1, Yx.ST.val, Yx.SX.cons, Yx.SX.consD, Yx.SX.consN, Yx.SX.nil, Yx.HA.t]; exact (pss_one (ps_asg (pe_tup (pa_cons (pe_str) (pa_cons (pe_xf T.xf_BadParameter T.xn_BadParameter hz hf (pv 2)) (pa_cons (pe_callB (call_isX hz hf) (by rfl) T.n_isinstance boot_isinstance (pa_cons (pv 2) (pa_cons (pe_glob (v := .ref ad.YardError) rfl T.g_YardError rfl) pa_nil))) (pa_nil))))) (pg_name (i := 1) sc.nd rfl (by first | exact Or.inl rfl | exact Or.inr rfl))))) (HsX.named (by exact ⟨rfl, by decide, .inl T.g_NoRow⟩) sc.nd rfl rfl (fun a oe cls d pn hz hf => by dsimp only [X_law_heard_3, Yx.SE.loan, Yx.SN.sortDK, Yx.SE.ixD, Yx.SE.inD, Yx.SE.ixOD, Yx.SE.inOD, Yx.SS.frzD, Yx.SS.newD, Yx.SX.consD0, Yx.SS.dputK, Yx.SI.dct, Yx.SA.cons, Yx.SA.nil, Yx.SA.star, Yx.SE.andV, Yx.SE.bin, Yx.SE.bl, Yx.SE.call, Yx.SE.callF, Yx.SE.chain, Yx.SE.con, Yx.SE.inDic, Yx.SE.inOwn, Yx.SE.int, Yx.SE.isi, Yx.SE.ite, Yx.SE.ixO, Yx.SE.non, Yx.SE.notV, Yx.SE.ofN, Yx.SE.orV, Yx.SE.ref, Yx.SE.rv, Yx.SE.seq, Yx.SE.sl, Yx.SE.stAt, Yx.SE.stCells, Yx.SE.stLeft, Yx.SE.str, Yx.SE.tup, Yx.SE.tupOf, Yx.SE.un, Yx.SE.var, Yx.SE.hole, Yx.SE.callV, Yx.SN.rep, Yx.SN.lrg1, Yx.SN.cat, Yx.SI.rngDn, Yx.SI.zip3G, Yx.SE.xis, Yx.SE.xval, Yx.SG.name, Yx.SG.tup, Yx.SGs.cons, Yx.SGs.nil, Yx.SI.enum, Yx.SI.enumL, Yx.SI.enumZ, Yx.SI.lst, Yx.SI.rev, Yx.SI.rng1, Yx.SI.rng2, Yx.SI.rvr1, Yx.SI.rvr2, Yx.SI.tup, Yx.SI.any, Yx.SE.rvl, Yx.SE.rvB, Yx.SI.zip, Yx.SI.zipG, Yx.SN.comp, Yx.SN.comp2, Yx.SN.lst, Yx.SN.seq, Yx.SO.none, Yx.SO.some, Yx.SQ.of, Yx.SQ.ofN, Yx.SQ.own, Yx.SS.append, Yx.SS.asg, Yx.SS.asgO, Yx.SS.brk, Yx.SS.cont, Yx.SS.dput, Yx.SS.expr, Yx.SS.for, Yx.SS.frz, Yx.SS.ite, Yx.SS.par2, Yx.SS.par3, Yx.SS.raise0, Yx.SS.raise1, Yx.SS.ret, Yx.SS.seq, Yx.SS.setix, Yx.SS.skip, Yx.SS.stAt, Yx.SS.stLeft, Yx.SS.while, Yx.ST.and, Yx.ST.not, Yx.ST.or, Yx.ST.tru, Yx.ST.tru1, Yx.ST.val, Yx.SX.cons, Yx.SX.consD, Yx.SX.consN, Yx.SX.nil, Yx.HA.t]; exact (pss_one (ps_asg (pe_tup (pa_cons (pe_str) (pa_cons (pe_callB (call_isX hz hf) (by rfl) T.n_isinstance boot_isinstance (pa_cons (pv 2) (pa_cons (pe_glob (v := .ref ad.YardError) rfl T.g_YardError rfl) pa_nil))) (pa_nil)))) (pg_name (i := 1) sc.nd rfl (by first | exact Or.inl rfl | exact Or.inr rfl))))) (HsX.nil)))))))) (by exact (pss_cons (by exact (ps_ret (pv 1))) (by exact (pss_nil))))))
theorem sc_law_like : FnScope ["got", "due"] ["got", "due"] (defScope s_law_like) := ⟨rfl, rfl, rfl, by decide +kernel, rfl, by decide +kernel, by decide +kernel⟩
theorem ok_law_like {f : Addr} {fd : FuncData}  (FF : Fun K "_law_like" "_law_like" s_law_like f fd) (T : Txt P w K mg base ad)   : FnG P w K mg base 6 f fd ["got", "due"] (spF K (m_law_like K ad)) := def_ok FF sc_law_like (S_law_like K ad) fun cdv A outer s H E hr hgu => by
  have sc := sc_law_like
  have hu := u100 hr
  have tk : Takes (cxOf (L2.CX P w) P w K mg base ["got", "due"] "_law_like" (defScope s_law_like) f cdv A outer s H E) (fun cls d _ H => E cls d H) := takes_of rfl rfl rfl rfl
  simp_all_arith! [S_law_like]
  exact pss_cons (by exact (ps_ret (pe_cmpR (op_eqX (u64 hu)) (pe_callB (cr_repr hu hgu) (by rfl) T.n_repr boot_repr (pa_cons (pv 0) (pa_nil))) (pe_callB (cr_repr hu hgu) (by rfl) T.n_repr boot_repr (pa_cons (pv 1) (pa_nil))) (nomark _)))) (by exact (pss_nil))
theorem sc_law_rests : FnScope ["units_so", "mine", "others", "unit", "found", "amount_so", "zeros_so", "size"] ["units_so", "mine", "others", "unit"] (defScope s_law_rests) := ⟨rfl, rfl, rfl, by decide +kernel, rfl, by decide +kernel, by decide +kernel⟩
theorem ok_law_rests {f : Addr} {fd : FuncData} {f_law_paid : Addr} {d_law_paid : FuncData} {f_law_sizes : Addr} {d_law_sizes : FuncData} (FF : Fun K "_law_rests" "_law_rests" s_law_rests f fd) (T : Txt P w K mg base ad) (c_law_paid : Cal P w K mg base 9 "_law_paid" f_law_paid d_law_paid ["units_so", "mine", "others"] (m_law_paid K ad)) (c_law_sizes : Cal P w K mg base 6 "_law_sizes" f_law_sizes d_law_sizes ["units_so"] (m_law_sizes K ad))  : FnG P w K mg base 10 f fd ["units_so", "mine", "others", "unit"] (spF K (m_law_rests K ad)) := def_ok FF sc_law_rests (S_law_rests K ad) fun cdv A outer s H E hr hgu => by
  have sc := sc_law_rests
  have hu := u100 hr
  have tk : Takes (cxOf (L2.CX P w) P w K mg base ["units_so", "mine", "others", "unit", "found", "amount_so", "zeros_so", "size"] "_law_rests" (defScope s_law_rests) f cdv A outer s H E) (fun cls d _ H => E cls d H) := takes_of rfl rfl rfl rfl
  simp_all_arith! [S_law_rests]
  exact pss_cons (by exact (ps_par (i := 6) (j := 7) rfl sc.nd rfl rfl (by decide) rfl rfl (pa_cons (pe_op op_mulX (pe_tup (pa_cons (pe_int) (pa_nil))) (pv 3)) (pa_cons (pe_ix (ix_list.or ix_tup) (by exact (pe_callG c_law_sizes.F (hr.mono (by decide)) hgu rfl c_law_sizes.g c_law_sizes.k c_law_sizes.b tk (pa_cons (pv 0) (pa_nil)))) (pe_op op_sub (pv 3) (pe_int)) (fun _ _ => rfl)) (pa_nil))) (by rfl))) (by exact (pss_cons (by exact (ps_asg pe_dnewK (pg_name (i := 4) sc.nd rfl (by first | exact Or.inl rfl | exact Or.inr rfl)))) (by exact (pss_cons (by exact (ps_for (passes_of rfl) rfl (pi_keys (by exact (pe_callG c_law_paid.F (hr.mono (by decide)) hgu rfl c_law_paid.g c_law_paid.k c_law_paid.b tk (pa_cons (pv 0) (pa_cons (pe_op op_addX (pv 6) (pe_slice (SlR.or sl_tupA sl_list) (pv 1) (po_some (pv 3)) (po_none))) (pa_cons (pe_op op_addX (pv 6) (pe_slice (SlR.or sl_tupA sl_list) (pv 2) (po_some (pv 3)) (po_none))) (pa_nil))))))) (pg_name (i := 5) sc.nd rfl (by first | exact Or.inl rfl | exact Or.inr rfl)) (pss_cons (by exact (ps_dput (u1 hu) (pv 4) (pe_op op_mod (pe_callTy call_int1 (by rfl) T.n_int boot_int (pa_cons (pv 5) (pa_nil))) (pv 7)) (pe_bl) (by rfl))) (by exact (pss_nil))))) (by exact (pss_lck 4 (pss_cons (by exact (ps_ret (pv 4))) (by exact (pss_nil)))))))))
theorem sc_law_right : FnScope ["state", "units_so", "tables", "amount_so", "mine", "others", "paid", "sizes_so", "lost", "due", "unit"] ["state"] (defScope s_law_right) := ⟨rfl, rfl, rfl, by decide +kernel, rfl, by decide +kernel, by decide +kernel⟩
theorem ok_law_right {f : Addr} {fd : FuncData} {f_law_like : Addr} {d_law_like : FuncData} {f_law_paid : Addr} {d_law_paid : FuncData} {f_law_purse : Addr} {d_law_purse : FuncData} {f_law_rests : Addr} {d_law_rests : FuncData} {f_law_sizes : Addr} {d_law_sizes : FuncData} {f_law_total : Addr} {d_law_total : FuncData} {f_law_units : Addr} {d_law_units : FuncData} {f_blocked_unit : Addr} {d_blocked_unit : FuncData} (FF : Fun K "_law_right" "_law_right" s_law_right f fd) (T : Txt P w K mg base ad) (Z : Zt K ad) {cc pp : Addr} (hcd : fd.code = .ref cc) (tb : LamX.TabB base mg cc pp) (hm : (pp, lamQ "_law_right" (defScope s_law_right)) ∈ Tb.tb) {f_law_heard : Addr} {d_law_heard : FuncData} (c_law_heard : Hlp P w K mg base 5 "_law_heard" s_law_heard f_law_heard d_law_heard "call" ["call", "told", "error_so"] (S_law_heard K ad Z)) (c_law_like : Cal P w K mg base 6 "_law_like" f_law_like d_law_like ["got", "due"] (m_law_like K ad)) (c_law_paid : Cal P w K mg base 9 "_law_paid" f_law_paid d_law_paid ["units_so", "mine", "others"] (m_law_paid K ad)) (c_law_purse : Cal P w K mg base 8 "_law_purse" f_law_purse d_law_purse ["state", "units_so"] (m_law_purse K ad)) (c_law_rests : Cal P w K mg base 10 "_law_rests" f_law_rests d_law_rests ["units_so", "mine", "others", "unit"] (m_law_rests K ad)) (c_law_sizes : Cal P w K mg base 6 "_law_sizes" f_law_sizes d_law_sizes ["units_so"] (m_law_sizes K ad)) (c_law_total : Cal P w K mg base 7 "_law_total" f_law_total d_law_total ["units_so", "row"] (m_law_total K ad)) (c_law_units : Cal P w K mg base 8 "_law_units" f_law_units d_law_units ["state"] (m_law_units K ad)) (c_blocked_unit : Cal P w K mg base 12 "blocked_unit" f_blocked_unit d_blocked_unit ["units", "one", "other", "amount"] (m_blocked_unit K ad))  : FnG P w K mg base 15 f fd ["state"] (spF K (m_law_right K ad Z)) := def_okL FF hcd sc_law_right (S_law_right K ad Z) fun A outer s H E hr hgu => by
  have sc := sc_law_right
  have hu := u100 hr
  have tk : Takes (cxOf (L2.CX P w) P w K mg base ["state", "units_so", "tables", "amount_so", "mine", "others", "paid", "sizes_so", "lost", "due", "unit"] "_law_right" (defScope s_law_right) f (.ref cc) A outer s H E) (fun cls d _ H => E cls d H) := takes_of rfl rfl rfl rfl
  simp_all_arith! [S_law_right]
  exact pss_cons (by exact (ps_asg (by exact (pe_callG c_law_units.F (hr.mono (by decide)) hgu rfl c_law_units.g c_law_units.k c_law_units.b tk (pa_cons (pv 0) (pa_nil)))) (pg_name (i := 1) sc.nd rfl (by first | exact Or.inl rfl | exact Or.inr rfl)))) (by exact (pss_cons (by exact (ps_asg (pe_tup (pa_cons (by exact (pe_callG c_law_purse.F (hr.mono (by decide)) hgu rfl c_law_purse.g c_law_purse.k c_law_purse.b tk (pa_cons (pv 0) (pa_cons (pv 1) (pa_nil))))) (pa_cons (by exact (pe_callG c_law_purse.F (hr.mono (by decide)) hgu rfl c_law_purse.g c_law_purse.k c_law_purse.b tk (pa_cons (pv 0) (pa_cons (pv 1) (pa_nil))))) (pa_nil)))) (pg_tup rfl (pgs_cons (pg_name (i := 4) sc.nd rfl (by first | exact Or.inl rfl | exact Or.inr rfl)) (pgs_cons (pg_name (i := 5) sc.nd rfl (by first | exact Or.inl rfl | exact Or.inr rfl)) (pgs_nil)))))) (by exact (pss_cons (by exact (ps_asg (pe_tup (pa_cons (by exact (pe_callG c_law_paid.F (hr.mono (by decide)) hgu rfl c_law_paid.g c_law_paid.k c_law_paid.b tk (pa_cons (pv 1) (pa_cons (pv 4) (pa_cons (pv 5) (pa_nil)))))) (pa_cons (by exact (pe_callG c_law_sizes.F (hr.mono (by decide)) hgu rfl c_law_sizes.g c_law_sizes.k c_law_sizes.b tk (pa_cons (pv 1) (pa_nil)))) (pa_nil)))) (pg_tup rfl (pgs_cons (pg_name (i := 6) sc.nd rfl (by first | exact Or.inl rfl | exact Or.inr rfl)) (pgs_cons (pg_name (i := 7) sc.nd rfl (by first | exact Or.inl rfl | exact Or.inr rfl)) (pgs_nil)))))) (by exact (pss_cons (by exact (ps_asg (by exact (pe_lc (own := [("unit", 10)]) rfl sc.nd (pi_range2 (by rfl) T.n_range (pa_cons (pe_int) (pa_cons (pe_op op_addX (pe_callB call_len_seq (by rfl) T.n_len PySem.boot_len (pa_cons (pv 1) pa_nil)) (pe_int)) pa_nil))) (by show BlkOk ["state", "units_so", "tables", "amount_so", "mine", "others", "paid", "sizes_so", "lost", "due", "unit"] (defScope s_law_right) _ _; exact ⟨rfl, by decide +kernel, by decide +kernel, by decide +kernel, by decide +kernel⟩) (fun _ _ _ _ _ => by exact (pg_name (i := 10) sc.nd rfl (by first | exact Or.inl rfl | exact Or.inr rfl))) (fun _ _ _ _ _ => by exact (pts_nil)) (fun _ _ _ _ _ => by exact (by exact (pe_callG c_law_rests.F (hr.mono (by decide)) hgu rfl c_law_rests.g c_law_rests.k c_law_rests.b takes0 (pa_cons (pv 1) (pa_cons (pv 4) (pa_cons (pv 5) (pa_cons (pv 10) (pa_nil)))))))))) (pg_name (i := 2) sc.nd rfl (by first | exact Or.inl rfl | exact Or.inr rfl)))) (by exact (pss_cons (by exact (ps_for (passes_of rfl) rfl (pi_range2 (by rfl) T.n_range (pa_cons (pe_op op_sub (pe_un un_neg (by exact (pe_callG c_law_total.F (hr.mono (by decide)) hgu rfl c_law_total.g c_law_total.k c_law_total.b tk (pa_cons (pv 1) (pa_cons (pv 5) (pa_nil)))))) (pe_int)) (pa_cons (pe_op op_addX (by exact (pe_callG c_law_total.F (hr.mono (by decide)) hgu rfl c_law_total.g c_law_total.k c_law_total.b tk (pa_cons (pv 1) (pa_cons (pv 4) (pa_nil))))) (pe_int)) pa_nil))) (pg_name (i := 3) sc.nd rfl (by first | exact Or.inl rfl | exact Or.inr rfl)) (pss_cons (by exact (ps_asg (pe_op op_addX (pe_lst (pa_cons (pe_int) (pa_nil))) (by exact (pe_lc (own := [("unit", 10)]) rfl sc.nd (pi_range2 (by rfl) T.n_range (pa_cons (pe_int) (pa_cons (pe_op op_addX (pe_callB call_len_seq (by rfl) T.n_len PySem.boot_len (pa_cons (pv 1) pa_nil)) (pe_int)) pa_nil))) (by show BlkOk ["state", "units_so", "tables", "amount_so", "mine", "others", "paid", "sizes_so", "lost", "due", "unit"] (defScope s_law_right) _ _; exact ⟨rfl, by decide +kernel, by decide +kernel, by decide +kernel, by decide +kernel⟩) (fun _ _ _ _ _ => by exact (pg_name (i := 10) sc.nd rfl (by first | exact Or.inl rfl | exact Or.inr rfl))) (fun _ _ _ _ _ => by exact (pts_one (pt_cmp (pc_dnotin (u1 hu) (pe_op op_mod (pe_callTy call_int1 (by rfl) T.n_int boot_int (pa_cons (pv 3) (pa_nil))) (pe_ix (ix_list.or ix_tup) (pv 7) (pe_op op_sub (pv 10) (pe_int)) (fun _ _ => rfl))) (pe_ix (ix_list.or ix_tup) (pv 2) (pe_op op_sub (pv 10) (pe_int)) (fun _ _ => rfl))) (by with_unfolding_all rfl)))) (fun _ _ _ _ _ => by exact (pv 10))))) (pg_name (i := 8) sc.nd rfl (by first | exact Or.inl rfl | exact Or.inr rfl)))) (by exact (pss_cons (by exact (ps_asg (pe_ifExp (pt_cmp (pc_din (u1 hu) (pv 3) (pv 6)) (by with_unfolding_all rfl)) (pe_tup (pa_cons (pe_str) (pa_cons (pe_bl) (pa_nil)))) (pe_tup (pa_cons (pe_str) (pa_cons (pe_ix (ix_list.or ix_tup) (pv 8) (pe_un un_neg (pe_int)) (fun _ _ => rfl)) (pa_nil))))) (pg_name (i := 9) sc.nd rfl (by first | exact Or.inl rfl | exact Or.inr rfl)))) (by exact (pss_cons (by exact (ps_if (pt_not (pt_val (by exact (pe_callG c_law_like.F (hr.mono (by decide)) hgu rfl c_law_like.g c_law_like.k c_law_like.b tk (pa_cons (by exact (pe_lamG (k := 12) (c_law_heard.mono (by decide)) rfl rfl tb rfl hm (hr.mono (by decide)) hgu (LamX.lamS_by (by show LamX.lamSB (defScope s_law_right) _ = true; decide +kernel)) rfl (fun _ _ _ _ _ => rfl) (fun A outer s H E f c hr hgu tk => by have hu := u100 hr; simp_all_arith! [L_law_right_0]; exact (by exact (pe_callG c_blocked_unit.F (hr.mono (by decide)) hgu rfl c_blocked_unit.g c_blocked_unit.k c_blocked_unit.b tk (pa_cons (pv 1) (pa_cons (pv 4) (pa_cons (pv 5) (pa_cons (pv 3) (pa_nil)))))))))) (pa_cons (pv 9) (pa_nil))))))) (pss_cons (by exact (ps_ret (pe_bl))) (by exact (pss_nil))) (pss_nil))) (by exact (pss_nil))))))))) (by exact (pss_cons (by exact (ps_ret (pe_bl))) (by exact (pss_nil))))))))))))
theorem sc_law_by_hand : FnScope ["top", "got", "due"] [] (defScope s_law_by_hand) := ⟨rfl, rfl, rfl, by decide +kernel, rfl, by decide +kernel, by decide +kernel⟩
theorem ok_law_by_hand {f : Addr} {fd : FuncData} {f_law_like : Addr} {d_law_like : FuncData} {f_blocked_unit : Addr} {d_blocked_unit : FuncData} {f_can_pay : Addr} {d_can_pay : FuncData} (FF : Fun K "_law_by_hand" "_law_by_hand" s_law_by_hand f fd) (T : Txt P w K mg base ad) (Z : Zt K ad) {cc pp : Addr} (hcd : fd.code = .ref cc) (tb : LamX.TabB base mg cc pp) (hm : (pp, lamQ "_law_by_hand" (defScope s_law_by_hand)) ∈ Tb.tb) {f_law_heard : Addr} {d_law_heard : FuncData} (c_law_heard : Hlp P w K mg base 5 "_law_heard" s_law_heard f_law_heard d_law_heard "call" ["call", "told", "error_so"] (S_law_heard K ad Z)) (c_law_like : Cal P w K mg base 6 "_law_like" f_law_like d_law_like ["got", "due"] (m_law_like K ad)) (c_blocked_unit : Cal P w K mg base 12 "blocked_unit" f_blocked_unit d_blocked_unit ["units", "one", "other", "amount"] (m_blocked_unit K ad)) (c_can_pay : Cal P w K mg base 12 "can_pay" f_can_pay d_can_pay ["units", "one", "other", "amount"] (m_can_pay K ad)) (kb_can_pay : ∀ (s : Shared) (us : List Value), us.length = 4 → BindsTo s d_can_pay ⟨[], (["units", "one", "other", "amount"] : List Str).zip us⟩ ((["units", "one", "other", "amount"] : List Str).zip us)) : FnG P w K mg base 15 f fd [] (spF K (m_law_by_hand K ad Z)) := def_okL FF hcd sc_law_by_hand (S_law_by_hand K ad Z) fun A outer s H E hr hgu => by
  have sc := sc_law_by_hand
  have hu := u100 hr
  have tk : Takes (cxOf (L2.CX P w) P w K mg base ["top", "got", "due"] "_law_by_hand" (defScope s_law_by_hand) f (.ref cc) A outer s H E) (fun cls d _ H => E cls d H) := takes_of rfl rfl rfl rfl
  simp_all_arith! [S_law_by_hand]
  exact pss_cons (by exact (ps_asg (pe_op op_pow (pe_int) (pe_int)) (pg_name (i := 0) sc.nd rfl (by first | exact Or.inl rfl | exact Or.inr rfl)))) (by exact (pss_cons (by exact (ps_asg (pe_lst (pa_cons (by exact (pe_lamG (k := 12) (c_law_heard.mono (by decide)) rfl rfl tb rfl hm (hr.mono (by decide)) hgu (LamX.lamS_by (by show LamX.lamSB (defScope s_law_by_hand) _ = true; decide +kernel)) rfl (fun _ _ _ _ _ => rfl) (fun A outer s H E f c hr hgu tk => by have hu := u100 hr; simp_all_arith! [L_law_by_hand_0]; exact (by exact (pe_callG c_blocked_unit.F (hr.mono (by decide)) hgu rfl c_blocked_unit.g c_blocked_unit.k c_blocked_unit.b tk (pa_cons (pe_tup (pa_cons (pe_int) (pa_cons (pe_int) (pa_nil)))) (pa_cons (pe_tup (pa_cons (pe_int) (pa_cons (pe_int) (pa_cons (pe_int) (pa_nil))))) (pa_cons (pe_tup (pa_cons (pe_int) (pa_cons (pe_int) (pa_cons (pe_int) (pa_nil))))) (pa_cons (pe_int) (pa_nil)))))))))) (pa_nil))) (pg_name (i := 1) sc.nd rfl (by first | exact Or.inl rfl | exact Or.inr rfl)))) (by exact (pss_cons (by exact (ps_expr (pe_bm PySem.F.plainAttrs_list PySem.F.slot_list_append PySem.F.type_list_append mt_append (pv 1) (pa_cons (by exact (pe_lamG (k := 12) (c_law_heard.mono (by decide)) rfl rfl tb rfl hm (hr.mono (by decide)) hgu (LamX.lamS_by (by show LamX.lamSB (defScope s_law_by_hand) _ = true; decide +kernel)) rfl (fun _ _ _ _ _ => rfl) (fun A outer s H E f c hr hgu tk => by have hu := u100 hr; simp_all_arith! [L_law_by_hand_1]; exact (by exact (pe_callG c_blocked_unit.F (hr.mono (by decide)) hgu rfl c_blocked_unit.g c_blocked_unit.k c_blocked_unit.b tk (pa_cons (pe_tup (pa_cons (pe_int) (pa_cons (pe_int) (pa_nil)))) (pa_cons (pe_tup (pa_cons (pe_int) (pa_cons (pe_int) (pa_cons (pe_int) (pa_nil))))) (pa_cons (pe_tup (pa_cons (pe_int) (pa_cons (pe_int) (pa_cons (pe_int) (pa_nil))))) (pa_cons (pe_int) (pa_nil)))))))))) pa_nil)))) (by exact (pss_cons (by exact (ps_expr (pe_bm PySem.F.plainAttrs_list PySem.F.slot_list_append PySem.F.type_list_append mt_append (pv 1) (pa_cons (by exact (pe_lamG (k := 12) (c_law_heard.mono (by decide)) rfl rfl tb rfl hm (hr.mono (by decide)) hgu (LamX.lamS_by (by show LamX.lamSB (defScope s_law_by_hand) _ = true; decide +kernel)) rfl (fun _ _ _ _ _ => rfl) (fun A outer s H E f c hr hgu tk => by have hu := u100 hr; simp_all_arith! [L_law_by_hand_2]; exact (by exact (pe_callG c_blocked_unit.F (hr.mono (by decide)) hgu rfl c_blocked_unit.g c_blocked_unit.k c_blocked_unit.b tk (pa_cons (pe_tup (pa_cons (pe_int) (pa_cons (pe_int) (pa_nil)))) (pa_cons (pe_tup (pa_cons (pe_int) (pa_cons (pe_int) (pa_cons (pe_int) (pa_nil))))) (pa_cons (pe_tup (pa_cons (pe_int) (pa_cons (pe_int) (pa_cons (pe_int) (pa_nil))))) (pa_cons (pe_int) (pa_nil)))))))))) pa_nil)))) (by exact (pss_cons (by exact (ps_expr (pe_bm PySem.F.plainAttrs_list PySem.F.slot_list_append PySem.F.type_list_append mt_append (pv 1) (pa_cons (by exact (pe_lamG (k := 12) (c_law_heard.mono (by decide)) rfl rfl tb rfl hm (hr.mono (by decide)) hgu (LamX.lamS_by (by show LamX.lamSB (defScope s_law_by_hand) _ = true; decide +kernel)) rfl (fun _ _ _ _ _ => rfl) (fun A outer s H E f c hr hgu tk => by have hu := u100 hr; simp_all_arith! [L_law_by_hand_3]; exact (by exact (pe_callG c_blocked_unit.F (hr.mono (by decide)) hgu rfl c_blocked_unit.g c_blocked_unit.k c_blocked_unit.b tk (pa_cons (pe_tup (pa_cons (pe_int) (pa_nil))) (pa_cons (pe_tup (pa_cons (pv 0) (pa_cons (pe_int) (pa_nil)))) (pa_cons (pe_tup (pa_cons (pe_int) (pa_cons (pe_int) (pa_nil)))) (pa_cons (pe_op op_sub (pe_op op_mulX (pv 0) (pe_int)) (pe_int)) (pa_nil)))))))))) pa_nil)))) (by exact (pss_cons (by exact (ps_expr (pe_bm PySem.F.plainAttrs_list PySem.F.slot_list_append PySem.F.type_list_append mt_append (pv 1) (pa_cons (by exact (pe_lamG (k := 12) (c_law_heard.mono (by decide)) rfl rfl tb rfl hm (hr.mono (by decide)) hgu (LamX.lamS_by (by show LamX.lamSB (defScope s_law_by_hand) _ = true; decide +kernel)) rfl (fun _ _ _ _ _ => rfl) (fun A outer s H E f c hr hgu tk => by have hu := u100 hr; simp_all_arith! [L_law_by_hand_4]; exact (by exact (pe_callG c_blocked_unit.F (hr.mono (by decide)) hgu rfl c_blocked_unit.g c_blocked_unit.k c_blocked_unit.b tk (pa_cons (pe_tup (pa_cons (pe_int) (pa_nil))) (pa_cons (pe_tup (pa_cons (pv 0) (pa_cons (pe_int) (pa_nil)))) (pa_cons (pe_tup (pa_cons (pe_int) (pa_cons (pe_int) (pa_nil)))) (pa_cons (pe_op op_sub (pe_op op_pow (pe_int) (pe_int)) (pe_int)) (pa_nil)))))))))) pa_nil)))) (by exact (pss_cons (by exact (ps_expr (pe_bm PySem.F.plainAttrs_list PySem.F.slot_list_append PySem.F.type_list_append mt_append (pv 1) (pa_cons (by exact (pe_lamG (k := 12) (c_law_heard.mono (by decide)) rfl rfl tb rfl hm (hr.mono (by decide)) hgu (LamX.lamS_by (by show LamX.lamSB (defScope s_law_by_hand) _ = true; decide +kernel)) rfl (fun _ _ _ _ _ => rfl) (fun A outer s H E f c hr hgu tk => by have hu := u100 hr; simp_all_arith! [L_law_by_hand_5]; exact (by exact (pe_callG c_blocked_unit.F (hr.mono (by decide)) hgu rfl c_blocked_unit.g c_blocked_unit.k c_blocked_unit.b tk (pa_cons (pe_tup (pa_cons (pe_int) (pa_nil))) (pa_cons (pe_tup (pa_cons (pv 0) (pa_cons (pe_int) (pa_nil)))) (pa_cons (pe_tup (pa_cons (pe_int) (pa_cons (pe_int) (pa_nil)))) (pa_cons (pe_un un_neg (pe_int)) (pa_nil)))))))))) pa_nil)))) (by exact (pss_cons (by exact (ps_expr (pe_bm PySem.F.plainAttrs_list PySem.F.slot_list_append PySem.F.type_list_append mt_append (pv 1) (pa_cons (by exact (pe_lamG (k := 12) (c_law_heard.mono (by decide)) rfl rfl tb rfl hm (hr.mono (by decide)) hgu (LamX.lamS_by (by show LamX.lamSB (defScope s_law_by_hand) _ = true; decide +kernel)) rfl (fun _ _ _ _ _ => rfl) (fun A outer s H E f c hr hgu tk => by have hu := u100 hr; simp_all_arith! [L_law_by_hand_6]; exact (by exact (pe_callG c_blocked_unit.F (hr.mono (by decide)) hgu rfl c_blocked_unit.g c_blocked_unit.k c_blocked_unit.b tk (pa_cons (pe_tup (pa_nil)) (pa_cons (pe_tup (pa_cons (pv 0) (pa_nil))) (pa_cons (pe_tup (pa_cons (pe_int) (pa_nil))) (pa_cons (pe_un un_neg (pe_int)) (pa_nil)))))))))) pa_nil)))) (by exact (pss_cons (by exact (ps_expr (pe_bm PySem.F.plainAttrs_list PySem.F.slot_list_append PySem.F.type_list_append mt_append (pv 1) (pa_cons (by exact (pe_lamG (k := 12) (c_law_heard.mono (by decide)) rfl rfl tb rfl hm (hr.mono (by decide)) hgu (LamX.lamS_by (by show LamX.lamSB (defScope s_law_by_hand) _ = true; decide +kernel)) rfl (fun _ _ _ _ _ => rfl) (fun A outer s H E f c hr hgu tk => by have hu := u100 hr; simp_all_arith! [L_law_by_hand_7]; exact (by exact (pe_callG c_blocked_unit.F (hr.mono (by decide)) hgu rfl c_blocked_unit.g c_blocked_unit.k c_blocked_unit.b tk (pa_cons (pe_tup (pa_cons (pe_int) (pa_nil))) (pa_cons (pe_non) (pa_cons (pe_non) (pa_cons (pe_non) (pa_nil)))))))))) pa_nil)))) (by exact (pss_cons (by exact (ps_expr (pe_bm PySem.F.plainAttrs_list PySem.F.slot_list_append PySem.F.type_list_append mt_append (pv 1) (pa_cons (by exact (pe_lamG (k := 12) (c_law_heard.mono (by decide)) rfl rfl tb rfl hm (hr.mono (by decide)) hgu (LamX.lamS_by (by show LamX.lamSB (defScope s_law_by_hand) _ = true; decide +kernel)) rfl (fun _ _ _ _ _ => rfl) (fun A outer s H E f c hr hgu tk => by have hu := u100 hr; simp_all_arith! [L_law_by_hand_8]; exact (by exact (pe_callG c_blocked_unit.F (hr.mono (by decide)) hgu rfl c_blocked_unit.g c_blocked_unit.k c_blocked_unit.b tk (pa_cons (pe_tup (pa_nil)) (pa_cons (pe_non) (pa_cons (pe_non) (pa_cons (pe_non) (pa_nil)))))))))) pa_nil)))) (by exact (pss_cons (by exact (ps_expr (pe_bm PySem.F.plainAttrs_list PySem.F.slot_list_append PySem.F.type_list_append mt_append (pv 1) (pa_cons (by exact (pe_lamG (k := 12) (c_law_heard.mono (by decide)) rfl rfl tb rfl hm (hr.mono (by decide)) hgu (LamX.lamS_by (by show LamX.lamSB (defScope s_law_by_hand) _ = true; decide +kernel)) rfl (fun _ _ _ _ _ => rfl) (fun A outer s H E f c hr hgu tk => by have hu := u100 hr; simp_all_arith! [L_law_by_hand_9]; exact (by exact (pe_callG c_blocked_unit.F (hr.mono (by decide)) hgu rfl c_blocked_unit.g c_blocked_unit.k c_blocked_unit.b tk (pa_cons (pe_tup (pa_nil)) (pa_cons (pe_tup (pa_cons (pe_int) (pa_nil))) (pa_cons (pe_tup (pa_cons (pe_int) (pa_cons (pe_int) (pa_nil)))) (pa_cons (pe_non) (pa_nil)))))))))) pa_nil)))) (by exact (pss_cons (by exact (ps_expr (pe_bm PySem.F.plainAttrs_list PySem.F.slot_list_append PySem.F.type_list_append mt_append (pv 1) (pa_cons (by exact (pe_lamG (k := 12) (c_law_heard.mono (by decide)) rfl rfl tb rfl hm (hr.mono (by decide)) hgu (LamX.lamS_by (by show LamX.lamSB (defScope s_law_by_hand) _ = true; decide +kernel)) rfl (fun _ _ _ _ _ => rfl) (fun A outer s H E f c hr hgu tk => by have hu := u100 hr; simp_all_arith! [L_law_by_hand_10]; exact (by exact (pe_callG c_blocked_unit.F (hr.mono (by decide)) hgu rfl c_blocked_unit.g c_blocked_unit.k c_blocked_unit.b tk (pa_cons (pe_tup (pa_nil)) (pa_cons (pe_tup (pa_cons (pe_int) (pa_nil))) (pa_cons (pe_tup (pa_cons (pe_int) (pa_nil))) (pa_cons (pe_op op_addX (pv 0) (pe_int)) (pa_nil)))))))))) pa_nil)))) (by exact (pss_cons (by exact (ps_asg (pe_lst (pa_cons (pe_tup (pa_cons (pe_str) (pa_cons (pe_int) (pa_nil)))) (pa_cons (pe_tup (pa_cons (pe_str) (pa_cons (pe_int) (pa_nil)))) (pa_cons (pe_tup (pa_cons (pe_str) (pa_cons (pe_int) (pa_nil)))) (pa_cons (pe_tup (pa_cons (pe_str) (pa_cons (pe_op op_sub (pe_op op_mulX (pv 0) (pe_int)) (pe_int)) (pa_cons (pe_bl) (pa_nil))))) (pa_cons (pe_tup (pa_cons (pe_str) (pa_cons (pe_bl) (pa_nil)))) (pa_cons (pe_tup (pa_cons (pe_str) (pa_cons (pe_int) (pa_nil)))) (pa_cons (pe_tup (pa_cons (pe_str) (pa_cons (pe_int) (pa_nil)))) (pa_nil))))))))) (pg_name (i := 2) sc.nd rfl (by first | exact Or.inl rfl | exact Or.inr rfl)))) (by exact (pss_cons (by exact (ps_asg (pe_op op_addX (pv 2) (pe_lst (pa_cons (pe_tup (pa_cons (pe_str) (pa_cons (pe_tup (pa_cons (pe_int) (pa_nil))) (pa_cons (pe_bl) (pa_nil))))) (pa_cons (pe_tup (pa_cons (pe_str) (pa_cons (pe_non) (pa_cons (pe_bl) (pa_nil))))) (pa_cons (pe_tup (pa_cons (pe_str) (pa_cons (pe_tup (pa_cons (pe_int) (pa_cons (pe_int) (pa_nil)))) (pa_cons (pe_bl) (pa_nil))))) (pa_cons (pe_tup (pa_cons (pe_str) (pa_cons (pe_op op_addX (pv 0) (pe_int)) (pa_cons (pe_bl) (pa_nil))))) (pa_nil))))))) (pg_name (i := 2) sc.nd rfl (by first | exact Or.inl rfl | exact Or.inr rfl)))) (by exact (pss_cons (by exact (ps_ret (pe_and (by exact (pe_callG c_law_like.F (hr.mono (by decide)) hgu rfl c_law_like.g c_law_like.k c_law_like.b tk (pa_cons (pv 1) (pa_cons (pv 2) (pa_nil))))) (pe_one (by exact (pe_callG c_law_like.F (hr.mono (by decide)) hgu rfl c_law_like.g c_law_like.k c_law_like.b tk (pa_cons (by exact (pe_callGK0 c_can_pay.F (hr.mono (by decide)) hgu rfl c_can_pay.g c_can_pay.k kb_can_pay tk (pk_cons (pe_tup (pa_cons (pe_int) (pa_nil))) (pk_cons (pe_tup (pa_cons (pe_int) (pa_cons (pe_int) (pa_nil)))) (pk_cons (pe_tup (pa_cons (pe_int) (pa_cons (pe_int) (pa_nil)))) (pk_cons (pe_int) (pk_nil))))))) (pa_cons (pe_bl) (pa_nil))))))))) (by exact (pss_nil))))))))))))))))))))))))))))))
abbrev s_law_begin : Stmt := top 25
theorem sc_law_begin : FnScope ["script", "cells_so", "cell"] ["script"] (defScope s_law_begin) := ⟨rfl, rfl, rfl, by decide +kernel, rfl, by decide +kernel, by decide +kernel⟩
theorem ok_law_begin {f : Addr} {fd : FuncData} (FF : Fun K "_law_begin" "_law_begin" s_law_begin f fd) (T : Txt P w K mg base ad) : FnG P w K mg base 6 f fd ["script"] (spB K) := def_own (k := 5) FF sc_law_begin (fun vs H Q E h => by obtain ⟨a, ns, F, rfl, _⟩ := h; rfl) fun cdv A outer s H vs Q E hr hgu h => ⟨t_begin K (fun cls d _ H => E cls d H), by
  have sc := sc_law_begin
  have hu := u100 hr
  have tk : Takes (cxOf (L2.CX P w) P w K mg base ["script", "cells_so", "cell"] "_law_begin" (defScope s_law_begin) f cdv A outer s H E) (fun cls d _ H => E cls d H) := takes_of rfl rfl rfl rfl
  dsimp only [t_begin]
  exact pss_cons (by dsimp only [S_beg1, Yx.SE.loan, Yx.SN.sortDK, Yx.SE.ixD, Yx.SE.inD, Yx.SE.ixOD, Yx.SE.inOD, Yx.SS.frzD, Yx.SS.newD, Yx.SX.consD0, Yx.SS.dputK, Yx.SI.dct, Yx.SA.cons, Yx.SA.nil, Yx.SA.star, Yx.SE.andV, Yx.SE.bin, Yx.SE.bl, Yx.SE.call, Yx.SE.callF, Yx.SE.chain, Yx.SE.con, Yx.SE.inDic, Yx.SE.inOwn, Yx.SE.int, Yx.SE.isi, Yx.SE.ite, Yx.SE.ixO, Yx.SE.non, Yx.SE.notV, Yx.SE.ofN, Yx.SE.orV, Yx.SE.ref, Yx.SE.rv, Yx.SE.seq, Yx.SE.sl, Yx.SE.stAt, Yx.SE.stCells, Yx.SE.stLeft, Yx.SE.str, Yx.SE.tup, Yx.SE.tupOf, Yx.SE.un, Yx.SE.var, Yx.SE.hole, Yx.SE.callV, Yx.SN.rep, Yx.SN.lrg1, Yx.SN.cat, Yx.SI.rngDn, Yx.SI.zip3G, Yx.SE.xis, Yx.SE.xval, Yx.SG.name, Yx.SG.tup, Yx.SGs.cons, Yx.SGs.nil, Yx.SI.enum, Yx.SI.enumL, Yx.SI.enumZ, Yx.SI.lst, Yx.SI.rev, Yx.SI.rng1, Yx.SI.rng2, Yx.SI.rvr1, Yx.SI.rvr2, Yx.SI.tup, Yx.SI.any, Yx.SE.rvl, Yx.SE.rvB, Yx.SI.zip, Yx.SI.zipG, Yx.SN.comp, Yx.SN.comp2, Yx.SN.lst, Yx.SN.seq, Yx.SO.none, Yx.SO.some, Yx.SQ.of, Yx.SQ.ofN, Yx.SQ.own, Yx.SS.append, Yx.SS.asg, Yx.SS.asgO, Yx.SS.brk, Yx.SS.cont, Yx.SS.dput, Yx.SS.expr, Yx.SS.for, Yx.SS.frz, Yx.SS.ite, Yx.SS.par2, Yx.SS.par3, Yx.SS.raise0, Yx.SS.raise1, Yx.SS.ret, Yx.SS.seq, Yx.SS.setix, Yx.SS.skip, Yx.SS.stAt, Yx.SS.stLeft, Yx.SS.while, Yx.ST.and, Yx.ST.not, Yx.ST.or, Yx.ST.tru, Yx.ST.tru1, Yx.ST.val, Yx.SX.cons, Yx.SX.consD, Yx.SX.consN, Yx.SX.nil, Yx.HA.t]; exact (ps_asg (pe_ifExp (pt_cmpR (op_neX (u64 hu)) (pv 0) (pe_lst (pa_nil)) (nomark _)) (pe_callTy call_list_of (by rfl) T.n_list boot_list (pa_cons (pv 0) pa_nil)) (pe_lst (pa_cons (pe_int) (pa_nil)))) (pg_name (i := 1) sc.nd rfl (by first | exact Or.inl rfl | exact Or.inr rfl)))) (by exact (pss_cons (by exact (ps_ret (pe_disp (pps_cons pe_str (pv 1) (pps_cons pe_str (by dsimp only [N_beg2, Yx.SE.loan, Yx.SN.sortDK, Yx.SE.ixD, Yx.SE.inD, Yx.SE.ixOD, Yx.SE.inOD, Yx.SS.frzD, Yx.SS.newD, Yx.SX.consD0, Yx.SS.dputK, Yx.SI.dct, Yx.SA.cons, Yx.SA.nil, Yx.SA.star, Yx.SE.andV, Yx.SE.bin, Yx.SE.bl, Yx.SE.call, Yx.SE.callF, Yx.SE.chain, Yx.SE.con, Yx.SE.inDic, Yx.SE.inOwn, Yx.SE.int, Yx.SE.isi, Yx.SE.ite, Yx.SE.ixO, Yx.SE.non, Yx.SE.notV, Yx.SE.ofN, Yx.SE.orV, Yx.SE.ref, Yx.SE.rv, Yx.SE.seq, Yx.SE.sl, Yx.SE.stAt, Yx.SE.stCells, Yx.SE.stLeft, Yx.SE.str, Yx.SE.tup, Yx.SE.tupOf, Yx.SE.un, Yx.SE.var, Yx.SE.hole, Yx.SE.callV, Yx.SN.rep, Yx.SN.lrg1, Yx.SN.cat, Yx.SI.rngDn, Yx.SI.zip3G, Yx.SE.xis, Yx.SE.xval, Yx.SG.name, Yx.SG.tup, Yx.SGs.cons, Yx.SGs.nil, Yx.SI.enum, Yx.SI.enumL, Yx.SI.enumZ, Yx.SI.lst, Yx.SI.rev, Yx.SI.rng1, Yx.SI.rng2, Yx.SI.rvr1, Yx.SI.rvr2, Yx.SI.tup, Yx.SI.any, Yx.SE.rvl, Yx.SE.rvB, Yx.SI.zip, Yx.SI.zipG, Yx.SN.comp, Yx.SN.comp2, Yx.SN.lst, Yx.SN.seq, Yx.SO.none, Yx.SO.some, Yx.SQ.of, Yx.SQ.ofN, Yx.SQ.own, Yx.SS.append, Yx.SS.asg, Yx.SS.asgO, Yx.SS.brk, Yx.SS.cont, Yx.SS.dput, Yx.SS.expr, Yx.SS.for, Yx.SS.frz, Yx.SS.ite, Yx.SS.par2, Yx.SS.par3, Yx.SS.raise0, Yx.SS.raise1, Yx.SS.ret, Yx.SS.seq, Yx.SS.setix, Yx.SS.skip, Yx.SS.stAt, Yx.SS.stLeft, Yx.SS.while, Yx.ST.and, Yx.ST.not, Yx.ST.or, Yx.ST.tru, Yx.ST.tru1, Yx.ST.val, Yx.SX.cons, Yx.SX.consD, Yx.SX.consN, Yx.SX.nil, Yx.HA.t]; exact (by exact (pe_lc (own := [("cell", 2)]) rfl sc.nd (pi_any (pv 1)) (by show BlkOk ["script", "cells_so", "cell"] (defScope s_law_begin) _ _; exact ⟨rfl, by decide +kernel, by decide +kernel, by decide +kernel, by decide +kernel⟩) (fun _ _ _ _ _ => by exact (pg_name (i := 2) sc.nd rfl (by first | exact Or.inl rfl | exact Or.inr rfl))) (fun _ _ _ _ _ => by exact (pts_nil)) (fun _ _ _ _ _ => by exact (pe_ifExp (pt_cmpR op_ge (pv 2) (pe_op op_pow (pe_int) (pe_int)) (nomark _)) (pv 2) (pe_int)))))) (pps_cons pe_str pe_int pps_nil))) (by rfl) (by rfl) (by simp) (by decide)))) (by exact pss_nil))), begin_rd h⟩
end
variable [Tb] [Cb]
abbrev s_law : Stmt := top 39
def S_lawpre (K : PySem.W.Frag) (ad : Ad) (Z : Zt K ad) : SS K := SS.skip
def S_lawrest (K : PySem.W.Frag) (ad : Ad) (Z : Zt K ad) : SS K := SS.seq (SS.for (SI.rng1 (SE.int 2)) (SG.name K 2) (SS.seq (SS.ite (ST.not (ST.val (SE.callF (m_law_right K ad Z) (SA.cons (SE.var 1) (SA.nil))))) (SS.seq (SS.ret (SE.bl false)) (SS.skip)) (SS.skip)) (SS.skip))) (SS.seq (SS.ret (SE.callF (m_law_by_hand K ad Z) SA.nil)) (SS.skip))
/-- WHAT IS TO BE SHOWN, in plain terms -/
def Goal (K : PySem.W.Frag) (ns : List Int) : Prop := ∀ (ad : Ad) (Z : Zt K ad), ad.Ok → LawF 3 1 (S_lawpre K ad Z) (S_lawrest K ad Z) ns
theorem sc_law : FnScope ["script", "state", "turn"] ["script"] (defScope s_law) := ⟨rfl, rfl, rfl, by decide +kernel, rfl, by decide +kernel, by decide +kernel⟩
theorem ok_law {P : Program} {w : World} {K : PySem.W.Frag} {mg : Str → Option Value} {base : Heap} {ad : Ad} {f f_b : Addr} {fd d_b : FuncData} {f_law_by_hand : Addr} {d_law_by_hand : FuncData} {f_law_right : Addr} {d_law_right : FuncData} (FF : Fun K "law" "law" s_law f fd) (T : Txt P w K mg base ad) (Z : Zt K ad) (hd : ad.Ok) (g_b : mg "_law_begin" = some (.ref f_b)) (k_b : PySem.W.keepIn K (.ref f_b) = true) (b_b : Binds K d_b ["script"] []) (F_b : FnG P w K mg base 6 f_b d_b ["script"] (spB K)) (c_law_by_hand : Cal P w K mg base 15 "_law_by_hand" f_law_by_hand d_law_by_hand [] (m_law_by_hand K ad Z)) (c_law_right : Cal P w K mg base 15 "_law_right" f_law_right d_law_right ["state"] (m_law_right K ad Z)) : FnG P w K mg base 16 f fd ["script"] (spL Goal K) := def_own (k := 15) FF sc_law (fun vs H Q E h => by obtain ⟨a, ns, F, rfl, _⟩ := h; rfl) fun cdv A outer s H vs Q E hr hgu h => ⟨t_law 1 (S_lawpre K ad Z) (S_lawrest K ad Z) (fun cls d _ H => E cls d H), by
  have sc := sc_law
  have hu := u100 hr
  have tk : Takes (cxOf (L2.CX P w) P w K mg base ["script", "state", "turn"] "law" (defScope s_law) f cdv A outer s H E) (fun cls d _ H => E cls d H) := takes_of rfl rfl rfl rfl
  dsimp only [t_law]
  refine pss_skip ?_
  refine pss_cons ?_ ?_
  · refine ps_asg ?_ (pg_name (i := 1) sc.nd rfl (by first | exact Or.inl rfl | exact Or.inr rfl))
    exact (pe_callG F_b (hr.mono (by decide)) hgu rfl g_b k_b b_b tk (pa_cons (pv 0) pa_nil))
  · dsimp only [S_lawrest, Yx.SE.loan, Yx.SN.sortDK, Yx.SE.ixD, Yx.SE.inD, Yx.SE.ixOD, Yx.SE.inOD, Yx.SS.frzD, Yx.SS.newD, Yx.SX.consD0, Yx.SS.dputK, Yx.SI.dct, Yx.SA.cons, Yx.SA.nil, Yx.SA.star, Yx.SE.andV, Yx.SE.bin, Yx.SE.bl, Yx.SE.call, Yx.SE.callF, Yx.SE.chain, Yx.SE.con, Yx.SE.inDic, Yx.SE.inOwn, Yx.SE.int, Yx.SE.isi, Yx.SE.ite, Yx.SE.ixO, Yx.SE.non, Yx.SE.notV, Yx.SE.ofN, Yx.SE.orV, Yx.SE.ref, Yx.SE.rv, Yx.SE.seq, Yx.SE.sl, Yx.SE.stAt, Yx.SE.stCells, Yx.SE.stLeft, Yx.SE.str, Yx.SE.tup, Yx.SE.tupOf, Yx.SE.un, Yx.SE.var, Yx.SE.hole, Yx.SE.callV, Yx.SN.rep, Yx.SN.lrg1, Yx.SN.cat, Yx.SI.rngDn, Yx.SI.zip3G, Yx.SE.xis, Yx.SE.xval, Yx.SG.name, Yx.SG.tup, Yx.SGs.cons, Yx.SGs.nil, Yx.SI.enum, Yx.SI.enumL, Yx.SI.enumZ, Yx.SI.lst, Yx.SI.rev, Yx.SI.rng1, Yx.SI.rng2, Yx.SI.rvr1, Yx.SI.rvr2, Yx.SI.tup, Yx.SI.any, Yx.SE.rvl, Yx.SE.rvB, Yx.SI.zip, Yx.SI.zipG, Yx.SN.comp, Yx.SN.comp2, Yx.SN.lst, Yx.SN.seq, Yx.SO.none, Yx.SO.some, Yx.SQ.of, Yx.SQ.ofN, Yx.SQ.own, Yx.SS.append, Yx.SS.asg, Yx.SS.asgO, Yx.SS.brk, Yx.SS.cont, Yx.SS.dput, Yx.SS.expr, Yx.SS.for, Yx.SS.frz, Yx.SS.ite, Yx.SS.par2, Yx.SS.par3, Yx.SS.raise0, Yx.SS.raise1, Yx.SS.ret, Yx.SS.seq, Yx.SS.setix, Yx.SS.skip, Yx.SS.stAt, Yx.SS.stLeft, Yx.SS.while, Yx.ST.and, Yx.ST.not, Yx.ST.or, Yx.ST.tru, Yx.ST.tru1, Yx.ST.val, Yx.SX.cons, Yx.SX.consD, Yx.SX.consN, Yx.SX.nil, Yx.HA.t]
    exact (pss_cons (by exact (ps_for (passes_of rfl) rfl (pi_range1 (by rfl) T.n_range (pa_cons (pe_int) pa_nil)) (pg_name (i := 2) sc.nd rfl (by first | exact Or.inl rfl | exact Or.inr rfl)) (pss_cons (by exact (ps_if (pt_not (pt_val (by exact (pe_callG c_law_right.F (hr.mono (by decide)) hgu rfl c_law_right.g c_law_right.k c_law_right.b tk (pa_cons (pv 1) (pa_nil)))))) (pss_cons (by exact (ps_ret (pe_bl))) (by exact (pss_nil))) (pss_nil))) (by exact (pss_nil))))) (by exact (pss_cons (by exact (ps_ret (by exact (pe_callG0 c_law_by_hand.F (hr.mono (by decide)) hgu rfl c_law_by_hand.g c_law_by_hand.k c_law_by_hand.b tk)))) (by exact (pss_nil))))), law_rd (by decide) (fun ns hc => hc ad Z hd) h⟩
def meth (s : Stmt) (i : Nat) : Stmt := match s with
  | .ClassDef _ _ _ body _ _ _ _ _ _ _ => body.getD i (.Pass ⟨0, 0, 0, 0⟩)
  | _ => .Pass ⟨0, 0, 0, 0⟩
abbrev i_BadUnits : Stmt := meth (top 2) 0
theorem sc_i_BadUnits : FnScope ["self", "value"] ["self", "value"] (defScope i_BadUnits) := ⟨rfl, rfl, rfl, by decide +kernel, rfl, by decide +kernel, by decide +kernel⟩
theorem ok_i_BadUnits {P : Program} {w : World} {K : PySem.W.Frag} {mg : Str → Option Value} {base : Heap} {C Y f : Addr} {fd : FuncData} (FF : Fun K "__init__" "BadUnits.__init__" i_BadUnits f fd) (TY : YTxt K Y) (gY : mg "YardError" = some (.ref Y)) (T : OexC K C) (no : PySem.W.findIn K (.ref C) "value" = some none) : FnOk P w K mg base CX0 2 f fd ["self", "value"] (spI1 C "value") := FF.ok (k := 1) sc_i_BadUnits (fun vs H Q E h => by obtain ⟨a, v, rfl, _⟩ := h; rfl) (fun cdv A outer s H vs Q E hr h => ⟨tI1 K "no units" "value", pss_cons (ps_expr (by exact (pe_yinit TY (by rfl) gY (pa_cons (pv 0) (pa_cons pe_str pa_nil))))) (pss_one (ps_ost (pv 0) (pv 1))), i1_rd T no h⟩)
abbrev i_BadRow : Stmt := meth (top 3) 0
theorem sc_i_BadRow : FnScope ["self", "value"] ["self", "value"] (defScope i_BadRow) := ⟨rfl, rfl, rfl, by decide +kernel, rfl, by decide +kernel, by decide +kernel⟩
theorem ok_i_BadRow {P : Program} {w : World} {K : PySem.W.Frag} {mg : Str → Option Value} {base : Heap} {C Y f : Addr} {fd : FuncData} (FF : Fun K "__init__" "BadRow.__init__" i_BadRow f fd) (TY : YTxt K Y) (gY : mg "YardError" = some (.ref Y)) (T : OexC K C) (no : PySem.W.findIn K (.ref C) "value" = some none) : FnOk P w K mg base CX0 2 f fd ["self", "value"] (spI1 C "value") := FF.ok (k := 1) sc_i_BadRow (fun vs H Q E h => by obtain ⟨a, v, rfl, _⟩ := h; rfl) (fun cdv A outer s H vs Q E hr h => ⟨tI1 K "no row of these units" "value", pss_cons (ps_expr (by exact (pe_yinit TY (by rfl) gY (pa_cons (pv 0) (pa_cons pe_str pa_nil))))) (pss_one (ps_ost (pv 0) (pv 1))), i1_rd T no h⟩)
abbrev i_BadParameter : Stmt := meth (top 4) 0
theorem sc_i_BadParameter : FnScope ["self", "value"] ["self", "value"] (defScope i_BadParameter) := ⟨rfl, rfl, rfl, by decide +kernel, rfl, by decide +kernel, by decide +kernel⟩
theorem ok_i_BadParameter {P : Program} {w : World} {K : PySem.W.Frag} {mg : Str → Option Value} {base : Heap} {C Y f : Addr} {fd : FuncData} (FF : Fun K "__init__" "BadParameter.__init__" i_BadParameter f fd) (TY : YTxt K Y) (gY : mg "YardError" = some (.ref Y)) (T : OexC K C) (no : PySem.W.findIn K (.ref C) "value" = some none) : FnOk P w K mg base CX0 2 f fd ["self", "value"] (spI1 C "value") := FF.ok (k := 1) sc_i_BadParameter (fun vs H Q E h => by obtain ⟨a, v, rfl, _⟩ := h; rfl) (fun cdv A outer s H vs Q E hr h => ⟨tI1 K "no such parameter" "value", pss_cons (ps_expr (by exact (pe_yinit TY (by rfl) gY (pa_cons (pv 0) (pa_cons pe_str pa_nil))))) (pss_one (ps_ost (pv 0) (pv 1))), i1_rd T no h⟩)
abbrev i_NoRow : Stmt := meth (top 5) 0
theorem sc_i_NoRow : FnScope ["self"] ["self"] (defScope i_NoRow) := ⟨rfl, rfl, rfl, by decide +kernel, rfl, by decide +kernel, by decide +kernel⟩
theorem ok_i_NoRow {P : Program} {w : World} {K : PySem.W.Frag} {mg : Str → Option Value} {base : Heap} {C Y f : Addr} {fd : FuncData} (FF : Fun K "__init__" "NoRow.__init__" i_NoRow f fd) (TY : YTxt K Y) (gY : mg "YardError" = some (.ref Y)) (T : OexC K C) : FnOk P w K mg base CX0 2 f fd ["self"] (spI0 C) := FF.ok (k := 1) sc_i_NoRow (fun vs H Q E h => by obtain ⟨a, rfl, _⟩ := h; rfl) (fun cdv A outer s H vs Q E hr h => ⟨tI0 K "there is none", pss_one (ps_expr (by exact (pe_yinit TY (by rfl) gY (pa_cons (pv 0) (pa_cons pe_str pa_nil))))), i0_rd T h⟩)
theorem zt_mk {K : PySem.W.Frag} {ad : Ad} (em_BadUnits_YardError : PySem.W.exmOne K (.ref ad.BadUnits) (.ref ad.YardError) = some true) (ki_BadUnits_YardError : PySem.W.kitOne K (.ref ad.BadUnits) (.ref ad.YardError) = some true) (em_BadUnits_BadUnits : PySem.W.exmOne K (.ref ad.BadUnits) (.ref ad.BadUnits) = some true) (ki_BadUnits_BadUnits : PySem.W.kitOne K (.ref ad.BadUnits) (.ref ad.BadUnits) = some true) (em_BadUnits_BadRow : PySem.W.exmOne K (.ref ad.BadUnits) (.ref ad.BadRow) = some false) (ki_BadUnits_BadRow : PySem.W.kitOne K (.ref ad.BadUnits) (.ref ad.BadRow) = some false) (em_BadUnits_BadParameter : PySem.W.exmOne K (.ref ad.BadUnits) (.ref ad.BadParameter) = some false) (ki_BadUnits_BadParameter : PySem.W.kitOne K (.ref ad.BadUnits) (.ref ad.BadParameter) = some false) (em_BadUnits_NoRow : PySem.W.exmOne K (.ref ad.BadUnits) (.ref ad.NoRow) = some false) (ki_BadUnits_NoRow : PySem.W.kitOne K (.ref ad.BadUnits) (.ref ad.NoRow) = some false) (em_BadRow_YardError : PySem.W.exmOne K (.ref ad.BadRow) (.ref ad.YardError) = some true) (ki_BadRow_YardError : PySem.W.kitOne K (.ref ad.BadRow) (.ref ad.YardError) = some true) (em_BadRow_BadUnits : PySem.W.exmOne K (.ref ad.BadRow) (.ref ad.BadUnits) = some false) (ki_BadRow_BadUnits : PySem.W.kitOne K (.ref ad.BadRow) (.ref ad.BadUnits) = some false) (em_BadRow_BadRow : PySem.W.exmOne K (.ref ad.BadRow) (.ref ad.BadRow) = some true) (ki_BadRow_BadRow : PySem.W.kitOne K (.ref ad.BadRow) (.ref ad.BadRow) = some true) (em_BadRow_BadParameter : PySem.W.exmOne K (.ref ad.BadRow) (.ref ad.BadParameter) = some false) (ki_BadRow_BadParameter : PySem.W.kitOne K (.ref ad.BadRow) (.ref ad.BadParameter) = some false) (em_BadRow_NoRow : PySem.W.exmOne K (.ref ad.BadRow) (.ref ad.NoRow) = some false) (ki_BadRow_NoRow : PySem.W.kitOne K (.ref ad.BadRow) (.ref ad.NoRow) = some false) (em_BadParameter_YardError : PySem.W.exmOne K (.ref ad.BadParameter) (.ref ad.YardError) = some true) (ki_BadParameter_YardError : PySem.W.kitOne K (.ref ad.BadParameter) (.ref ad.YardError) = some true) (em_BadParameter_BadUnits : PySem.W.exmOne K (.ref ad.BadParameter) (.ref ad.BadUnits) = some false) (ki_BadParameter_BadUnits : PySem.W.kitOne K (.ref ad.BadParameter) (.ref ad.BadUnits) = some false) (em_BadParameter_BadRow : PySem.W.exmOne K (.ref ad.BadParameter) (.ref ad.BadRow) = some false) (ki_BadParameter_BadRow : PySem.W.kitOne K (.ref ad.BadParameter) (.ref ad.BadRow) = some false) (em_BadParameter_BadParameter : PySem.W.exmOne K (.ref ad.BadParameter) (.ref ad.BadParameter) = some true) (ki_BadParameter_BadParameter : PySem.W.kitOne K (.ref ad.BadParameter) (.ref ad.BadParameter) = some true) (em_BadParameter_NoRow : PySem.W.exmOne K (.ref ad.BadParameter) (.ref ad.NoRow) = some false) (ki_BadParameter_NoRow : PySem.W.kitOne K (.ref ad.BadParameter) (.ref ad.NoRow) = some false) (em_NoRow_YardError : PySem.W.exmOne K (.ref ad.NoRow) (.ref ad.YardError) = some true) (ki_NoRow_YardError : PySem.W.kitOne K (.ref ad.NoRow) (.ref ad.YardError) = some true) (em_NoRow_BadUnits : PySem.W.exmOne K (.ref ad.NoRow) (.ref ad.BadUnits) = some false) (ki_NoRow_BadUnits : PySem.W.kitOne K (.ref ad.NoRow) (.ref ad.BadUnits) = some false) (em_NoRow_BadRow : PySem.W.exmOne K (.ref ad.NoRow) (.ref ad.BadRow) = some false) (ki_NoRow_BadRow : PySem.W.kitOne K (.ref ad.NoRow) (.ref ad.BadRow) = some false) (em_NoRow_BadParameter : PySem.W.exmOne K (.ref ad.NoRow) (.ref ad.BadParameter) = some false) (ki_NoRow_BadParameter : PySem.W.kitOne K (.ref ad.NoRow) (.ref ad.BadParameter) = some false) (em_NoRow_NoRow : PySem.W.exmOne K (.ref ad.NoRow) (.ref ad.NoRow) = some true) (ki_NoRow_NoRow : PySem.W.kitOne K (.ref ad.NoRow) (.ref ad.NoRow) = some true) (e_BadUnits : ExcC K ad.BadUnits) (e_BadRow : ExcC K ad.BadRow) (e_BadParameter : ExcC K ad.BadParameter) (e_NoRow : ExcC K ad.NoRow) : Zt K ad := by
  constructor
  · intro C c b hh
    unfold subT at hh
    by_cases h : C = ad.BadUnits
    · subst h; rw [if_pos rfl] at hh
      by_cases k : c = ad.YardError
      · subst k; rw [if_pos rfl] at hh; cases hh; exact em_BadUnits_YardError
      rw [if_neg k] at hh
      by_cases k : c = ad.BadUnits
      · subst k; rw [if_pos rfl] at hh; cases hh; exact em_BadUnits_BadUnits
      rw [if_neg k] at hh
      by_cases k : c = ad.BadRow
      · subst k; rw [if_pos rfl] at hh; cases hh; exact em_BadUnits_BadRow
      rw [if_neg k] at hh
      by_cases k : c = ad.BadParameter
      · subst k; rw [if_pos rfl] at hh; cases hh; exact em_BadUnits_BadParameter
      rw [if_neg k] at hh
      by_cases k : c = ad.NoRow
      · subst k; rw [if_pos rfl] at hh; cases hh; exact em_BadUnits_NoRow
      rw [if_neg k] at hh
      cases hh
    rw [if_neg h] at hh
    by_cases h : C = ad.BadRow
    · subst h; rw [if_pos rfl] at hh
      by_cases k : c = ad.YardError
      · subst k; rw [if_pos rfl] at hh; cases hh; exact em_BadRow_YardError
      rw [if_neg k] at hh
      by_cases k : c = ad.BadUnits
      · subst k; rw [if_pos rfl] at hh; cases hh; exact em_BadRow_BadUnits
      rw [if_neg k] at hh
      by_cases k : c = ad.BadRow
      · subst k; rw [if_pos rfl] at hh; cases hh; exact em_BadRow_BadRow
      rw [if_neg k] at hh
      by_cases k : c = ad.BadParameter
      · subst k; rw [if_pos rfl] at hh; cases hh; exact em_BadRow_BadParameter
      rw [if_neg k] at hh
      by_cases k : c = ad.NoRow
      · subst k; rw [if_pos rfl] at hh; cases hh; exact em_BadRow_NoRow
      rw [if_neg k] at hh
      cases hh
    rw [if_neg h] at hh
    by_cases h : C = ad.BadParameter
    · subst h; rw [if_pos rfl] at hh
      by_cases k : c = ad.YardError
      · subst k; rw [if_pos rfl] at hh; cases hh; exact em_BadParameter_YardError
      rw [if_neg k] at hh
      by_cases k : c = ad.BadUnits
      · subst k; rw [if_pos rfl] at hh; cases hh; exact em_BadParameter_BadUnits
      rw [if_neg k] at hh
      by_cases k : c = ad.BadRow
      · subst k; rw [if_pos rfl] at hh; cases hh; exact em_BadParameter_BadRow
      rw [if_neg k] at hh
      by_cases k : c = ad.BadParameter
      · subst k; rw [if_pos rfl] at hh; cases hh; exact em_BadParameter_BadParameter
      rw [if_neg k] at hh
      by_cases k : c = ad.NoRow
      · subst k; rw [if_pos rfl] at hh; cases hh; exact em_BadParameter_NoRow
      rw [if_neg k] at hh
      cases hh
    rw [if_neg h] at hh
    by_cases h : C = ad.NoRow
    · subst h; rw [if_pos rfl] at hh
      by_cases k : c = ad.YardError
      · subst k; rw [if_pos rfl] at hh; cases hh; exact em_NoRow_YardError
      rw [if_neg k] at hh
      by_cases k : c = ad.BadUnits
      · subst k; rw [if_pos rfl] at hh; cases hh; exact em_NoRow_BadUnits
      rw [if_neg k] at hh
      by_cases k : c = ad.BadRow
      · subst k; rw [if_pos rfl] at hh; cases hh; exact em_NoRow_BadRow
      rw [if_neg k] at hh
      by_cases k : c = ad.BadParameter
      · subst k; rw [if_pos rfl] at hh; cases hh; exact em_NoRow_BadParameter
      rw [if_neg k] at hh
      by_cases k : c = ad.NoRow
      · subst k; rw [if_pos rfl] at hh; cases hh; exact em_NoRow_NoRow
      rw [if_neg k] at hh
      cases hh
    rw [if_neg h] at hh
    cases hh
  · intro C c b hh
    unfold subT at hh
    by_cases h : C = ad.BadUnits
    · subst h; rw [if_pos rfl] at hh
      by_cases k : c = ad.YardError
      · subst k; rw [if_pos rfl] at hh; cases hh; exact ⟨e_BadUnits, ki_BadUnits_YardError⟩
      rw [if_neg k] at hh
      by_cases k : c = ad.BadUnits
      · subst k; rw [if_pos rfl] at hh; cases hh; exact ⟨e_BadUnits, ki_BadUnits_BadUnits⟩
      rw [if_neg k] at hh
      by_cases k : c = ad.BadRow
      · subst k; rw [if_pos rfl] at hh; cases hh; exact ⟨e_BadUnits, ki_BadUnits_BadRow⟩
      rw [if_neg k] at hh
      by_cases k : c = ad.BadParameter
      · subst k; rw [if_pos rfl] at hh; cases hh; exact ⟨e_BadUnits, ki_BadUnits_BadParameter⟩
      rw [if_neg k] at hh
      by_cases k : c = ad.NoRow
      · subst k; rw [if_pos rfl] at hh; cases hh; exact ⟨e_BadUnits, ki_BadUnits_NoRow⟩
      rw [if_neg k] at hh
      cases hh
    rw [if_neg h] at hh
    by_cases h : C = ad.BadRow
    · subst h; rw [if_pos rfl] at hh
      by_cases k : c = ad.YardError
      · subst k; rw [if_pos rfl] at hh; cases hh; exact ⟨e_BadRow, ki_BadRow_YardError⟩
      rw [if_neg k] at hh
      by_cases k : c = ad.BadUnits
      · subst k; rw [if_pos rfl] at hh; cases hh; exact ⟨e_BadRow, ki_BadRow_BadUnits⟩
      rw [if_neg k] at hh
      by_cases k : c = ad.BadRow
      · subst k; rw [if_pos rfl] at hh; cases hh; exact ⟨e_BadRow, ki_BadRow_BadRow⟩
      rw [if_neg k] at hh
      by_cases k : c = ad.BadParameter
      · subst k; rw [if_pos rfl] at hh; cases hh; exact ⟨e_BadRow, ki_BadRow_BadParameter⟩
      rw [if_neg k] at hh
      by_cases k : c = ad.NoRow
      · subst k; rw [if_pos rfl] at hh; cases hh; exact ⟨e_BadRow, ki_BadRow_NoRow⟩
      rw [if_neg k] at hh
      cases hh
    rw [if_neg h] at hh
    by_cases h : C = ad.BadParameter
    · subst h; rw [if_pos rfl] at hh
      by_cases k : c = ad.YardError
      · subst k; rw [if_pos rfl] at hh; cases hh; exact ⟨e_BadParameter, ki_BadParameter_YardError⟩
      rw [if_neg k] at hh
      by_cases k : c = ad.BadUnits
      · subst k; rw [if_pos rfl] at hh; cases hh; exact ⟨e_BadParameter, ki_BadParameter_BadUnits⟩
      rw [if_neg k] at hh
      by_cases k : c = ad.BadRow
      · subst k; rw [if_pos rfl] at hh; cases hh; exact ⟨e_BadParameter, ki_BadParameter_BadRow⟩
      rw [if_neg k] at hh
      by_cases k : c = ad.BadParameter
      · subst k; rw [if_pos rfl] at hh; cases hh; exact ⟨e_BadParameter, ki_BadParameter_BadParameter⟩
      rw [if_neg k] at hh
      by_cases k : c = ad.NoRow
      · subst k; rw [if_pos rfl] at hh; cases hh; exact ⟨e_BadParameter, ki_BadParameter_NoRow⟩
      rw [if_neg k] at hh
      cases hh
    rw [if_neg h] at hh
    by_cases h : C = ad.NoRow
    · subst h; rw [if_pos rfl] at hh
      by_cases k : c = ad.YardError
      · subst k; rw [if_pos rfl] at hh; cases hh; exact ⟨e_NoRow, ki_NoRow_YardError⟩
      rw [if_neg k] at hh
      by_cases k : c = ad.BadUnits
      · subst k; rw [if_pos rfl] at hh; cases hh; exact ⟨e_NoRow, ki_NoRow_BadUnits⟩
      rw [if_neg k] at hh
      by_cases k : c = ad.BadRow
      · subst k; rw [if_pos rfl] at hh; cases hh; exact ⟨e_NoRow, ki_NoRow_BadRow⟩
      rw [if_neg k] at hh
      by_cases k : c = ad.BadParameter
      · subst k; rw [if_pos rfl] at hh; cases hh; exact ⟨e_NoRow, ki_NoRow_BadParameter⟩
      rw [if_neg k] at hh
      by_cases k : c = ad.NoRow
      · subst k; rw [if_pos rfl] at hh; cases hh; exact ⟨e_NoRow, ki_NoRow_NoRow⟩
      rw [if_neg k] at hh
      cases hh
    rw [if_neg h] at hh
    cases hh
omit [Tb] [Cb] in
set_option maxHeartbeats 0 in
--omit [Tb] [Cb] in
theorem all_mk {P : Program} {w : World} {K : PySem.W.Frag} {h : Heap} {mg : Str → Option Value} {fa : Addr} (X : K.In h) (G : h.Ns mainGlobals mg) (hfa : mg "law" = some (.ref fa)) (M : ∀ (T : Tb) (C : Cb) (K : PySem.W.Frag) (ns : List Int), ns.length ≤ 63 → @Goal T C K ns)
    {ad_YardError : Addr}
    {ad_BadUnits N_BadUnits in_BadUnits : Addr} {nm_BadUnits q_BadUnits : Str} {bs_BadUnits : List Value} {sn_BadUnits : List Str} {sub_BadUnits : List Value} {ab_BadUnits : Bool} {col_BadUnits : Option Bool} {dd_BadUnits : Option Addr} {m0_BadUnits m1_BadUnits m2_BadUnits m3_BadUnits m5_BadUnits : Option Value} {od_iBadUnits an_iBadUnits : Option Addr} {sl_iBadUnits : Array (Option Value)} {oc_iBadUnits kV_iBadUnits dc_iBadUnits pm_iBadUnits cd_iBadUnits ct_iBadUnits : Value}
    {ad_BadRow N_BadRow in_BadRow : Addr} {nm_BadRow q_BadRow : Str} {bs_BadRow : List Value} {sn_BadRow : List Str} {sub_BadRow : List Value} {ab_BadRow : Bool} {col_BadRow : Option Bool} {dd_BadRow : Option Addr} {m0_BadRow m1_BadRow m2_BadRow m3_BadRow m5_BadRow : Option Value} {od_iBadRow an_iBadRow : Option Addr} {sl_iBadRow : Array (Option Value)} {oc_iBadRow kV_iBadRow dc_iBadRow pm_iBadRow cd_iBadRow ct_iBadRow : Value}
    {ad_BadParameter N_BadParameter in_BadParameter : Addr} {nm_BadParameter q_BadParameter : Str} {bs_BadParameter : List Value} {sn_BadParameter : List Str} {sub_BadParameter : List Value} {ab_BadParameter : Bool} {col_BadParameter : Option Bool} {dd_BadParameter : Option Addr} {m0_BadParameter m1_BadParameter m2_BadParameter m3_BadParameter m5_BadParameter : Option Value} {od_iBadParameter an_iBadParameter : Option Addr} {sl_iBadParameter : Array (Option Value)} {oc_iBadParameter kV_iBadParameter dc_iBadParameter pm_iBadParameter cd_iBadParameter ct_iBadParameter : Value}
    {ad_NoRow N_NoRow in_NoRow : Addr} {nm_NoRow q_NoRow : Str} {bs_NoRow : List Value} {sn_NoRow : List Str} {sub_NoRow : List Value} {ab_NoRow : Bool} {col_NoRow : Option Bool} {dd_NoRow : Option Addr} {m0_NoRow m1_NoRow m2_NoRow m3_NoRow m5_NoRow : Option Value} {od_iNoRow an_iNoRow : Option Addr} {sl_iNoRow : Array (Option Value)} {oc_iNoRow kV_iNoRow dc_iNoRow pm_iNoRow cd_iNoRow ct_iNoRow : Value}
    {q : Program} {cc_law_right pp_law_right : Addr} {ce_law_right : Value} {cdd_law_right : Option Addr} {cvs_law_right : Array Value} {csl_law_right : Array (Option Value)} {cc_law_by_hand pp_law_by_hand : Addr} {ce_law_by_hand : Value} {cdd_law_by_hand : Option Addr} {cvs_law_by_hand : Array Value} {csl_law_by_hand : Array (Option Value)}
    {f_is_from : Addr} {od_is_from an_is_from : Option Addr} {sl_is_from : Array (Option Value)} {oc_is_from kV_is_from dc_is_from pm_is_from cd_is_from ct_is_from : Value}
    {f_is_whole : Addr} {od_is_whole an_is_whole : Option Addr} {sl_is_whole : Array (Option Value)} {oc_is_whole kV_is_whole dc_is_whole pm_is_whole cd_is_whole ct_is_whole : Value}
    {f_is_tuple_of : Addr} {od_is_tuple_of an_is_tuple_of : Option Addr} {sl_is_tuple_of : Array (Option Value)} {oc_is_tuple_of kV_is_tuple_of dc_is_tuple_of pm_is_tuple_of cd_is_tuple_of ct_is_tuple_of : Value}
    {f_is_numbers : Addr} {od_is_numbers an_is_numbers : Option Addr} {sl_is_numbers : Array (Option Value)} {oc_is_numbers kV_is_numbers dc_is_numbers pm_is_numbers cd_is_numbers ct_is_numbers : Value}
    {f_is_row : Addr} {od_is_row an_is_row : Option Addr} {sl_is_row : Array (Option Value)} {oc_is_row kV_is_row dc_is_row pm_is_row cd_is_row ct_is_row : Value}
    {f_need_units : Addr} {od_need_units an_need_units : Option Addr} {sl_need_units : Array (Option Value)} {oc_need_units kV_need_units dc_need_units pm_need_units cd_need_units ct_need_units : Value}
    {f_sizes : Addr} {od_sizes an_sizes : Option Addr} {sl_sizes : Array (Option Value)} {oc_sizes kV_sizes dc_sizes pm_sizes cd_sizes ct_sizes : Value}
    {f_need_row : Addr} {od_need_row an_need_row : Option Addr} {sl_need_row : Array (Option Value)} {oc_need_row kV_need_row dc_need_row pm_need_row cd_need_row ct_need_row : Value}
    {f_need_amount : Addr} {od_need_amount an_need_amount : Option Addr} {sl_need_amount : Array (Option Value)} {oc_need_amount kV_need_amount dc_need_amount pm_need_amount cd_need_amount ct_need_amount : Value}
    {f_totals_from : Addr} {od_totals_from an_totals_from : Option Addr} {sl_totals_from : Array (Option Value)} {oc_totals_from kV_totals_from dc_totals_from pm_totals_from cd_totals_from ct_totals_from : Value}
    {f_blocked : Addr} {od_blocked an_blocked : Option Addr} {sl_blocked : Array (Option Value)} {oc_blocked kV_blocked dc_blocked pm_blocked cd_blocked ct_blocked : Value}
    {f_can_pay : Addr} {od_can_pay an_can_pay : Option Addr} {sl_can_pay : Array (Option Value)} {oc_can_pay kV_can_pay dc_can_pay pm_can_pay cd_can_pay ct_can_pay : Value}
    {f_blocked_unit : Addr} {od_blocked_unit an_blocked_unit : Option Addr} {sl_blocked_unit : Array (Option Value)} {oc_blocked_unit kV_blocked_unit dc_blocked_unit pm_blocked_unit cd_blocked_unit ct_blocked_unit : Value}
    {f_law_mixed : Addr} {od_law_mixed an_law_mixed : Option Addr} {sl_law_mixed : Array (Option Value)} {oc_law_mixed kV_law_mixed dc_law_mixed pm_law_mixed cd_law_mixed ct_law_mixed : Value}
    {f_law_begin : Addr} {od_law_begin an_law_begin : Option Addr} {sl_law_begin : Array (Option Value)} {oc_law_begin kV_law_begin dc_law_begin pm_law_begin cd_law_begin ct_law_begin : Value}
    {f_law_draw : Addr} {od_law_draw an_law_draw : Option Addr} {sl_law_draw : Array (Option Value)} {oc_law_draw kV_law_draw dc_law_draw pm_law_draw cd_law_draw ct_law_draw : Value}
    {f_law_units : Addr} {od_law_units an_law_units : Option Addr} {sl_law_units : Array (Option Value)} {oc_law_units kV_law_units dc_law_units pm_law_units cd_law_units ct_law_units : Value}
    {f_law_sizes : Addr} {od_law_sizes an_law_sizes : Option Addr} {sl_law_sizes : Array (Option Value)} {oc_law_sizes kV_law_sizes dc_law_sizes pm_law_sizes cd_law_sizes ct_law_sizes : Value}
    {f_law_total : Addr} {od_law_total an_law_total : Option Addr} {sl_law_total : Array (Option Value)} {oc_law_total kV_law_total dc_law_total pm_law_total cd_law_total ct_law_total : Value}
    {f_law_parts : Addr} {od_law_parts an_law_parts : Option Addr} {sl_law_parts : Array (Option Value)} {oc_law_parts kV_law_parts dc_law_parts pm_law_parts cd_law_parts ct_law_parts : Value}
    {f_law_purse : Addr} {od_law_purse an_law_purse : Option Addr} {sl_law_purse : Array (Option Value)} {oc_law_purse kV_law_purse dc_law_purse pm_law_purse cd_law_purse ct_law_purse : Value}
    {f_law_sums : Addr} {od_law_sums an_law_sums : Option Addr} {sl_law_sums : Array (Option Value)} {oc_law_sums kV_law_sums dc_law_sums pm_law_sums cd_law_sums ct_law_sums : Value}
    {f_law_paid : Addr} {od_law_paid an_law_paid : Option Addr} {sl_law_paid : Array (Option Value)} {oc_law_paid kV_law_paid dc_law_paid pm_law_paid cd_law_paid ct_law_paid : Value}
    {f_law_heard : Addr} {od_law_heard an_law_heard : Option Addr} {sl_law_heard : Array (Option Value)} {oc_law_heard kV_law_heard dc_law_heard pm_law_heard cd_law_heard ct_law_heard : Value}
    {f_law_like : Addr} {od_law_like an_law_like : Option Addr} {sl_law_like : Array (Option Value)} {oc_law_like kV_law_like dc_law_like pm_law_like cd_law_like ct_law_like : Value}
    {f_law_rests : Addr} {od_law_rests an_law_rests : Option Addr} {sl_law_rests : Array (Option Value)} {oc_law_rests kV_law_rests dc_law_rests pm_law_rests cd_law_rests ct_law_rests : Value}
    {f_law_right : Addr} {od_law_right an_law_right : Option Addr} {sl_law_right : Array (Option Value)} {oc_law_right kV_law_right dc_law_right pm_law_right ct_law_right : Value}
    {f_law_by_hand : Addr} {od_law_by_hand an_law_by_hand : Option Addr} {sl_law_by_hand : Array (Option Value)} {oc_law_by_hand kV_law_by_hand dc_law_by_hand pm_law_by_hand ct_law_by_hand : Value}
    {f_law : Addr} {od_law an_law : Option Addr} {sl_law : Array (Option Value)} {oc_law kV_law dc_law pm_law cd_law ct_law : Value}
    (aY : PySem.W.nsIn K mainGlobals "YardError" = some (some (.ref ad_YardError)))
    (y1 : PySem.W.specialIn K (.ref ad_YardError) "__getattribute__" = some (some (.builtin "type.__getattribute__")))
    (y2 : PySem.W.typeIn K (.ref ad_YardError) = some (.type "type"))
    (y3 : PySem.W.readsIn K ad_YardError (.type "type") = true)
    (y4 : PySem.W.findCls K (.ref ad_YardError) (.type "type") "__init__" = some (.val (.builtin "ValueError.__init__")))
    (ex_YardError : PySem.W.subIn K (.ref ad_YardError) (.type "BaseException") = some true)
    (is_YardError : PySem.W.isClsIn K ad_YardError = true)
    (gcl : PySem.W.specialIn K (.builtin "object.__class__") "__get__" = some (some (.builtin "getset_descriptor.__get__")))
    (gtk : PySem.W.takesIn K (.builtin "object.__class__") = some true)
    (a_BadUnits : PySem.W.nsIn K mainGlobals "BadUnits" = some (some (.ref ad_BadUnits)))
    (x_BadUnits : K.lookup ad_BadUnits = some (excClassObj nm_BadUnits q_BadUnits ad_BadUnits N_BadUnits bs_BadUnits [.ref ad_YardError, .type "ValueError", .type "Exception", .type "BaseException", .type "object"] true sn_BadUnits sub_BadUnits ab_BadUnits col_BadUnits dd_BadUnits m0_BadUnits m1_BadUnits m2_BadUnits m3_BadUnits m5_BadUnits "ValueError.__new__"))
    (sa_BadUnits : PySem.W.findIn K (.ref ad_BadUnits) "__setattr__" = some (some (.builtin "object.__setattr__")))
    (ga_BadUnits : PySem.W.findIn K (.ref ad_BadUnits) "__getattribute__" = some (some (.builtin "BaseException.__getattribute__")))
    (gg_BadUnits : PySem.W.findIn K (.ref ad_BadUnits) "__getattr__" = some none)
    (ex_BadUnits : PySem.W.subIn K (.ref ad_BadUnits) (.type "BaseException") = some true)
    (ty_BadUnits : PySem.W.typeIn K (.ref ad_BadUnits) = some (.type "type"))
    (is_BadUnits : PySem.W.isClsIn K ad_BadUnits = true)
    (kc_BadUnits : PySem.W.keepIn K (.ref ad_BadUnits) = true)
    (hd_BadUnits : PySem.W.hasDictIn K ad_BadUnits = true)
    (cl_BadUnits : PySem.W.findIn K (.ref ad_BadUnits) "__class__" = some (some (.builtin "object.__class__")))
    (mo_BadUnits : PySem.W.mroIn K ad_BadUnits (.type "object") = some true)
    (no_BadUnits : PySem.W.findIn K (.ref ad_BadUnits) "value" = some none)
    (ini_BadUnits : PySem.W.findIn K (.ref ad_BadUnits) "__init__" = some (some (.ref in_BadUnits)))
    (ti_BadUnits : PySem.W.typeIn K (.ref in_BadUnits) = some (.type "function"))
    (l_iBadUnits : K.lookup in_BadUnits = some ⟨oc_iBadUnits, od_iBadUnits, .func (PySem.W.fnOf "__init__" "BadUnits.__init__" (defArgs i_BadUnits) (defBody i_BadUnits) (defScope i_BadUnits) .none kV_iBadUnits dc_iBadUnits pm_iBadUnits an_iBadUnits cd_iBadUnits ct_iBadUnits), sl_iBadUnits⟩)
    (c_iBadUnits : PySem.W.codeIn K cd_iBadUnits "BadUnits.__init__" = true)
    (k_iBadUnits : PySem.W.keepIn K (.ref in_BadUnits) = true)
    (a_BadRow : PySem.W.nsIn K mainGlobals "BadRow" = some (some (.ref ad_BadRow)))
    (x_BadRow : K.lookup ad_BadRow = some (excClassObj nm_BadRow q_BadRow ad_BadRow N_BadRow bs_BadRow [.ref ad_YardError, .type "ValueError", .type "Exception", .type "BaseException", .type "object"] true sn_BadRow sub_BadRow ab_BadRow col_BadRow dd_BadRow m0_BadRow m1_BadRow m2_BadRow m3_BadRow m5_BadRow "ValueError.__new__"))
    (sa_BadRow : PySem.W.findIn K (.ref ad_BadRow) "__setattr__" = some (some (.builtin "object.__setattr__")))
    (ga_BadRow : PySem.W.findIn K (.ref ad_BadRow) "__getattribute__" = some (some (.builtin "BaseException.__getattribute__")))
    (gg_BadRow : PySem.W.findIn K (.ref ad_BadRow) "__getattr__" = some none)
    (ex_BadRow : PySem.W.subIn K (.ref ad_BadRow) (.type "BaseException") = some true)
    (ty_BadRow : PySem.W.typeIn K (.ref ad_BadRow) = some (.type "type"))
    (is_BadRow : PySem.W.isClsIn K ad_BadRow = true)
    (kc_BadRow : PySem.W.keepIn K (.ref ad_BadRow) = true)
    (hd_BadRow : PySem.W.hasDictIn K ad_BadRow = true)
    (cl_BadRow : PySem.W.findIn K (.ref ad_BadRow) "__class__" = some (some (.builtin "object.__class__")))
    (mo_BadRow : PySem.W.mroIn K ad_BadRow (.type "object") = some true)
    (no_BadRow : PySem.W.findIn K (.ref ad_BadRow) "value" = some none)
    (ini_BadRow : PySem.W.findIn K (.ref ad_BadRow) "__init__" = some (some (.ref in_BadRow)))
    (ti_BadRow : PySem.W.typeIn K (.ref in_BadRow) = some (.type "function"))
    (l_iBadRow : K.lookup in_BadRow = some ⟨oc_iBadRow, od_iBadRow, .func (PySem.W.fnOf "__init__" "BadRow.__init__" (defArgs i_BadRow) (defBody i_BadRow) (defScope i_BadRow) .none kV_iBadRow dc_iBadRow pm_iBadRow an_iBadRow cd_iBadRow ct_iBadRow), sl_iBadRow⟩)
    (c_iBadRow : PySem.W.codeIn K cd_iBadRow "BadRow.__init__" = true)
    (k_iBadRow : PySem.W.keepIn K (.ref in_BadRow) = true)
    (a_BadParameter : PySem.W.nsIn K mainGlobals "BadParameter" = some (some (.ref ad_BadParameter)))
    (x_BadParameter : K.lookup ad_BadParameter = some (excClassObj nm_BadParameter q_BadParameter ad_BadParameter N_BadParameter bs_BadParameter [.ref ad_YardError, .type "ValueError", .type "Exception", .type "BaseException", .type "object"] true sn_BadParameter sub_BadParameter ab_BadParameter col_BadParameter dd_BadParameter m0_BadParameter m1_BadParameter m2_BadParameter m3_BadParameter m5_BadParameter "ValueError.__new__"))
    (sa_BadParameter : PySem.W.findIn K (.ref ad_BadParameter) "__setattr__" = some (some (.builtin "object.__setattr__")))
    (ga_BadParameter : PySem.W.findIn K (.ref ad_BadParameter) "__getattribute__" = some (some (.builtin "BaseException.__getattribute__")))
    (gg_BadParameter : PySem.W.findIn K (.ref ad_BadParameter) "__getattr__" = some none)
    (ex_BadParameter : PySem.W.subIn K (.ref ad_BadParameter) (.type "BaseException") = some true)
    (ty_BadParameter : PySem.W.typeIn K (.ref ad_BadParameter) = some (.type "type"))
    (is_BadParameter : PySem.W.isClsIn K ad_BadParameter = true)
    (kc_BadParameter : PySem.W.keepIn K (.ref ad_BadParameter) = true)
    (hd_BadParameter : PySem.W.hasDictIn K ad_BadParameter = true)
    (cl_BadParameter : PySem.W.findIn K (.ref ad_BadParameter) "__class__" = some (some (.builtin "object.__class__")))
    (mo_BadParameter : PySem.W.mroIn K ad_BadParameter (.type "object") = some true)
    (no_BadParameter : PySem.W.findIn K (.ref ad_BadParameter) "value" = some none)
    (ini_BadParameter : PySem.W.findIn K (.ref ad_BadParameter) "__init__" = some (some (.ref in_BadParameter)))
    (ti_BadParameter : PySem.W.typeIn K (.ref in_BadParameter) = some (.type "function"))
    (l_iBadParameter : K.lookup in_BadParameter = some ⟨oc_iBadParameter, od_iBadParameter, .func (PySem.W.fnOf "__init__" "BadParameter.__init__" (defArgs i_BadParameter) (defBody i_BadParameter) (defScope i_BadParameter) .none kV_iBadParameter dc_iBadParameter pm_iBadParameter an_iBadParameter cd_iBadParameter ct_iBadParameter), sl_iBadParameter⟩)
    (c_iBadParameter : PySem.W.codeIn K cd_iBadParameter "BadParameter.__init__" = true)
    (k_iBadParameter : PySem.W.keepIn K (.ref in_BadParameter) = true)
    (a_NoRow : PySem.W.nsIn K mainGlobals "NoRow" = some (some (.ref ad_NoRow)))
    (x_NoRow : K.lookup ad_NoRow = some (excClassObj nm_NoRow q_NoRow ad_NoRow N_NoRow bs_NoRow [.ref ad_YardError, .type "ValueError", .type "Exception", .type "BaseException", .type "object"] true sn_NoRow sub_NoRow ab_NoRow col_NoRow dd_NoRow m0_NoRow m1_NoRow m2_NoRow m3_NoRow m5_NoRow "ValueError.__new__"))
    (sa_NoRow : PySem.W.findIn K (.ref ad_NoRow) "__setattr__" = some (some (.builtin "object.__setattr__")))
    (ga_NoRow : PySem.W.findIn K (.ref ad_NoRow) "__getattribute__" = some (some (.builtin "BaseException.__getattribute__")))
    (gg_NoRow : PySem.W.findIn K (.ref ad_NoRow) "__getattr__" = some none)
    (ex_NoRow : PySem.W.subIn K (.ref ad_NoRow) (.type "BaseException") = some true)
    (ty_NoRow : PySem.W.typeIn K (.ref ad_NoRow) = some (.type "type"))
    (is_NoRow : PySem.W.isClsIn K ad_NoRow = true)
    (kc_NoRow : PySem.W.keepIn K (.ref ad_NoRow) = true)
    (hd_NoRow : PySem.W.hasDictIn K ad_NoRow = true)
    (cl_NoRow : PySem.W.findIn K (.ref ad_NoRow) "__class__" = some (some (.builtin "object.__class__")))
    (mo_NoRow : PySem.W.mroIn K ad_NoRow (.type "object") = some true)
    (ini_NoRow : PySem.W.findIn K (.ref ad_NoRow) "__init__" = some (some (.ref in_NoRow)))
    (ti_NoRow : PySem.W.typeIn K (.ref in_NoRow) = some (.type "function"))
    (l_iNoRow : K.lookup in_NoRow = some ⟨oc_iNoRow, od_iNoRow, .func (PySem.W.fnOf "__init__" "NoRow.__init__" (defArgs i_NoRow) (defBody i_NoRow) (defScope i_NoRow) .none kV_iNoRow dc_iNoRow pm_iNoRow an_iNoRow cd_iNoRow ct_iNoRow), sl_iNoRow⟩)
    (c_iNoRow : PySem.W.codeIn K cd_iNoRow "NoRow.__init__" = true)
    (k_iNoRow : PySem.W.keepIn K (.ref in_NoRow) = true)
    (su_BadUnits_YardError : PySem.W.subIn K (.ref ad_BadUnits) (.ref ad_YardError) = some true)
    (su_BadUnits_BadUnits : PySem.W.subIn K (.ref ad_BadUnits) (.ref ad_BadUnits) = some true)
    (su_BadUnits_BadRow : PySem.W.subIn K (.ref ad_BadUnits) (.ref ad_BadRow) = some false)
    (su_BadUnits_BadParameter : PySem.W.subIn K (.ref ad_BadUnits) (.ref ad_BadParameter) = some false)
    (su_BadUnits_NoRow : PySem.W.subIn K (.ref ad_BadUnits) (.ref ad_NoRow) = some false)
    (su_BadRow_YardError : PySem.W.subIn K (.ref ad_BadRow) (.ref ad_YardError) = some true)
    (su_BadRow_BadUnits : PySem.W.subIn K (.ref ad_BadRow) (.ref ad_BadUnits) = some false)
    (su_BadRow_BadRow : PySem.W.subIn K (.ref ad_BadRow) (.ref ad_BadRow) = some true)
    (su_BadRow_BadParameter : PySem.W.subIn K (.ref ad_BadRow) (.ref ad_BadParameter) = some false)
    (su_BadRow_NoRow : PySem.W.subIn K (.ref ad_BadRow) (.ref ad_NoRow) = some false)
    (su_BadParameter_YardError : PySem.W.subIn K (.ref ad_BadParameter) (.ref ad_YardError) = some true)
    (su_BadParameter_BadUnits : PySem.W.subIn K (.ref ad_BadParameter) (.ref ad_BadUnits) = some false)
    (su_BadParameter_BadRow : PySem.W.subIn K (.ref ad_BadParameter) (.ref ad_BadRow) = some false)
    (su_BadParameter_BadParameter : PySem.W.subIn K (.ref ad_BadParameter) (.ref ad_BadParameter) = some true)
    (su_BadParameter_NoRow : PySem.W.subIn K (.ref ad_BadParameter) (.ref ad_NoRow) = some false)
    (su_NoRow_YardError : PySem.W.subIn K (.ref ad_NoRow) (.ref ad_YardError) = some true)
    (su_NoRow_BadUnits : PySem.W.subIn K (.ref ad_NoRow) (.ref ad_BadUnits) = some false)
    (su_NoRow_BadRow : PySem.W.subIn K (.ref ad_NoRow) (.ref ad_BadRow) = some false)
    (su_NoRow_BadParameter : PySem.W.subIn K (.ref ad_NoRow) (.ref ad_BadParameter) = some false)
    (su_NoRow_NoRow : PySem.W.subIn K (.ref ad_NoRow) (.ref ad_NoRow) = some true)
    (a_is_from : PySem.W.nsIn K mainGlobals "is_from" = some (some (.ref f_is_from)))
    (l_is_from : K.lookup f_is_from = some ⟨oc_is_from, od_is_from, .func (PySem.W.fnOf "is_from" "is_from" (defArgs s_is_from) (defBody s_is_from) (defScope s_is_from) .none kV_is_from dc_is_from pm_is_from an_is_from cd_is_from ct_is_from), sl_is_from⟩)
    (c_is_from : PySem.W.codeIn K cd_is_from "is_from" = true)
    (k_is_from : PySem.W.keepIn K (.ref f_is_from) = true)
    (a_is_whole : PySem.W.nsIn K mainGlobals "is_whole" = some (some (.ref f_is_whole)))
    (l_is_whole : K.lookup f_is_whole = some ⟨oc_is_whole, od_is_whole, .func (PySem.W.fnOf "is_whole" "is_whole" (defArgs s_is_whole) (defBody s_is_whole) (defScope s_is_whole) .none kV_is_whole dc_is_whole pm_is_whole an_is_whole cd_is_whole ct_is_whole), sl_is_whole⟩)
    (c_is_whole : PySem.W.codeIn K cd_is_whole "is_whole" = true)
    (k_is_whole : PySem.W.keepIn K (.ref f_is_whole) = true)
    (a_is_tuple_of : PySem.W.nsIn K mainGlobals "is_tuple_of" = some (some (.ref f_is_tuple_of)))
    (l_is_tuple_of : K.lookup f_is_tuple_of = some ⟨oc_is_tuple_of, od_is_tuple_of, .func (PySem.W.fnOf "is_tuple_of" "is_tuple_of" (defArgs s_is_tuple_of) (defBody s_is_tuple_of) (defScope s_is_tuple_of) .none kV_is_tuple_of dc_is_tuple_of pm_is_tuple_of an_is_tuple_of cd_is_tuple_of ct_is_tuple_of), sl_is_tuple_of⟩)
    (c_is_tuple_of : PySem.W.codeIn K cd_is_tuple_of "is_tuple_of" = true)
    (k_is_tuple_of : PySem.W.keepIn K (.ref f_is_tuple_of) = true)
    (a_is_numbers : PySem.W.nsIn K mainGlobals "is_numbers" = some (some (.ref f_is_numbers)))
    (l_is_numbers : K.lookup f_is_numbers = some ⟨oc_is_numbers, od_is_numbers, .func (PySem.W.fnOf "is_numbers" "is_numbers" (defArgs s_is_numbers) (defBody s_is_numbers) (defScope s_is_numbers) .none kV_is_numbers dc_is_numbers pm_is_numbers an_is_numbers cd_is_numbers ct_is_numbers), sl_is_numbers⟩)
    (c_is_numbers : PySem.W.codeIn K cd_is_numbers "is_numbers" = true)
    (k_is_numbers : PySem.W.keepIn K (.ref f_is_numbers) = true)
    (a_is_row : PySem.W.nsIn K mainGlobals "is_row" = some (some (.ref f_is_row)))
    (l_is_row : K.lookup f_is_row = some ⟨oc_is_row, od_is_row, .func (PySem.W.fnOf "is_row" "is_row" (defArgs s_is_row) (defBody s_is_row) (defScope s_is_row) .none kV_is_row dc_is_row pm_is_row an_is_row cd_is_row ct_is_row), sl_is_row⟩)
    (c_is_row : PySem.W.codeIn K cd_is_row "is_row" = true)
    (k_is_row : PySem.W.keepIn K (.ref f_is_row) = true)
    (a_need_units : PySem.W.nsIn K mainGlobals "need_units" = some (some (.ref f_need_units)))
    (l_need_units : K.lookup f_need_units = some ⟨oc_need_units, od_need_units, .func (PySem.W.fnOf "need_units" "need_units" (defArgs s_need_units) (defBody s_need_units) (defScope s_need_units) .none kV_need_units dc_need_units pm_need_units an_need_units cd_need_units ct_need_units), sl_need_units⟩)
    (c_need_units : PySem.W.codeIn K cd_need_units "need_units" = true)
    (k_need_units : PySem.W.keepIn K (.ref f_need_units) = true)
    (a_sizes : PySem.W.nsIn K mainGlobals "sizes" = some (some (.ref f_sizes)))
    (l_sizes : K.lookup f_sizes = some ⟨oc_sizes, od_sizes, .func (PySem.W.fnOf "sizes" "sizes" (defArgs s_sizes) (defBody s_sizes) (defScope s_sizes) .none kV_sizes dc_sizes pm_sizes an_sizes cd_sizes ct_sizes), sl_sizes⟩)
    (c_sizes : PySem.W.codeIn K cd_sizes "sizes" = true)
    (k_sizes : PySem.W.keepIn K (.ref f_sizes) = true)
    (a_need_row : PySem.W.nsIn K mainGlobals "need_row" = some (some (.ref f_need_row)))
    (l_need_row : K.lookup f_need_row = some ⟨oc_need_row, od_need_row, .func (PySem.W.fnOf "need_row" "need_row" (defArgs s_need_row) (defBody s_need_row) (defScope s_need_row) .none kV_need_row dc_need_row pm_need_row an_need_row cd_need_row ct_need_row), sl_need_row⟩)
    (c_need_row : PySem.W.codeIn K cd_need_row "need_row" = true)
    (k_need_row : PySem.W.keepIn K (.ref f_need_row) = true)
    (a_need_amount : PySem.W.nsIn K mainGlobals "_need_amount" = some (some (.ref f_need_amount)))
    (l_need_amount : K.lookup f_need_amount = some ⟨oc_need_amount, od_need_amount, .func (PySem.W.fnOf "_need_amount" "_need_amount" (defArgs s_need_amount) (defBody s_need_amount) (defScope s_need_amount) .none kV_need_amount dc_need_amount pm_need_amount an_need_amount cd_need_amount ct_need_amount), sl_need_amount⟩)
    (c_need_amount : PySem.W.codeIn K cd_need_amount "_need_amount" = true)
    (k_need_amount : PySem.W.keepIn K (.ref f_need_amount) = true)
    (a_totals_from : PySem.W.nsIn K mainGlobals "_totals_from" = some (some (.ref f_totals_from)))
    (l_totals_from : K.lookup f_totals_from = some ⟨oc_totals_from, od_totals_from, .func (PySem.W.fnOf "_totals_from" "_totals_from" (defArgs s_totals_from) (defBody s_totals_from) (defScope s_totals_from) .none kV_totals_from dc_totals_from pm_totals_from an_totals_from cd_totals_from ct_totals_from), sl_totals_from⟩)
    (c_totals_from : PySem.W.codeIn K cd_totals_from "_totals_from" = true)
    (k_totals_from : PySem.W.keepIn K (.ref f_totals_from) = true)
    (a_blocked : PySem.W.nsIn K mainGlobals "_blocked" = some (some (.ref f_blocked)))
    (l_blocked : K.lookup f_blocked = some ⟨oc_blocked, od_blocked, .func (PySem.W.fnOf "_blocked" "_blocked" (defArgs s_blocked) (defBody s_blocked) (defScope s_blocked) .none kV_blocked dc_blocked pm_blocked an_blocked cd_blocked ct_blocked), sl_blocked⟩)
    (c_blocked : PySem.W.codeIn K cd_blocked "_blocked" = true)
    (k_blocked : PySem.W.keepIn K (.ref f_blocked) = true)
    (a_can_pay : PySem.W.nsIn K mainGlobals "can_pay" = some (some (.ref f_can_pay)))
    (l_can_pay : K.lookup f_can_pay = some ⟨oc_can_pay, od_can_pay, .func (PySem.W.fnOf "can_pay" "can_pay" (defArgs s_can_pay) (defBody s_can_pay) (defScope s_can_pay) .none kV_can_pay dc_can_pay pm_can_pay an_can_pay cd_can_pay ct_can_pay), sl_can_pay⟩)
    (c_can_pay : PySem.W.codeIn K cd_can_pay "can_pay" = true)
    (k_can_pay : PySem.W.keepIn K (.ref f_can_pay) = true)
    (a_blocked_unit : PySem.W.nsIn K mainGlobals "blocked_unit" = some (some (.ref f_blocked_unit)))
    (l_blocked_unit : K.lookup f_blocked_unit = some ⟨oc_blocked_unit, od_blocked_unit, .func (PySem.W.fnOf "blocked_unit" "blocked_unit" (defArgs s_blocked_unit) (defBody s_blocked_unit) (defScope s_blocked_unit) .none kV_blocked_unit dc_blocked_unit pm_blocked_unit an_blocked_unit cd_blocked_unit ct_blocked_unit), sl_blocked_unit⟩)
    (c_blocked_unit : PySem.W.codeIn K cd_blocked_unit "blocked_unit" = true)
    (k_blocked_unit : PySem.W.keepIn K (.ref f_blocked_unit) = true)
    (a_law_mixed : PySem.W.nsIn K mainGlobals "_law_mixed" = some (some (.ref f_law_mixed)))
    (l_law_mixed : K.lookup f_law_mixed = some ⟨oc_law_mixed, od_law_mixed, .func (PySem.W.fnOf "_law_mixed" "_law_mixed" (defArgs s_law_mixed) (defBody s_law_mixed) (defScope s_law_mixed) .none kV_law_mixed dc_law_mixed pm_law_mixed an_law_mixed cd_law_mixed ct_law_mixed), sl_law_mixed⟩)
    (c_law_mixed : PySem.W.codeIn K cd_law_mixed "_law_mixed" = true)
    (k_law_mixed : PySem.W.keepIn K (.ref f_law_mixed) = true)
    (a_law_begin : PySem.W.nsIn K mainGlobals "_law_begin" = some (some (.ref f_law_begin)))
    (l_law_begin : K.lookup f_law_begin = some ⟨oc_law_begin, od_law_begin, .func (PySem.W.fnOf "_law_begin" "_law_begin" (defArgs s_law_begin) (defBody s_law_begin) (defScope s_law_begin) .none kV_law_begin dc_law_begin pm_law_begin an_law_begin cd_law_begin ct_law_begin), sl_law_begin⟩)
    (c_law_begin : PySem.W.codeIn K cd_law_begin "_law_begin" = true)
    (k_law_begin : PySem.W.keepIn K (.ref f_law_begin) = true)
    (a_law_draw : PySem.W.nsIn K mainGlobals "_law_draw" = some (some (.ref f_law_draw)))
    (l_law_draw : K.lookup f_law_draw = some ⟨oc_law_draw, od_law_draw, .func (PySem.W.fnOf "_law_draw" "_law_draw" (defArgs s_law_draw) (defBody s_law_draw) (defScope s_law_draw) .none kV_law_draw dc_law_draw pm_law_draw an_law_draw cd_law_draw ct_law_draw), sl_law_draw⟩)
    (c_law_draw : PySem.W.codeIn K cd_law_draw "_law_draw" = true)
    (k_law_draw : PySem.W.keepIn K (.ref f_law_draw) = true)
    (a_law_units : PySem.W.nsIn K mainGlobals "_law_units" = some (some (.ref f_law_units)))
    (l_law_units : K.lookup f_law_units = some ⟨oc_law_units, od_law_units, .func (PySem.W.fnOf "_law_units" "_law_units" (defArgs s_law_units) (defBody s_law_units) (defScope s_law_units) .none kV_law_units dc_law_units pm_law_units an_law_units cd_law_units ct_law_units), sl_law_units⟩)
    (c_law_units : PySem.W.codeIn K cd_law_units "_law_units" = true)
    (k_law_units : PySem.W.keepIn K (.ref f_law_units) = true)
    (a_law_sizes : PySem.W.nsIn K mainGlobals "_law_sizes" = some (some (.ref f_law_sizes)))
    (l_law_sizes : K.lookup f_law_sizes = some ⟨oc_law_sizes, od_law_sizes, .func (PySem.W.fnOf "_law_sizes" "_law_sizes" (defArgs s_law_sizes) (defBody s_law_sizes) (defScope s_law_sizes) .none kV_law_sizes dc_law_sizes pm_law_sizes an_law_sizes cd_law_sizes ct_law_sizes), sl_law_sizes⟩)
    (c_law_sizes : PySem.W.codeIn K cd_law_sizes "_law_sizes" = true)
    (k_law_sizes : PySem.W.keepIn K (.ref f_law_sizes) = true)
    (a_law_total : PySem.W.nsIn K mainGlobals "_law_total" = some (some (.ref f_law_total)))
    (l_law_total : K.lookup f_law_total = some ⟨oc_law_total, od_law_total, .func (PySem.W.fnOf "_law_total" "_law_total" (defArgs s_law_total) (defBody s_law_total) (defScope s_law_total) .none kV_law_total dc_law_total pm_law_total an_law_total cd_law_total ct_law_total), sl_law_total⟩)
    (c_law_total : PySem.W.codeIn K cd_law_total "_law_total" = true)
    (k_law_total : PySem.W.keepIn K (.ref f_law_total) = true)
    (a_law_parts : PySem.W.nsIn K mainGlobals "_law_parts" = some (some (.ref f_law_parts)))
    (l_law_parts : K.lookup f_law_parts = some ⟨oc_law_parts, od_law_parts, .func (PySem.W.fnOf "_law_parts" "_law_parts" (defArgs s_law_parts) (defBody s_law_parts) (defScope s_law_parts) .none kV_law_parts dc_law_parts pm_law_parts an_law_parts cd_law_parts ct_law_parts), sl_law_parts⟩)
    (c_law_parts : PySem.W.codeIn K cd_law_parts "_law_parts" = true)
    (k_law_parts : PySem.W.keepIn K (.ref f_law_parts) = true)
    (a_law_purse : PySem.W.nsIn K mainGlobals "_law_purse" = some (some (.ref f_law_purse)))
    (l_law_purse : K.lookup f_law_purse = some ⟨oc_law_purse, od_law_purse, .func (PySem.W.fnOf "_law_purse" "_law_purse" (defArgs s_law_purse) (defBody s_law_purse) (defScope s_law_purse) .none kV_law_purse dc_law_purse pm_law_purse an_law_purse cd_law_purse ct_law_purse), sl_law_purse⟩)
    (c_law_purse : PySem.W.codeIn K cd_law_purse "_law_purse" = true)
    (k_law_purse : PySem.W.keepIn K (.ref f_law_purse) = true)
    (a_law_sums : PySem.W.nsIn K mainGlobals "_law_sums" = some (some (.ref f_law_sums)))
    (l_law_sums : K.lookup f_law_sums = some ⟨oc_law_sums, od_law_sums, .func (PySem.W.fnOf "_law_sums" "_law_sums" (defArgs s_law_sums) (defBody s_law_sums) (defScope s_law_sums) .none kV_law_sums dc_law_sums pm_law_sums an_law_sums cd_law_sums ct_law_sums), sl_law_sums⟩)
    (c_law_sums : PySem.W.codeIn K cd_law_sums "_law_sums" = true)
    (k_law_sums : PySem.W.keepIn K (.ref f_law_sums) = true)
    (a_law_paid : PySem.W.nsIn K mainGlobals "_law_paid" = some (some (.ref f_law_paid)))
    (l_law_paid : K.lookup f_law_paid = some ⟨oc_law_paid, od_law_paid, .func (PySem.W.fnOf "_law_paid" "_law_paid" (defArgs s_law_paid) (defBody s_law_paid) (defScope s_law_paid) .none kV_law_paid dc_law_paid pm_law_paid an_law_paid cd_law_paid ct_law_paid), sl_law_paid⟩)
    (c_law_paid : PySem.W.codeIn K cd_law_paid "_law_paid" = true)
    (k_law_paid : PySem.W.keepIn K (.ref f_law_paid) = true)
    (a_law_heard : PySem.W.nsIn K mainGlobals "_law_heard" = some (some (.ref f_law_heard)))
    (l_law_heard : K.lookup f_law_heard = some ⟨oc_law_heard, od_law_heard, .func (PySem.W.fnOf "_law_heard" "_law_heard" (defArgs s_law_heard) (defBody s_law_heard) (defScope s_law_heard) .none kV_law_heard dc_law_heard pm_law_heard an_law_heard cd_law_heard ct_law_heard), sl_law_heard⟩)
    (c_law_heard : PySem.W.codeIn K cd_law_heard "_law_heard" = true)
    (k_law_heard : PySem.W.keepIn K (.ref f_law_heard) = true)
    (a_law_like : PySem.W.nsIn K mainGlobals "_law_like" = some (some (.ref f_law_like)))
    (l_law_like : K.lookup f_law_like = some ⟨oc_law_like, od_law_like, .func (PySem.W.fnOf "_law_like" "_law_like" (defArgs s_law_like) (defBody s_law_like) (defScope s_law_like) .none kV_law_like dc_law_like pm_law_like an_law_like cd_law_like ct_law_like), sl_law_like⟩)
    (c_law_like : PySem.W.codeIn K cd_law_like "_law_like" = true)
    (k_law_like : PySem.W.keepIn K (.ref f_law_like) = true)
    (a_law_rests : PySem.W.nsIn K mainGlobals "_law_rests" = some (some (.ref f_law_rests)))
    (l_law_rests : K.lookup f_law_rests = some ⟨oc_law_rests, od_law_rests, .func (PySem.W.fnOf "_law_rests" "_law_rests" (defArgs s_law_rests) (defBody s_law_rests) (defScope s_law_rests) .none kV_law_rests dc_law_rests pm_law_rests an_law_rests cd_law_rests ct_law_rests), sl_law_rests⟩)
    (c_law_rests : PySem.W.codeIn K cd_law_rests "_law_rests" = true)
    (k_law_rests : PySem.W.keepIn K (.ref f_law_rests) = true)
    (a_law_right : PySem.W.nsIn K mainGlobals "_law_right" = some (some (.ref f_law_right)))
    (l_law_right : K.lookup f_law_right = some ⟨oc_law_right, od_law_right, .func (PySem.W.fnOf "_law_right" "_law_right" (defArgs s_law_right) (defBody s_law_right) (defScope s_law_right) .none kV_law_right dc_law_right pm_law_right an_law_right (.ref cc_law_right) ct_law_right), sl_law_right⟩)
    (c_law_right : PySem.W.codeIn K (.ref cc_law_right) "_law_right" = true)
    (k_law_right : PySem.W.keepIn K (.ref f_law_right) = true)
    (a_law_by_hand : PySem.W.nsIn K mainGlobals "_law_by_hand" = some (some (.ref f_law_by_hand)))
    (l_law_by_hand : K.lookup f_law_by_hand = some ⟨oc_law_by_hand, od_law_by_hand, .func (PySem.W.fnOf "_law_by_hand" "_law_by_hand" (defArgs s_law_by_hand) (defBody s_law_by_hand) (defScope s_law_by_hand) .none kV_law_by_hand dc_law_by_hand pm_law_by_hand an_law_by_hand (.ref cc_law_by_hand) ct_law_by_hand), sl_law_by_hand⟩)
    (c_law_by_hand : PySem.W.codeIn K (.ref cc_law_by_hand) "_law_by_hand" = true)
    (k_law_by_hand : PySem.W.keepIn K (.ref f_law_by_hand) = true)
    (a_law : PySem.W.nsIn K mainGlobals "law" = some (some (.ref f_law)))
    (l_law : K.lookup f_law = some ⟨oc_law, od_law, .func (PySem.W.fnOf "law" "law" (defArgs s_law) (defBody s_law) (defScope s_law) .none kV_law dc_law pm_law an_law cd_law ct_law), sl_law⟩)
    (c_law : PySem.W.codeIn K cd_law "law" = true)
    (k_law : PySem.W.keepIn K (.ref f_law) = true)
    (kc2_law_right : K.lookup cc_law_right = some ⟨ce_law_right, cdd_law_right, .fields cvs_law_right, csl_law_right⟩)
    (v_law_right : cvs_law_right[11]? = some (.ref pp_law_right))
    (kn_law_right : K.lookup pp_law_right = none)
    (rc_law_right : ∃ dr, (recsOf q).find? (fun e => e.name == ("_law_right" : Str)) = some dr)
    (kc2_law_by_hand : K.lookup cc_law_by_hand = some ⟨ce_law_by_hand, cdd_law_by_hand, .fields cvs_law_by_hand, csl_law_by_hand⟩)
    (v_law_by_hand : cvs_law_by_hand[11]? = some (.ref pp_law_by_hand))
    (kn_law_by_hand : K.lookup pp_law_by_hand = none)
    (rc_law_by_hand : ∃ dr, (recsOf q).find? (fun e => e.name == ("_law_by_hand" : Str)) = some dr)
    (tp : [pp_law_right, pp_law_by_hand].Nodup)
    (z_all : PySem.W.nsIn K mainGlobals "all" = some none)
    (z_bool : PySem.W.nsIn K mainGlobals "bool" = some none)
    (z_int : PySem.W.nsIn K mainGlobals "int" = some none)
    (z_isinstance : PySem.W.nsIn K mainGlobals "isinstance" = some none)
    (z_len : PySem.W.nsIn K mainGlobals "len" = some none)
    (z_list : PySem.W.nsIn K mainGlobals "list" = some none)
    (z_range : PySem.W.nsIn K mainGlobals "range" = some none)
    (z_repr : PySem.W.nsIn K mainGlobals "repr" = some none)
    (z_reversed : PySem.W.nsIn K mainGlobals "reversed" = some none)
    (z_sum : PySem.W.nsIn K mainGlobals "sum" = some none)
    (z_tuple : PySem.W.nsIn K mainGlobals "tuple" = some none)
    (z_zip : PySem.W.nsIn K mainGlobals "zip" = some none)
    (ap : [ad_YardError, ad_BadUnits, ad_BadRow, ad_BadParameter, ad_NoRow].Nodup) :
    ∃ (T : Tb) (cs : List (Str × Addr × Addr)) (fd : FuncData) (sp : Sp), @tba T = cs.map (·.2.2) ∧ (∀ p ∈ cs, PySem.W.tabIn K p.1 = some p.2 ∧ List.lookup p.2.2 K = none ∧ ∃ dr, (recsOf q).find? (fun e => e.name == p.1) = some dr) ∧ (∀ (s : Shared) (u : Value), BindsTo s fd ⟨[u], []⟩ [("script", u)]) ∧ (∀ (F H : Hp) (a : Addr) (ns : List Int), ns.length ≤ 63 → Ex F H → @TbOk T F H → SqL K F a (ns.map V.int) → sp [.ref a] H (fun v _ => v = .bl true) fun _ _ _ => False) ∧ ∀ base : Heap, K.In base → base.Ns mainGlobals mg → (∀ p ∈ cs, LamX.TabB base mg p.2.1 p.2.2) → FnG P w K mg base 16 fa fd ["script"] sp := by
  have e := hfa.symm.trans (PySem.W.mg_of X G a_law)
  cases e
  have TY : YTxt K ad_YardError := ⟨y1, y2, y3, y4⟩
  have o_BadUnits : OexC K ad_BadUnits := ⟨⟨_, _, _, _, _, _, _, _, _, _, _, _, _, _, _, x_BadUnits, rfl⟩, sa_BadUnits, ex_BadUnits, ty_BadUnits, kc_BadUnits⟩
  have e_BadUnits : ExcC K ad_BadUnits := ⟨ga_BadUnits, gg_BadUnits, ex_BadUnits, hd_BadUnits, cl_BadUnits, gcl, gtk, mo_BadUnits⟩
  have F_iBadUnits := fun_mk (st := i_BadUnits) l_iBadUnits c_iBadUnits k_iBadUnits
  have o_BadRow : OexC K ad_BadRow := ⟨⟨_, _, _, _, _, _, _, _, _, _, _, _, _, _, _, x_BadRow, rfl⟩, sa_BadRow, ex_BadRow, ty_BadRow, kc_BadRow⟩
  have e_BadRow : ExcC K ad_BadRow := ⟨ga_BadRow, gg_BadRow, ex_BadRow, hd_BadRow, cl_BadRow, gcl, gtk, mo_BadRow⟩
  have F_iBadRow := fun_mk (st := i_BadRow) l_iBadRow c_iBadRow k_iBadRow
  have o_BadParameter : OexC K ad_BadParameter := ⟨⟨_, _, _, _, _, _, _, _, _, _, _, _, _, _, _, x_BadParameter, rfl⟩, sa_BadParameter, ex_BadParameter, ty_BadParameter, kc_BadParameter⟩
  have e_BadParameter : ExcC K ad_BadParameter := ⟨ga_BadParameter, gg_BadParameter, ex_BadParameter, hd_BadParameter, cl_BadParameter, gcl, gtk, mo_BadParameter⟩
  have F_iBadParameter := fun_mk (st := i_BadParameter) l_iBadParameter c_iBadParameter k_iBadParameter
  have o_NoRow : OexC K ad_NoRow := ⟨⟨_, _, _, _, _, _, _, _, _, _, _, _, _, _, _, x_NoRow, rfl⟩, sa_NoRow, ex_NoRow, ty_NoRow, kc_NoRow⟩
  have e_NoRow : ExcC K ad_NoRow := ⟨ga_NoRow, gg_NoRow, ex_NoRow, hd_NoRow, cl_NoRow, gcl, gtk, mo_NoRow⟩
  have F_iNoRow := fun_mk (st := i_NoRow) l_iNoRow c_iNoRow k_iNoRow
  letI T0 : Tb := ⟨[(pp_law_right, lamQ "_law_right" (defScope s_law_right)), (pp_law_by_hand, lamQ "_law_by_hand" (defScope s_law_by_hand))], tb_one (by first | exact tp | simp)⟩
  letI C0 : Cb := ⟨0, 0, "", fun _ => none, 0⟩
  let ad : Ad := ⟨ad_YardError, ad_BadUnits, ad_BadRow, ad_BadParameter, ad_NoRow⟩
  have em_BadUnits_YardError := em_of ex_YardError is_YardError y2 su_BadUnits_YardError
  have ki_BadUnits_YardError := ki_of is_YardError y2 su_BadUnits_YardError (fun _ => rfl)
  have em_BadUnits_BadUnits := em_of ex_BadUnits is_BadUnits ty_BadUnits su_BadUnits_BadUnits
  have ki_BadUnits_BadUnits := ki_of is_BadUnits ty_BadUnits su_BadUnits_BadUnits (fun _ => rfl)
  have em_BadUnits_BadRow := em_of ex_BadRow is_BadRow ty_BadRow su_BadUnits_BadRow
  have ki_BadUnits_BadRow := ki_of is_BadRow ty_BadRow su_BadUnits_BadRow (fun z => by rw [z] at ap; simp at ap)
  have em_BadUnits_BadParameter := em_of ex_BadParameter is_BadParameter ty_BadParameter su_BadUnits_BadParameter
  have ki_BadUnits_BadParameter := ki_of is_BadParameter ty_BadParameter su_BadUnits_BadParameter (fun z => by rw [z] at ap; simp at ap)
  have em_BadUnits_NoRow := em_of ex_NoRow is_NoRow ty_NoRow su_BadUnits_NoRow
  have ki_BadUnits_NoRow := ki_of is_NoRow ty_NoRow su_BadUnits_NoRow (fun z => by rw [z] at ap; simp at ap)
  have em_BadRow_YardError := em_of ex_YardError is_YardError y2 su_BadRow_YardError
  have ki_BadRow_YardError := ki_of is_YardError y2 su_BadRow_YardError (fun _ => rfl)
  have em_BadRow_BadUnits := em_of ex_BadUnits is_BadUnits ty_BadUnits su_BadRow_BadUnits
  have ki_BadRow_BadUnits := ki_of is_BadUnits ty_BadUnits su_BadRow_BadUnits (fun z => by rw [z] at ap; simp at ap)
  have em_BadRow_BadRow := em_of ex_BadRow is_BadRow ty_BadRow su_BadRow_BadRow
  have ki_BadRow_BadRow := ki_of is_BadRow ty_BadRow su_BadRow_BadRow (fun _ => rfl)
  have em_BadRow_BadParameter := em_of ex_BadParameter is_BadParameter ty_BadParameter su_BadRow_BadParameter
  have ki_BadRow_BadParameter := ki_of is_BadParameter ty_BadParameter su_BadRow_BadParameter (fun z => by rw [z] at ap; simp at ap)
  have em_BadRow_NoRow := em_of ex_NoRow is_NoRow ty_NoRow su_BadRow_NoRow
  have ki_BadRow_NoRow := ki_of is_NoRow ty_NoRow su_BadRow_NoRow (fun z => by rw [z] at ap; simp at ap)
  have em_BadParameter_YardError := em_of ex_YardError is_YardError y2 su_BadParameter_YardError
  have ki_BadParameter_YardError := ki_of is_YardError y2 su_BadParameter_YardError (fun _ => rfl)
  have em_BadParameter_BadUnits := em_of ex_BadUnits is_BadUnits ty_BadUnits su_BadParameter_BadUnits
  have ki_BadParameter_BadUnits := ki_of is_BadUnits ty_BadUnits su_BadParameter_BadUnits (fun z => by rw [z] at ap; simp at ap)
  have em_BadParameter_BadRow := em_of ex_BadRow is_BadRow ty_BadRow su_BadParameter_BadRow
  have ki_BadParameter_BadRow := ki_of is_BadRow ty_BadRow su_BadParameter_BadRow (fun z => by rw [z] at ap; simp at ap)
  have em_BadParameter_BadParameter := em_of ex_BadParameter is_BadParameter ty_BadParameter su_BadParameter_BadParameter
  have ki_BadParameter_BadParameter := ki_of is_BadParameter ty_BadParameter su_BadParameter_BadParameter (fun _ => rfl)
  have em_BadParameter_NoRow := em_of ex_NoRow is_NoRow ty_NoRow su_BadParameter_NoRow
  have ki_BadParameter_NoRow := ki_of is_NoRow ty_NoRow su_BadParameter_NoRow (fun z => by rw [z] at ap; simp at ap)
  have em_NoRow_YardError := em_of ex_YardError is_YardError y2 su_NoRow_YardError
  have ki_NoRow_YardError := ki_of is_YardError y2 su_NoRow_YardError (fun _ => rfl)
  have em_NoRow_BadUnits := em_of ex_BadUnits is_BadUnits ty_BadUnits su_NoRow_BadUnits
  have ki_NoRow_BadUnits := ki_of is_BadUnits ty_BadUnits su_NoRow_BadUnits (fun z => by rw [z] at ap; simp at ap)
  have em_NoRow_BadRow := em_of ex_BadRow is_BadRow ty_BadRow su_NoRow_BadRow
  have ki_NoRow_BadRow := ki_of is_BadRow ty_BadRow su_NoRow_BadRow (fun z => by rw [z] at ap; simp at ap)
  have em_NoRow_BadParameter := em_of ex_BadParameter is_BadParameter ty_BadParameter su_NoRow_BadParameter
  have ki_NoRow_BadParameter := ki_of is_BadParameter ty_BadParameter su_NoRow_BadParameter (fun z => by rw [z] at ap; simp at ap)
  have em_NoRow_NoRow := em_of ex_NoRow is_NoRow ty_NoRow su_NoRow_NoRow
  have ki_NoRow_NoRow := ki_of is_NoRow ty_NoRow su_NoRow_NoRow (fun _ => rfl)
  have Z : Zt K ad := zt_mk em_BadUnits_YardError ki_BadUnits_YardError em_BadUnits_BadUnits ki_BadUnits_BadUnits em_BadUnits_BadRow ki_BadUnits_BadRow em_BadUnits_BadParameter ki_BadUnits_BadParameter em_BadUnits_NoRow ki_BadUnits_NoRow em_BadRow_YardError ki_BadRow_YardError em_BadRow_BadUnits ki_BadRow_BadUnits em_BadRow_BadRow ki_BadRow_BadRow em_BadRow_BadParameter ki_BadRow_BadParameter em_BadRow_NoRow ki_BadRow_NoRow em_BadParameter_YardError ki_BadParameter_YardError em_BadParameter_BadUnits ki_BadParameter_BadUnits em_BadParameter_BadRow ki_BadParameter_BadRow em_BadParameter_BadParameter ki_BadParameter_BadParameter em_BadParameter_NoRow ki_BadParameter_NoRow em_NoRow_YardError ki_NoRow_YardError em_NoRow_BadUnits ki_NoRow_BadUnits em_NoRow_BadRow ki_NoRow_BadRow em_NoRow_BadParameter ki_NoRow_BadParameter em_NoRow_NoRow ki_NoRow_NoRow e_BadUnits e_BadRow e_BadParameter e_NoRow
  have F_is_from := fun_mk (st := s_is_from) l_is_from c_is_from k_is_from
  have b_is_from := F_is_from.binds (ps := ["value", "least"]) fun _ _ _ _ _ _ us hl => match us, hl with | [_, _], _ => rfl
  have F_is_whole := fun_mk (st := s_is_whole) l_is_whole c_is_whole k_is_whole
  have b_is_whole := F_is_whole.binds (ps := ["value", "least", "most"]) fun _ _ _ _ _ _ us hl => match us, hl with | [_, _, _], _ => rfl
  have F_is_tuple_of := fun_mk (st := s_is_tuple_of) l_is_tuple_of c_is_tuple_of k_is_tuple_of
  have b_is_tuple_of := F_is_tuple_of.binds (ps := ["value", "many"]) fun _ _ _ _ _ _ us hl => match us, hl with | [_, _], _ => rfl
  have F_is_numbers := fun_mk (st := s_is_numbers) l_is_numbers c_is_numbers k_is_numbers
  have b_is_numbers := F_is_numbers.binds (ps := ["units", "value", "least", "most"]) fun _ _ _ _ _ _ us hl => match us, hl with | [_, _, _, _], _ => rfl
  have F_is_row := fun_mk (st := s_is_row) l_is_row c_is_row k_is_row
  have b_is_row := F_is_row.binds (ps := ["units", "value"]) fun _ _ _ _ _ _ us hl => match us, hl with | [_, _], _ => rfl
  have F_need_units := fun_mk (st := s_need_units) l_need_units c_need_units k_need_units
  have b_need_units := F_need_units.binds (ps := ["value"]) fun _ _ _ _ _ _ us hl => match us, hl with | [_], _ => rfl
  have F_sizes := fun_mk (st := s_sizes) l_sizes c_sizes k_sizes
  have b_sizes := F_sizes.binds (ps := ["units"]) fun _ _ _ _ _ _ us hl => match us, hl with | [_], _ => rfl
  have F_need_row := fun_mk (st := s_need_row) l_need_row c_need_row k_need_row
  have b_need_row := F_need_row.binds (ps := ["units", "value"]) fun _ _ _ _ _ _ us hl => match us, hl with | [_, _], _ => rfl
  have F_need_amount := fun_mk (st := s_need_amount) l_need_amount c_need_amount k_need_amount
  have b_need_amount := F_need_amount.binds (ps := ["units", "one", "other", "amount"]) fun _ _ _ _ _ _ us hl => match us, hl with | [_, _, _, _], _ => rfl
  have F_totals_from := fun_mk (st := s_totals_from) l_totals_from c_totals_from k_totals_from
  have b_totals_from := F_totals_from.binds (ps := ["units", "row"]) fun _ _ _ _ _ _ us hl => match us, hl with | [_, _], _ => rfl
  have F_blocked := fun_mk (st := s_blocked) l_blocked c_blocked k_blocked
  have b_blocked := F_blocked.binds (ps := ["units", "one", "other", "amount"]) fun _ _ _ _ _ _ us hl => match us, hl with | [_, _, _, _], _ => rfl
  have F_can_pay := fun_mk (st := s_can_pay) l_can_pay c_can_pay k_can_pay
  have b_can_pay := F_can_pay.binds (ps := ["units", "one", "other", "amount"]) fun _ _ _ _ _ _ us hl => match us, hl with | [_, _, _, _], _ => rfl
  have F_blocked_unit := fun_mk (st := s_blocked_unit) l_blocked_unit c_blocked_unit k_blocked_unit
  have b_blocked_unit := F_blocked_unit.binds (ps := ["units", "one", "other", "amount"]) fun _ _ _ _ _ _ us hl => match us, hl with | [_, _, _, _], _ => rfl
  have F_law_mixed := fun_mk (st := s_law_mixed) l_law_mixed c_law_mixed k_law_mixed
  have b_law_mixed := F_law_mixed.binds (ps := ["cell", "k"]) fun _ _ _ _ _ _ us hl => match us, hl with | [_, _], _ => rfl
  have F_law_begin := fun_mk (st := s_law_begin) l_law_begin c_law_begin k_law_begin
  have b_law_begin := F_law_begin.binds (ps := ["script"]) fun _ _ _ _ _ _ us hl => match us, hl with | [_], _ => rfl
  have F_law_draw := fun_mk (st := s_law_draw) l_law_draw c_law_draw k_law_draw
  have b_law_draw := F_law_draw.binds (ps := ["state", "limit"]) fun _ _ _ _ _ _ us hl => match us, hl with | [_, _], _ => rfl
  have F_law_units := fun_mk (st := s_law_units) l_law_units c_law_units k_law_units
  have b_law_units := F_law_units.binds (ps := ["state"]) fun _ _ _ _ _ _ us hl => match us, hl with | [_], _ => rfl
  have F_law_sizes := fun_mk (st := s_law_sizes) l_law_sizes c_law_sizes k_law_sizes
  have b_law_sizes := F_law_sizes.binds (ps := ["units_so"]) fun _ _ _ _ _ _ us hl => match us, hl with | [_], _ => rfl
  have F_law_total := fun_mk (st := s_law_total) l_law_total c_law_total k_law_total
  have b_law_total := F_law_total.binds (ps := ["units_so", "row"]) fun _ _ _ _ _ _ us hl => match us, hl with | [_, _], _ => rfl
  have F_law_parts := fun_mk (st := s_law_parts) l_law_parts c_law_parts k_law_parts
  have b_law_parts := F_law_parts.binds (ps := ["row"]) fun _ _ _ _ _ _ us hl => match us, hl with | [_], _ => rfl
  have F_law_purse := fun_mk (st := s_law_purse) l_law_purse c_law_purse k_law_purse
  have b_law_purse := F_law_purse.binds (ps := ["state", "units_so"]) fun _ _ _ _ _ _ us hl => match us, hl with | [_, _], _ => rfl
  have F_law_sums := fun_mk (st := s_law_sums) l_law_sums c_law_sums k_law_sums
  have b_law_sums := F_law_sums.binds (ps := ["units_so", "row"]) fun _ _ _ _ _ _ us hl => match us, hl with | [_, _], _ => rfl
  have F_law_paid := fun_mk (st := s_law_paid) l_law_paid c_law_paid k_law_paid
  have b_law_paid := F_law_paid.binds (ps := ["units_so", "mine", "others"]) fun _ _ _ _ _ _ us hl => match us, hl with | [_, _, _], _ => rfl
  have F_law_heard := fun_mk (st := s_law_heard) l_law_heard c_law_heard k_law_heard
  have b_law_heard := F_law_heard.binds (ps := ["call"]) fun _ _ _ _ _ _ us hl => match us, hl with | [_], _ => rfl
  have F_law_like := fun_mk (st := s_law_like) l_law_like c_law_like k_law_like
  have b_law_like := F_law_like.binds (ps := ["got", "due"]) fun _ _ _ _ _ _ us hl => match us, hl with | [_, _], _ => rfl
  have F_law_rests := fun_mk (st := s_law_rests) l_law_rests c_law_rests k_law_rests
  have b_law_rests := F_law_rests.binds (ps := ["units_so", "mine", "others", "unit"]) fun _ _ _ _ _ _ us hl => match us, hl with | [_, _, _, _], _ => rfl
  have F_law_right := fun_mk (st := s_law_right) l_law_right c_law_right k_law_right
  have b_law_right := F_law_right.binds (ps := ["state"]) fun _ _ _ _ _ _ us hl => match us, hl with | [_], _ => rfl
  have F_law_by_hand := fun_mk (st := s_law_by_hand) l_law_by_hand c_law_by_hand k_law_by_hand
  have b_law_by_hand := F_law_by_hand.binds (ps := []) fun _ _ _ _ _ _ us hl => match us, hl with | [], _ => rfl
  have F_law := fun_mk (st := s_law) l_law c_law k_law
  have b_law := F_law.binds (ps := ["script"]) fun _ _ _ _ _ _ us hl => match us, hl with | [_], _ => rfl
  refine ⟨T0, [("_law_right", cc_law_right, pp_law_right), ("_law_by_hand", cc_law_by_hand, pp_law_by_hand)], PySem.W.fnOf "law" "law" (defArgs s_law) (defBody s_law) (defScope s_law) .none kV_law dc_law pm_law an_law cd_law ct_law, spL Goal K, rfl, ?_, fun s v => .of_eq rfl, fun F H a ns hl e t hS => ⟨a, ns, F, rfl, e, t, hS, hl, M T0 C0 K ns hl, fun _ => rfl⟩, fun base _ _ tbs => ?_⟩
  · intro p hp
    simp only [List.mem_cons, List.not_mem_nil, or_false] at hp
    rcases hp with rfl | rfl
    · exact ⟨tabIn_of a_law_right l_law_right rfl kc2_law_right v_law_right, kn_law_right, rc_law_right⟩
    · exact ⟨tabIn_of a_law_by_hand l_law_by_hand rfl kc2_law_by_hand v_law_by_hand, kn_law_by_hand, rc_law_by_hand⟩
  have hb_law_right := tbs ("_law_right", cc_law_right, pp_law_right) (by simp)
  have hb_law_by_hand := tbs ("_law_by_hand", cc_law_by_hand, pp_law_by_hand) (by simp)
  have hm_law_right : (pp_law_right, lamQ "_law_right" (defScope s_law_right)) ∈ Tb.tb := by show _ ∈ [(pp_law_right, lamQ "_law_right" (defScope s_law_right)), (pp_law_by_hand, lamQ "_law_by_hand" (defScope s_law_by_hand))]; simp only [List.mem_cons, true_or, or_true]
  have hm_law_by_hand : (pp_law_by_hand, lamQ "_law_by_hand" (defScope s_law_by_hand)) ∈ Tb.tb := by show _ ∈ [(pp_law_right, lamQ "_law_right" (defScope s_law_right)), (pp_law_by_hand, lamQ "_law_by_hand" (defScope s_law_by_hand))]; simp only [List.mem_cons, true_or, or_true]
  have T : Txt P w K mg base ad := {
    n_all := PySem.W.mg_none_of X G z_all
    n_bool := PySem.W.mg_none_of X G z_bool
    n_int := PySem.W.mg_none_of X G z_int
    n_isinstance := PySem.W.mg_none_of X G z_isinstance
    n_len := PySem.W.mg_none_of X G z_len
    n_list := PySem.W.mg_none_of X G z_list
    n_range := PySem.W.mg_none_of X G z_range
    n_repr := PySem.W.mg_none_of X G z_repr
    n_reversed := PySem.W.mg_none_of X G z_reversed
    n_sum := PySem.W.mg_none_of X G z_sum
    n_tuple := PySem.W.mg_none_of X G z_tuple
    n_zip := PySem.W.mg_none_of X G z_zip
    g_YardError := PySem.W.mg_of X G aY
    g_BadUnits := PySem.W.mg_of X G a_BadUnits
    g_BadRow := PySem.W.mg_of X G a_BadRow
    g_BadParameter := PySem.W.mg_of X G a_BadParameter
    g_NoRow := PySem.W.mg_of X G a_NoRow
    xf_BadUnits := ⟨ga_BadUnits, gg_BadUnits, ex_BadUnits, hd_BadUnits⟩
    xn_BadUnits := no_BadUnits
    x_BadUnits := ⟨o_BadUnits, PySem.W.mg_of X G a_BadUnits, _, _, ini_BadUnits, ti_BadUnits, ok_i_BadUnits F_iBadUnits TY (PySem.W.mg_of X G aY) o_BadUnits no_BadUnits, F_iBadUnits.binds (ps := ["self", "value"]) fun _ _ _ _ _ _ us hl => match us, hl with | [_, _], _ => rfl⟩
    xf_BadRow := ⟨ga_BadRow, gg_BadRow, ex_BadRow, hd_BadRow⟩
    xn_BadRow := no_BadRow
    x_BadRow := ⟨o_BadRow, PySem.W.mg_of X G a_BadRow, _, _, ini_BadRow, ti_BadRow, ok_i_BadRow F_iBadRow TY (PySem.W.mg_of X G aY) o_BadRow no_BadRow, F_iBadRow.binds (ps := ["self", "value"]) fun _ _ _ _ _ _ us hl => match us, hl with | [_, _], _ => rfl⟩
    xf_BadParameter := ⟨ga_BadParameter, gg_BadParameter, ex_BadParameter, hd_BadParameter⟩
    xn_BadParameter := no_BadParameter
    x_BadParameter := ⟨o_BadParameter, PySem.W.mg_of X G a_BadParameter, _, _, ini_BadParameter, ti_BadParameter, ok_i_BadParameter F_iBadParameter TY (PySem.W.mg_of X G aY) o_BadParameter no_BadParameter, F_iBadParameter.binds (ps := ["self", "value"]) fun _ _ _ _ _ _ us hl => match us, hl with | [_, _], _ => rfl⟩
    x_NoRow := ⟨o_NoRow, PySem.W.mg_of X G a_NoRow, _, _, ini_NoRow, ti_NoRow, ok_i_NoRow F_iNoRow TY (PySem.W.mg_of X G aY) o_NoRow, F_iNoRow.binds (ps := ["self"]) fun _ _ _ _ _ _ us hl => match us, hl with | [_], _ => rfl⟩
    }
  have G_is_from := ok_is_from (P := P) (w := w) (base := base) F_is_from T  
  have C_is_from : Cal P w K mg base 6 "is_from" f_is_from _ _ _ := ⟨PySem.W.mg_of X G a_is_from, k_is_from, b_is_from, G_is_from⟩
  have G_is_whole := ok_is_whole (P := P) (w := w) (base := base) F_is_whole T C_is_from 
  have C_is_whole : Cal P w K mg base 7 "is_whole" f_is_whole _ _ _ := ⟨PySem.W.mg_of X G a_is_whole, k_is_whole, b_is_whole, G_is_whole⟩
  have G_is_tuple_of := ok_is_tuple_of (P := P) (w := w) (base := base) F_is_tuple_of T  
  have C_is_tuple_of : Cal P w K mg base 6 "is_tuple_of" f_is_tuple_of _ _ _ := ⟨PySem.W.mg_of X G a_is_tuple_of, k_is_tuple_of, b_is_tuple_of, G_is_tuple_of⟩
  have G_is_numbers := ok_is_numbers (P := P) (w := w) (base := base) F_is_numbers T C_is_tuple_of C_is_whole 
  have C_is_numbers : Cal P w K mg base 8 "is_numbers" f_is_numbers _ _ _ := ⟨PySem.W.mg_of X G a_is_numbers, k_is_numbers, b_is_numbers, G_is_numbers⟩
  have G_is_row := ok_is_row (P := P) (w := w) (base := base) F_is_row T C_is_numbers 
  have C_is_row : Cal P w K mg base 9 "is_row" f_is_row _ _ _ := ⟨PySem.W.mg_of X G a_is_row, k_is_row, b_is_row, G_is_row⟩
  have G_need_units := ok_need_units (P := P) (w := w) (base := base) F_need_units T C_is_whole 
  have C_need_units : Cal P w K mg base 8 "need_units" f_need_units _ _ _ := ⟨PySem.W.mg_of X G a_need_units, k_need_units, b_need_units, G_need_units⟩
  have G_sizes := ok_sizes (P := P) (w := w) (base := base) F_sizes T C_need_units 
  have C_sizes : Cal P w K mg base 9 "sizes" f_sizes _ _ _ := ⟨PySem.W.mg_of X G a_sizes, k_sizes, b_sizes, G_sizes⟩
  have G_need_row := ok_need_row (P := P) (w := w) (base := base) F_need_row T C_is_row C_need_units 
  have C_need_row : Cal P w K mg base 10 "need_row" f_need_row _ _ _ := ⟨PySem.W.mg_of X G a_need_row, k_need_row, b_need_row, G_need_row⟩
  have G_need_amount := ok_need_amount (P := P) (w := w) (base := base) F_need_amount T C_is_whole C_need_row 
  have C_need_amount : Cal P w K mg base 11 "_need_amount" f_need_amount _ _ _ := ⟨PySem.W.mg_of X G a_need_amount, k_need_amount, b_need_amount, G_need_amount⟩
  have G_totals_from := ok_totals_from (P := P) (w := w) (base := base) F_totals_from T C_sizes 
  have C_totals_from : Cal P w K mg base 10 "_totals_from" f_totals_from _ _ _ := ⟨PySem.W.mg_of X G a_totals_from, k_totals_from, b_totals_from, G_totals_from⟩
  have G_blocked := ok_blocked (P := P) (w := w) (base := base) F_blocked T C_totals_from C_sizes 
  have C_blocked : Cal P w K mg base 11 "_blocked" f_blocked _ _ _ := ⟨PySem.W.mg_of X G a_blocked, k_blocked, b_blocked, G_blocked⟩
  have G_can_pay := ok_can_pay (P := P) (w := w) (base := base) F_can_pay T C_blocked C_need_amount 
  have C_can_pay : Cal P w K mg base 12 "can_pay" f_can_pay _ _ _ := ⟨PySem.W.mg_of X G a_can_pay, k_can_pay, b_can_pay, G_can_pay⟩
  have G_blocked_unit := ok_blocked_unit (P := P) (w := w) (base := base) F_blocked_unit T C_blocked C_need_amount 
  have C_blocked_unit : Cal P w K mg base 12 "blocked_unit" f_blocked_unit _ _ _ := ⟨PySem.W.mg_of X G a_blocked_unit, k_blocked_unit, b_blocked_unit, G_blocked_unit⟩
  have G_law_mixed := ok_law_mixed (P := P) (w := w) (base := base) F_law_mixed T  
  have C_law_mixed : Cal P w K mg base 6 "_law_mixed" f_law_mixed _ _ _ := ⟨PySem.W.mg_of X G a_law_mixed, k_law_mixed, b_law_mixed, G_law_mixed⟩
  have G_law_draw := ok_law_draw (P := P) (w := w) (base := base) F_law_draw T C_law_mixed 
  have C_law_draw : Cal P w K mg base 7 "_law_draw" f_law_draw _ _ _ := ⟨PySem.W.mg_of X G a_law_draw, k_law_draw, b_law_draw, G_law_draw⟩
  have G_law_units := ok_law_units (P := P) (w := w) (base := base) F_law_units T C_law_draw 
  have C_law_units : Cal P w K mg base 8 "_law_units" f_law_units _ _ _ := ⟨PySem.W.mg_of X G a_law_units, k_law_units, b_law_units, G_law_units⟩
  have G_law_sizes := ok_law_sizes (P := P) (w := w) (base := base) F_law_sizes T  
  have C_law_sizes : Cal P w K mg base 6 "_law_sizes" f_law_sizes _ _ _ := ⟨PySem.W.mg_of X G a_law_sizes, k_law_sizes, b_law_sizes, G_law_sizes⟩
  have G_law_total := ok_law_total (P := P) (w := w) (base := base) F_law_total T C_law_sizes 
  have C_law_total : Cal P w K mg base 7 "_law_total" f_law_total _ _ _ := ⟨PySem.W.mg_of X G a_law_total, k_law_total, b_law_total, G_law_total⟩
  have G_law_parts := ok_law_parts (P := P) (w := w) (base := base) F_law_parts T  
  have C_law_parts : Cal P w K mg base 6 "_law_parts" f_law_parts _ _ _ := ⟨PySem.W.mg_of X G a_law_parts, k_law_parts, b_law_parts, G_law_parts⟩
  have G_law_purse := ok_law_purse (P := P) (w := w) (base := base) F_law_purse T C_law_draw 
  have C_law_purse : Cal P w K mg base 8 "_law_purse" f_law_purse _ _ _ := ⟨PySem.W.mg_of X G a_law_purse, k_law_purse, b_law_purse, G_law_purse⟩
  have G_law_sums := ok_law_sums (P := P) (w := w) (base := base) F_law_sums T C_law_parts C_law_total 
  have C_law_sums : Cal P w K mg base 8 "_law_sums" f_law_sums _ _ _ := ⟨PySem.W.mg_of X G a_law_sums, k_law_sums, b_law_sums, G_law_sums⟩
  have G_law_paid := ok_law_paid (P := P) (w := w) (base := base) F_law_paid T C_law_sums 
  have C_law_paid : Cal P w K mg base 9 "_law_paid" f_law_paid _ _ _ := ⟨PySem.W.mg_of X G a_law_paid, k_law_paid, b_law_paid, G_law_paid⟩
  have C_law_heard := ok_law_heard (P := P) (w := w) (base := base) F_law_heard T Z (PySem.W.mg_of X G a_law_heard) k_law_heard b_law_heard
  have G_law_like := ok_law_like (P := P) (w := w) (base := base) F_law_like T  
  have C_law_like : Cal P w K mg base 6 "_law_like" f_law_like _ _ _ := ⟨PySem.W.mg_of X G a_law_like, k_law_like, b_law_like, G_law_like⟩
  have G_law_rests := ok_law_rests (P := P) (w := w) (base := base) F_law_rests T C_law_paid C_law_sizes 
  have C_law_rests : Cal P w K mg base 10 "_law_rests" f_law_rests _ _ _ := ⟨PySem.W.mg_of X G a_law_rests, k_law_rests, b_law_rests, G_law_rests⟩
  have G_law_right := ok_law_right (P := P) (w := w) (base := base) F_law_right T Z rfl hb_law_right hm_law_right C_law_heard C_law_like C_law_paid C_law_purse C_law_rests C_law_sizes C_law_total C_law_units C_blocked_unit 
  have C_law_right : Cal P w K mg base 15 "_law_right" f_law_right _ _ _ := ⟨PySem.W.mg_of X G a_law_right, k_law_right, b_law_right, G_law_right⟩
  have G_law_by_hand := ok_law_by_hand (P := P) (w := w) (base := base) F_law_by_hand T Z rfl hb_law_by_hand hm_law_by_hand C_law_heard C_law_like C_blocked_unit C_can_pay (fun s us hl => match us, hl with | [_, _, _, _], _ => .of_eq rfl)
  have C_law_by_hand : Cal P w K mg base 15 "_law_by_hand" f_law_by_hand _ _ _ := ⟨PySem.W.mg_of X G a_law_by_hand, k_law_by_hand, b_law_by_hand, G_law_by_hand⟩
  exact ok_law F_law T Z ap (PySem.W.mg_of X G a_law_begin) k_law_begin b_law_begin (ok_law_begin F_law_begin T) C_law_by_hand C_law_right
omit [Tb] [Cb] in
theorem walk {l : PySem.W.OpenLaw} {q : Program} {loose : List Str} {XP : (Str → Option Value) → Heap → Prop} {YP : World → Heap → Prop} {d : DefRec} {K : Params → PySem.W.Frag} (hn : l.most = some 63) (hdf : d.params.defaults = [])
    (hY : ∀ (w : World) (h : Heap), YP w h → (K w.params).In h)
    (F : ∀ (w : World) (mg : Str → Option Value) (fa : Addr) (h : Heap), (K w.params).In h → h.Ns mainGlobals mg → mg d.name = some (.ref fa) →
      ∃ (T : Tb) (cs : List (Str × Addr × Addr)) (fd : FuncData) (sp : Sp), @tba T = cs.map (·.2.2) ∧ (∀ p ∈ cs, PySem.W.tabIn (K w.params) p.1 = some p.2 ∧ List.lookup p.2.2 (K w.params) = none ∧ ∃ dr, (recsOf q).find? (fun e => e.name == p.1) = some dr) ∧ (∀ (s : Shared) (u : Value), BindsTo s fd ⟨[u], []⟩ [("script", u)]) ∧ (∀ (F H : Hp) (a : Addr) (ns : List Int), ns.length ≤ 63 → Ex F H → @TbOk T F H → SqL (K w.params) F a (ns.map V.int) → sp [.ref a] H (fun v _ => v = .bl true) fun _ _ _ => False) ∧ ∀ base : Heap, (K w.params).In base → base.Ns mainGlobals mg → (∀ p ∈ cs, LamX.TabB base mg p.2.1 p.2.2) → FnG l.prog w (K w.params) mg base 16 fa fd ["script"] sp) :
    PySem.W.WalkO q loose XP YP l.row.toRowW d [] (fun f vs => PySem.call f vs) :=
  walkG (n := 63) (k := 16) (x := "script") hn (by decide) hdf ⟨rfl, by decide, by decide⟩ hY F
end Y85

namespace Y85
open PySem PySem.Spec PyProof.Rows L2 RZ Yx Rm Hx
variable [Tb] [Cb]
theorem b_is_from {K : PySem.W.Frag} {ad : Ad} : m_is_from K ad = Hx.m_is_from K := rfl
theorem b_is_whole {K : PySem.W.Frag} {ad : Ad} : m_is_whole K ad = Hx.m_is_whole K := rfl
theorem b_is_tuple_of {K : PySem.W.Frag} {ad : Ad} : m_is_tuple_of K ad = Hx.m_is_tuple_of K := rfl
theorem b_is_numbers {K : PySem.W.Frag} {ad : Ad} : m_is_numbers K ad = Hx.m_is_numbers K := rfl
theorem b_is_row {K : PySem.W.Frag} {ad : Ad} : m_is_row K ad = Hx.m_is_row K := rfl
theorem b_need_units {K : PySem.W.Frag} {ad : Ad} : m_need_units K ad = Hx.m_need_units K ad.BadUnits := rfl
theorem b_sizes {K : PySem.W.Frag} {ad : Ad} : m_sizes K ad = Hx.m_sizes K ad.BadUnits := rfl
theorem b_need_row {K : PySem.W.Frag} {ad : Ad} : m_need_row K ad = Hx.m_need_row K ad.BadRow ad.BadUnits := rfl
theorem b_need_amount {K : PySem.W.Frag} {ad : Ad} : m_need_amount K ad = Hx.m_need_amount K ad.BadParameter ad.BadRow ad.BadUnits := rfl
theorem b_totals_from {K : PySem.W.Frag} {ad : Ad} : m_totals_from K ad = Hx.m_totals_from K ad.BadUnits := rfl
theorem b_blocked {K : PySem.W.Frag} {ad : Ad} : m_blocked K ad = Hx.m_blocked K ad.BadUnits := rfl
theorem b_can_pay {K : PySem.W.Frag} {ad : Ad} : m_can_pay K ad = Hx.m_can_pay K ad.BadParameter ad.BadRow ad.BadUnits := rfl
theorem b_blocked_unit {K : PySem.W.Frag} {ad : Ad} : m_blocked_unit K ad = Hx.m_blocked_unit K ad.BadParameter ad.BadRow ad.BadUnits ad.NoRow := rfl
theorem b_law_mixed {K : PySem.W.Frag} {ad : Ad} : m_law_mixed K ad = Hx.m_law_mixed K := rfl
theorem b_law_draw {K : PySem.W.Frag} {ad : Ad} : m_law_draw K ad = Hx.m_law_draw K := rfl
theorem b_law_units {K : PySem.W.Frag} {ad : Ad} : m_law_units K ad = Hx.m_law_units K := rfl
theorem b_law_sizes {K : PySem.W.Frag} {ad : Ad} : m_law_sizes K ad = Hx.m_law_sizes K := rfl
theorem b_law_total {K : PySem.W.Frag} {ad : Ad} : m_law_total K ad = Hx.m_law_total K := rfl
theorem b_law_parts {K : PySem.W.Frag} {ad : Ad} : m_law_parts K ad = Hx.m_law_parts K := rfl
theorem b_law_purse {K : PySem.W.Frag} {ad : Ad} : m_law_purse K ad = Hx.m_law_purse K := rfl
theorem b_law_sums {K : PySem.W.Frag} {ad : Ad} : m_law_sums K ad = Hx.m_law_sums K := rfl
theorem b_law_paid {K : PySem.W.Frag} {ad : Ad} : m_law_paid K ad = Hx.m_law_paid K := rfl
theorem b_law_like {K : PySem.W.Frag} {ad : Ad} : m_law_like K ad = Hx.m_law_like K := rfl
theorem b_law_rests {K : PySem.W.Frag} {ad : Ad} : m_law_rests K ad = Hx.m_law_rests K := rfl
theorem ne_YardError_BadUnits {ad : Ad} (h : ad.Ok) : ad.YardError ≠ ad.BadUnits := by intro e; unfold Ad.Ok at h; simp [e] at h
theorem ne_YardError_BadRow {ad : Ad} (h : ad.Ok) : ad.YardError ≠ ad.BadRow := by intro e; unfold Ad.Ok at h; simp [e] at h
theorem ne_YardError_BadParameter {ad : Ad} (h : ad.Ok) : ad.YardError ≠ ad.BadParameter := by intro e; unfold Ad.Ok at h; simp [e] at h
theorem ne_YardError_NoRow {ad : Ad} (h : ad.Ok) : ad.YardError ≠ ad.NoRow := by intro e; unfold Ad.Ok at h; simp [e] at h
theorem ne_BadUnits_BadRow {ad : Ad} (h : ad.Ok) : ad.BadUnits ≠ ad.BadRow := by intro e; unfold Ad.Ok at h; simp [e] at h
theorem ne_BadUnits_BadParameter {ad : Ad} (h : ad.Ok) : ad.BadUnits ≠ ad.BadParameter := by intro e; unfold Ad.Ok at h; simp [e] at h
theorem ne_BadUnits_NoRow {ad : Ad} (h : ad.Ok) : ad.BadUnits ≠ ad.NoRow := by intro e; unfold Ad.Ok at h; simp [e] at h
theorem ne_BadRow_BadParameter {ad : Ad} (h : ad.Ok) : ad.BadRow ≠ ad.BadParameter := by intro e; unfold Ad.Ok at h; simp [e] at h
theorem ne_BadRow_NoRow {ad : Ad} (h : ad.Ok) : ad.BadRow ≠ ad.NoRow := by intro e; unfold Ad.Ok at h; simp [e] at h
theorem ne_BadParameter_NoRow {ad : Ad} (h : ad.Ok) : ad.BadParameter ≠ ad.NoRow := by intro e; unfold Ad.Ok at h; simp [e] at h
theorem sub_BadUnits_YardError {ad : Ad} (h : ad.Ok) : subT ad ad.BadUnits ad.YardError = some true := by unfold subT; simp only [if_true, if_false, eq_self, if_neg, not_false_eq_true]
theorem sub_BadUnits_BadUnits {ad : Ad} (h : ad.Ok) : subT ad ad.BadUnits ad.BadUnits = some true := by unfold subT; simp only [if_true, if_false, eq_self, (ne_YardError_BadUnits h).symm, if_neg, not_false_eq_true]
theorem sub_BadUnits_BadRow {ad : Ad} (h : ad.Ok) : subT ad ad.BadUnits ad.BadRow = some false := by unfold subT; simp only [if_true, if_false, eq_self, (ne_YardError_BadRow h).symm, (ne_BadUnits_BadRow h).symm, if_neg, not_false_eq_true]
theorem sub_BadUnits_BadParameter {ad : Ad} (h : ad.Ok) : subT ad ad.BadUnits ad.BadParameter = some false := by unfold subT; simp only [if_true, if_false, eq_self, (ne_YardError_BadParameter h).symm, (ne_BadUnits_BadParameter h).symm, (ne_BadRow_BadParameter h).symm, if_neg, not_false_eq_true]
theorem sub_BadUnits_NoRow {ad : Ad} (h : ad.Ok) : subT ad ad.BadUnits ad.NoRow = some false := by unfold subT; simp only [if_true, if_false, eq_self, (ne_YardError_NoRow h).symm, (ne_BadUnits_NoRow h).symm, (ne_BadRow_NoRow h).symm, (ne_BadParameter_NoRow h).symm, if_neg, not_false_eq_true]
theorem sub_BadRow_YardError {ad : Ad} (h : ad.Ok) : subT ad ad.BadRow ad.YardError = some true := by unfold subT; simp only [if_true, if_false, eq_self, (ne_BadUnits_BadRow h).symm, if_neg, not_false_eq_true]
theorem sub_BadRow_BadUnits {ad : Ad} (h : ad.Ok) : subT ad ad.BadRow ad.BadUnits = some false := by unfold subT; simp only [if_true, if_false, eq_self, (ne_BadUnits_BadRow h).symm, (ne_YardError_BadUnits h).symm, if_neg, not_false_eq_true]
theorem sub_BadRow_BadRow {ad : Ad} (h : ad.Ok) : subT ad ad.BadRow ad.BadRow = some true := by unfold subT; simp only [if_true, if_false, eq_self, (ne_BadUnits_BadRow h).symm, (ne_YardError_BadRow h).symm, (ne_BadUnits_BadRow h).symm, if_neg, not_false_eq_true]
theorem sub_BadRow_BadParameter {ad : Ad} (h : ad.Ok) : subT ad ad.BadRow ad.BadParameter = some false := by unfold subT; simp only [if_true, if_false, eq_self, (ne_BadUnits_BadRow h).symm, (ne_YardError_BadParameter h).symm, (ne_BadUnits_BadParameter h).symm, (ne_BadRow_BadParameter h).symm, if_neg, not_false_eq_true]
theorem sub_BadRow_NoRow {ad : Ad} (h : ad.Ok) : subT ad ad.BadRow ad.NoRow = some false := by unfold subT; simp only [if_true, if_false, eq_self, (ne_BadUnits_BadRow h).symm, (ne_YardError_NoRow h).symm, (ne_BadUnits_NoRow h).symm, (ne_BadRow_NoRow h).symm, (ne_BadParameter_NoRow h).symm, if_neg, not_false_eq_true]
theorem sub_BadParameter_YardError {ad : Ad} (h : ad.Ok) : subT ad ad.BadParameter ad.YardError = some true := by unfold subT; simp only [if_true, if_false, eq_self, (ne_BadUnits_BadParameter h).symm, (ne_BadRow_BadParameter h).symm, if_neg, not_false_eq_true]
theorem sub_BadParameter_BadUnits {ad : Ad} (h : ad.Ok) : subT ad ad.BadParameter ad.BadUnits = some false := by unfold subT; simp only [if_true, if_false, eq_self, (ne_BadUnits_BadParameter h).symm, (ne_BadRow_BadParameter h).symm, (ne_YardError_BadUnits h).symm, if_neg, not_false_eq_true]
theorem sub_BadParameter_BadRow {ad : Ad} (h : ad.Ok) : subT ad ad.BadParameter ad.BadRow = some false := by unfold subT; simp only [if_true, if_false, eq_self, (ne_BadUnits_BadParameter h).symm, (ne_BadRow_BadParameter h).symm, (ne_YardError_BadRow h).symm, (ne_BadUnits_BadRow h).symm, if_neg, not_false_eq_true]
theorem sub_BadParameter_BadParameter {ad : Ad} (h : ad.Ok) : subT ad ad.BadParameter ad.BadParameter = some true := by unfold subT; simp only [if_true, if_false, eq_self, (ne_BadUnits_BadParameter h).symm, (ne_BadRow_BadParameter h).symm, (ne_YardError_BadParameter h).symm, (ne_BadUnits_BadParameter h).symm, (ne_BadRow_BadParameter h).symm, if_neg, not_false_eq_true]
theorem sub_BadParameter_NoRow {ad : Ad} (h : ad.Ok) : subT ad ad.BadParameter ad.NoRow = some false := by unfold subT; simp only [if_true, if_false, eq_self, (ne_BadUnits_BadParameter h).symm, (ne_BadRow_BadParameter h).symm, (ne_YardError_NoRow h).symm, (ne_BadUnits_NoRow h).symm, (ne_BadRow_NoRow h).symm, (ne_BadParameter_NoRow h).symm, if_neg, not_false_eq_true]
theorem sub_NoRow_YardError {ad : Ad} (h : ad.Ok) : subT ad ad.NoRow ad.YardError = some true := by unfold subT; simp only [if_true, if_false, eq_self, (ne_BadUnits_NoRow h).symm, (ne_BadRow_NoRow h).symm, (ne_BadParameter_NoRow h).symm, if_neg, not_false_eq_true]
theorem sub_NoRow_BadUnits {ad : Ad} (h : ad.Ok) : subT ad ad.NoRow ad.BadUnits = some false := by unfold subT; simp only [if_true, if_false, eq_self, (ne_BadUnits_NoRow h).symm, (ne_BadRow_NoRow h).symm, (ne_BadParameter_NoRow h).symm, (ne_YardError_BadUnits h).symm, if_neg, not_false_eq_true]
theorem sub_NoRow_BadRow {ad : Ad} (h : ad.Ok) : subT ad ad.NoRow ad.BadRow = some false := by unfold subT; simp only [if_true, if_false, eq_self, (ne_BadUnits_NoRow h).symm, (ne_BadRow_NoRow h).symm, (ne_BadParameter_NoRow h).symm, (ne_YardError_BadRow h).symm, (ne_BadUnits_BadRow h).symm, if_neg, not_false_eq_true]
theorem sub_NoRow_BadParameter {ad : Ad} (h : ad.Ok) : subT ad ad.NoRow ad.BadParameter = some false := by unfold subT; simp only [if_true, if_false, eq_self, (ne_BadUnits_NoRow h).symm, (ne_BadRow_NoRow h).symm, (ne_BadParameter_NoRow h).symm, (ne_YardError_BadParameter h).symm, (ne_BadUnits_BadParameter h).symm, (ne_BadRow_BadParameter h).symm, if_neg, not_false_eq_true]
theorem sub_NoRow_NoRow {ad : Ad} (h : ad.Ok) : subT ad ad.NoRow ad.NoRow = some true := by unfold subT; simp only [if_true, if_false, eq_self, (ne_BadUnits_NoRow h).symm, (ne_BadRow_NoRow h).symm, (ne_BadParameter_NoRow h).symm, (ne_YardError_NoRow h).symm, (ne_BadUnits_NoRow h).symm, (ne_BadRow_NoRow h).symm, (ne_BadParameter_NoRow h).symm, if_neg, not_false_eq_true]
end Y85
local macro_rules | `(tactic| simp_all_arith) => `(tactic| simp only [Y85.b_is_from, Y85.b_is_whole, Y85.b_is_tuple_of, Y85.b_is_numbers, Y85.b_is_row, Y85.b_need_units, Y85.b_sizes, Y85.b_need_row, Y85.b_need_amount, Y85.b_totals_from, Y85.b_blocked, Y85.b_can_pay, Y85.b_blocked_unit, Y85.b_law_mixed, Y85.b_law_draw, Y85.b_law_units, Y85.b_law_sizes, Y85.b_law_total, Y85.b_law_parts, Y85.b_law_purse, Y85.b_law_sums, Y85.b_law_paid, Y85.b_law_like, Y85.b_law_rests])

namespace Y85
open PySem PySem.Spec PyProof.Rows L2 RZ Yx Rm Hx
variable [Tb] [Cb]
section
variable {K : PySem.W.Frag} {ad : Ad} {Z : Zt K ad} {x x' : Option Gst} {us r q : Rw} {Q : D → Option Gst → Prop} {E : XE}
theorem w_law_heard {m : Option Gst → R D} (hd : ad.Ok) (h : wR (m x) (fun d y => Q (.tup [.str "is", d]) y) (fun c e y => (c = ad.BadUnits ∧ ∃ d, e = some (("value" : Str), d) ∧ Q (.tup [.str "units", d, .bl true]) y) ∨ (c = ad.BadRow ∧ ∃ d, e = some (("value" : Str), d) ∧ Q (.tup [.str "row", d, .bl true]) y) ∨ (c = ad.BadParameter ∧ ∃ d, e = some (("value" : Str), d) ∧ Q (.tup [.str "parameter", d, .bl true]) y) ∨ (c = ad.NoRow ∧ e = none ∧ Q (.tup [.str "none", .bl true]) y))) : wR (lamP 3 (S_law_heard K ad Z) m x) Q E := by
  refine w_lam ?_
  unfold S_law_heard
  simp_arith [List.replicate]
  refine wR_mono h (fun d y q => ?_) (fun c e y q => ?_)
  · simp_arith [Yx.startS]
    exact q
  · rcases q with ⟨rfl, d, rfl, q⟩ | ⟨rfl, d, rfl, q⟩ | ⟨rfl, d, rfl, q⟩ | ⟨rfl, rfl, q⟩
    · simp_arith [tryF, clrS, sub_BadUnits_YardError hd, sub_BadUnits_BadUnits hd, sub_BadUnits_BadRow hd, sub_BadUnits_BadParameter hd, sub_BadUnits_NoRow hd, List.all_cons, List.all_nil, Bool.and_self]
      simp_all_arith! [X_law_heard_0]
      simp_arith [and_self, sub_BadUnits_YardError hd, sub_BadUnits_BadUnits hd, sub_BadUnits_BadRow hd, sub_BadUnits_BadParameter hd, sub_BadUnits_NoRow hd]
      exact q
    · simp_arith [tryF, clrS, sub_BadRow_YardError hd, sub_BadRow_BadUnits hd, sub_BadRow_BadRow hd, sub_BadRow_BadParameter hd, sub_BadRow_NoRow hd, List.all_cons, List.all_nil, Bool.and_self]
      simp_all_arith! [X_law_heard_1]
      simp_arith [and_self, sub_BadRow_YardError hd, sub_BadRow_BadUnits hd, sub_BadRow_BadRow hd, sub_BadRow_BadParameter hd, sub_BadRow_NoRow hd]
      exact q
    · simp_arith [tryF, clrS, sub_BadParameter_YardError hd, sub_BadParameter_BadUnits hd, sub_BadParameter_BadRow hd, sub_BadParameter_BadParameter hd, sub_BadParameter_NoRow hd, List.all_cons, List.all_nil, Bool.and_self]
      simp_all_arith! [X_law_heard_2]
      simp_arith [and_self, sub_BadParameter_YardError hd, sub_BadParameter_BadUnits hd, sub_BadParameter_BadRow hd, sub_BadParameter_BadParameter hd, sub_BadParameter_NoRow hd]
      exact q
    · simp_arith [tryF, clrS, sub_NoRow_YardError hd, sub_NoRow_BadUnits hd, sub_NoRow_BadRow hd, sub_NoRow_BadParameter hd, sub_NoRow_NoRow hd, List.all_cons, List.all_nil, Bool.and_self]
      simp_all_arith! [X_law_heard_3]
      simp_arith [and_self, sub_NoRow_YardError hd, sub_NoRow_BadUnits hd, sub_NoRow_BadRow hd, sub_NoRow_BadParameter hd, sub_NoRow_NoRow hd]
      exact q
theorem last0 (L : List Nat) : atI (D.int 0 :: L.map fun i : Nat => D.int (1 + (i : Int))) (-1) = some (match L.getLast? with | some i => .int (1 + (i : Int)) | none => .int 0) := by
  rcases List.eq_nil_or_concat L with rfl | ⟨L', i, rfl⟩
  · rfl
  · rw [List.concat_eq_append, List.map_append, List.getLast?_concat, ← List.cons_append]
    exact L2.atI_last _ _
theorem rw_is : Rp 0 100 (.str "is") := rp_w (by with_unfolding_all rfl) (by with_unfolding_all decide)
theorem rng_at {n i : Nat} {done left : List Nat} (e : done ++ i :: left = List.range n) : i = done.length ∧ i < n := by
  have h1 : (done ++ i :: left)[done.length]? = some i := by simp
  rw [e] at h1
  have h2 : i < n := List.mem_range.1 (by rw [← e]; simp)
  rw [List.getElem?_range] at h1
  · exact ⟨(Option.some.inj h1).symm, h2⟩
  · have := congrArg List.length e
    rw [List.length_append, List.length_cons, List.length_range] at this
    omega
theorem sr_bd (ud : UD us) (hr : Sr us r) : 0 ≤ dt us r ∧ dt us r ≤ 100000 := by
  have h1 := dt_bd0 (M := 2) (by decide) (zs_ro ud.uo) hr.nn hr.two
  have l2 := ud.len
  have h2 : ((us.length : Int) + 1) * (2 * 10000) ≤ 3 * (2 * 10000) := Int.mul_le_mul_of_nonneg_right (by omega) (by decide)
  exact ⟨dt_nn ud.uo.u hr.nn, by omega⟩
theorem sr_ro (hr : Sr us r) : RO us r := ⟨hr.len, hr.nn, fun a ha => by have := hr.two a ha; omega⟩
/-- what due says, and what the program says -/
theorem due_eq {A : Int} {n : Nat} {lb : Nat → Bool} (ud : UD us) (hr : Sr us r) (hq : Sr us q) (hn : us.length = n) (hl : ∀ i, i < n → (lb i = true ↔ Lost A us r q i)) :
    (Md us r q A → blk A us r q = .non) ∧ (¬ Md us r q A → blk A us r q = (match ((List.range n).filter lb).getLast? with | some i => .int (1 + (i : Int)) | none => .int 0)) := by
  have uu := ud.uo.u
  have le : ((List.range n).filter (cb A us r q)).getLast? = ((List.range n).filter lb).getLast? := by
    refine last_eq n (fun i hi c => (hl i hi).2 (lost_of_cb uu (by omega) c)) fun i hi hj => ?_
    cases e : lb i with
    | false => rfl
    | true => exact (not_lost uu hr.nn hq.nn hr.len hq.len (by omega) (fun j j1 j2 => hj j j1 (by omega)) ((hl i hi).1 e)).elim
  unfold blk
  rw [hn, le.symm, paid_iff uu hr.nn hq.nn hr.len hq.len, hn]
  cases c : ((List.range n).filter (cb A us r q)).getLast? with
  | some i =>
    have hi := List.mem_of_getLast? c
    obtain ⟨h1, h2⟩ := List.mem_filter.1 hi
    refine ⟨fun h => ?_, fun _ => by dsimp only; rw [Int.add_comm]⟩
    have := h.1 i (List.mem_range.1 h1)
    rw [this] at h2; cases h2
  | none =>
    have c0 : ∀ i, i < n → cb A us r q i = false := fun i hi => by
      rw [List.getLast?_eq_none_iff, List.filter_eq_nil_iff] at c
      exact Bool.eq_false_iff.2 (c i (List.mem_range.2 hi))
    dsimp only
    exact ⟨fun h => if_pos h.2, fun h => if_neg fun h' => h ⟨c0, h'⟩⟩
theorem blk_bd {A i : Int} (e : blk A us r q = .int i) : 0 ≤ i ∧ i ≤ us.length := by
  unfold blk at e
  split at e
  · rename_i j h
    cases e
    have := List.mem_range.1 (List.mem_filter.1 (List.mem_of_getLast? h)).1
    omega
  · split at e
    · cases e
    · cases e; omega
theorem w_law_right {m : Nat} {s : Gst} (hd : ad.Ok) (g : GOk m s) (h : m ≤ 700000) (qq : ∀ s', GOk (m + 9) s' → Q (.bl true) (some s')) : wR (m_law_right K ad Z [.st] (some s)) Q E := by
  (unfold m_law_right; refine Yx.w_def ?_; unfold S_law_right)
  unfold L_law_right_0
  simp_all_arith
  simp_arith [Yx.startS]
  refine w_units g (by omega) fun us s1 ud g1 => ?_
  have uo := ud.uo
  have l2 := ud.len
  simp_arith [Yx.startS]
  refine w_law_purse g1 (by omega) ud fun r s2 hr g2 => ?_
  simp_arith [Yx.startS]
  refine w_law_purse g2 (by omega) ud fun q s3 hq g3 => ?_
  simp_arith [Yx.startS]
  refine w_law_paid ud hr hq fun paid hp _ => ?_
  simp_arith [Yx.startS]
  refine wR_is (v_sizes uo) ?_
  rw [szs_zs]
  have i1 : i62 1 = true := by decide
  have i2 : i62 ((us.length : Int) + 1) = true := by unfold i62; rw [decide_eq_true_eq]; omega
  have tn : ((us.length : Int) + 1 - 1).toNat = us.length := by omega
  have rg : rngD 1 us.length = (List.range us.length).map fun i : Nat => D.int (1 + (i : Int)) := rfl
  simp_arith [List.length_map, i1, i2, tn, rg]
  refine wR_comp (fun i : Nat => D.int (1 + (i : Int))) (List.range us.length) (fun done acc y => y = some s3 ∧ ∃ T : List (List (Int × D)), acc = T.map D.dcK ∧ T.length = done.length ∧ ∀ i, i < T.length → ∀ k, k ∈ kyK (T.getD i []) ↔ ∃ t, Md (us.drop (i + 1)) (r.drop (i + 1)) (q.drop (i + 1)) t ∧ k = t % pick (zs us) i) (by rw [List.length_range]; omega) ⟨rfl, [], rfl, rfl, by simp⟩ ?_ ?_
  · rintro done i left acc y e ⟨rfl, T, rfl, Tl, hT⟩
    obtain ⟨ei, hi⟩ := rng_at e
    have c1 : (1 : Int) + i = i + 1 := Int.add_comm ..
    refine ⟨_, rfl, ?_⟩
    simp_arith [c1]
    refine w_law_rests ud hr hq (by omega) fun l hl => ?_
    refine kp ⟨rfl, T ++ [l], by rw [List.map_append]; rfl, by simp [Tl], fun j hj k => ?_⟩
    rw [List.length_append, List.length_singleton] at hj
    by_cases cj : j < T.length
    · have : (T ++ [l]).getD j [] = T.getD j [] := by rw [List.getD_eq_getElem?_getD, List.getD_eq_getElem?_getD, List.getElem?_append_left cj]
      rw [this]; exact hT j cj k
    · have ej : j = i := by omega
      have : (T ++ [l]).getD j [] = l := by rw [ej, ei, ← Tl, List.getD_eq_getElem?_getD]; simp
      rw [this, hl, ej]
  · rintro acc y ⟨rfl, T, rfl, Tl, hT⟩
    rw [List.length_range] at Tl
    simp_arith [Yx.startS]
    refine w_total uo hq.len hq.big ?_
    rw [tot_dt0 hq.len]
    simp_arith [Yx.startS]
    refine w_total uo hr.len hr.big ?_
    rw [tot_dt0 hr.len]
    have bq := sr_bd ud hq
    have br := sr_bd ud hr
    have i3 : i62 (-dt us q - 2) = true := by unfold i62; rw [decide_eq_true_eq]; omega
    have i4 : i62 (dt us r + 3) = true := by unfold i62; rw [decide_eq_true_eq]; omega
    obtain ⟨N, hN⟩ : ∃ N, (dt us r + 3 - (-dt us q - 2)).toNat = N := ⟨_, rfl⟩
    simp_arith [i3, i4, hN]
    have rg2 : rngD (-dt us q - 2) N = (List.range N).map fun i : Nat => D.int (-dt us q - 2 + (i : Int)) := rfl
    rw [rg2]
    refine wO_for (fun i : Nat => D.int (-dt us q - 2 + (i : Int))) (List.range N) (fun done left σ y => y = some s3 ∧ ∃ t3 t8 t9, σ = [some (.dat .st), some (.dat (dR us)), some (.dat (.lst (T.map D.dcK))), t3, some (.dat (dR r)), some (.dat (dR q)), some (.dat (.dcK paid)), some (.dat (dR (zs us))), t8, t9, none]) ⟨rfl, none, none, none, rfl⟩ ?_ ?_
    · rintro done a left σ y e ⟨rfl, t3, t8, t9, rfl⟩
      obtain ⟨_, ha⟩ := rng_at e
      generalize hA : -dt us q - 2 + (a : Int) = A
      have A0 : -10 ^ 60 ≤ A ∧ A ≤ 10 ^ 60 := by omega
      refine ⟨_, rfl, ?_⟩
      simp_arith [List.length_map, i1, i2, tn, rg]
      have mo : ∀ i, i < us.length → (opMod K).f (.int A) (.int (pick (zs us) i)) = some (.int (A % pick (zs us) i)) := fun i hi => modI (by have := zs_pos us uo.u i (by omega); omega)
      have g1 : ∀ i : Nat, i < us.length → atI ((zs us).map D.int) (1 + (i : Int) - 1) = some (.int (pick (zs us) i)) := fun i hi => by
        rw [show 1 + (i : Int) - 1 = i by omega]; exact at_pick (by rw [zs_length]; omega)
      have g2 : ∀ i : Nat, i < us.length → atI (T.map D.dcK) (1 + (i : Int) - 1) = some (.dcK (T.getD i [])) := fun i hi => by
        rw [show 1 + (i : Int) - 1 = i by omega, at_map D.dcK (k := i) (by omega), List.getD_eq_getElem?_getD, List.getElem?_eq_getElem (by omega)]; rfl
      refine wR_fmap (fun i : Nat => D.int (1 + (i : Int))) (List.range us.length) (fun i => !decide (A % pick (zs us) i ∈ kyK (T.getD i []))) (fun i => .int (1 + (i : Int))) (by rw [List.length_range]; omega) ?_ ?_
      · intro i hi
        rw [List.mem_range] at hi
        refine ⟨_, rfl, ?_⟩
        simp_arith [mo i hi, g1 i hi, g2 i hi, dgetK_mem]
        exact ⟨kp ⟨rfl, rfl⟩, fun _ => kp ⟨rfl, rfl⟩⟩
      · have cl : (opAdd K).f (.lst [D.int 0]) (.lst (((List.range us.length).filter fun i => !decide (A % pick (zs us) i ∈ kyK (T.getD i []))).map fun i : Nat => D.int (1 + (i : Int)))) = _ := catL (by
          have := List.length_filter_le (fun i => !decide (A % pick (zs us) i ∈ kyK (T.getD i []))) (List.range us.length)
          rw [List.length_range] at this
          rw [List.length_map, List.length_singleton]; omega)
        have hL : ∀ i, i < us.length → ((!decide (A % pick (zs us) i ∈ kyK (T.getD i []))) = true ↔ Lost A us r q i) := fun i hi => by
          rw [Bool.not_eq_true', decide_eq_false_iff_not, hT i (by omega)]; exact Iff.rfl
        have de := due_eq ud hr hq rfl hL
        generalize (List.range us.length).filter (fun i => !decide (A % pick (zs us) i ∈ kyK (T.getD i []))) = F at cl de ⊢
        have la := last0 F
        by_cases c : A ∈ kyK paid
        · have e1 := de.1 ((hp A).1 c)
          simp_arith [cl, dgetK_mem, c]
          refine w_law_heard hd ?_
          simp_arith [Yx.startS]
          refine w_blocked_unit uo (sr_ro hr) (sr_ro hq) (fun _ _ => .inr (.inr (.inr ⟨rfl, rfl, ?_⟩))) (fun _ i e => by rw [e1] at e; cases e) (fun h => (h A0).elim)
          simp_arith [Yx.startS]
          refine w_like rfl (by decide +kernel) ?_
          simp_arith [Yx.startS]
          exact kp ⟨rfl, _, _, _, rfl⟩
        · have e1 := de.2 fun h => c ((hp A).2 h)
          simp_arith [cl, dgetK_mem, c, la]
          refine w_law_heard hd ?_
          simp_arith [Yx.startS]
          refine w_blocked_unit uo (sr_ro hr) (sr_ro hq) (fun _ e => ?_) (fun _ i e => ?_) (fun h => (h A0).elim)
          · rw [e1] at e; split at e <;> cases e
          · have ib := blk_bd e
            rw [e1] at e
            simp_arith [e]
            refine w_likeR (n := 100000) ((rp_tag2 rw_is ((rp_i (by omega) (by omega)).mono (by decide) (Nat.le_refl _))).mono (by decide) (by decide)) (by decide) ?_
            simp_arith [Yx.startS]
            exact kp ⟨rfl, _, _, _, rfl⟩
    · rintro σ y ⟨rfl, t3, t8, t9, rfl⟩
      simp_arith [Yx.startS]
      exact qq _ g3
theorem x_amountU {u a b c : D} (h : okt u = true) (hn : isU u = false) (q : E ad.BadUnits (some (("value" : Str), u)) x) : wR (Hx.m_need_amount K ad.BadParameter ad.BadRow ad.BadUnits [u, a, b, c] x) Q E := by
  (unfold Hx.m_need_amount; refine Yx.w_def ?_; unfold Hx.S_need_amount)
  simp_arith [Yx.startS]
  refine x_need_rowU h hn ?_
  exact q
theorem x_amount1 {a b c : D} (hu : UO us) (h : okt a = true) (hn : isn us.length 0 T60 a = false) (q : E ad.BadRow (some (("value" : Str), a)) x) : wR (Hx.m_need_amount K ad.BadParameter ad.BadRow ad.BadUnits [dR us, a, b, c] x) Q E := by
  (unfold Hx.m_need_amount; refine Yx.w_def ?_; unfold Hx.S_need_amount)
  simp_arith [Yx.startS]
  refine x_need_row hu h hn ?_
  exact q
theorem x_amount2 {b c : D} (hu : UO us) (hr : RO us r) (h : okt b = true) (hn : isn us.length 0 T60 b = false) (q : E ad.BadRow (some (("value" : Str), b)) x) : wR (Hx.m_need_amount K ad.BadParameter ad.BadRow ad.BadUnits [dR us, dR r, b, c] x) Q E := by
  (unfold Hx.m_need_amount; refine Yx.w_def ?_; unfold Hx.S_need_amount)
  simp_arith [Yx.startS]
  refine wR_is (v_need_row hu hr) ?_
  simp_arith [Yx.startS]
  refine x_need_row hu h hn ?_
  exact q
theorem x_blocked_unit {a b c d : D} (h : wR (Hx.m_need_amount K ad.BadParameter ad.BadRow ad.BadUnits [a, b, c, d] x) (fun _ _ => False) E) : wR (Hx.m_blocked_unit K ad.BadParameter ad.BadRow ad.BadUnits ad.NoRow [a, b, c, d] x) Q E := by
  (unfold Hx.m_blocked_unit; refine Yx.w_def ?_; unfold Hx.S_blocked_unit)
  simp_arith [Yx.startS]
  refine wR_mono h (fun _ _ h => h.elim) fun c e y h => ?_
  exact h
def isI (k : Int) : D → Bool
  | .int i => decide (i = k)
  | _ => false
theorem isI_eq {k : Int} {d : D} (h : isI k d = true) : d = .int k := by
  cases d <;> first | (unfold isI at h; rw [of_decide_eq_true h]) | cases h
theorem isNon_eq {d : D} (h : Hx.isNon d = true) : d = .non := by
  cases d <;> first | rfl | cases h
/-- a told unit -/
theorem w_told {A k : Int} (hu : UO us) (hr : RO us r) (hq : RO us q) (hA : -10 ^ 60 ≤ A ∧ A ≤ 10 ^ 60) (hb : isI k (blk A us r q) = true) (qq : Q (.int k) x) : wR (Hx.m_blocked_unit K ad.BadParameter ad.BadRow ad.BadUnits ad.NoRow [dR us, dR r, dR q, .int A] x) Q E :=
  w_blocked_unit hu hr hq (fun _ e => by rw [isI_eq hb] at e; cases e) (fun _ i e => by rw [isI_eq hb] at e; cases e; exact qq) fun h => (h hA).elim
theorem w_by_hand (hd : ad.Ok) (qq : Q (.bl true) x) : wR (m_law_by_hand K ad Z [] x) Q E := by
  have u23 : UO [2, 3] := ⟨by decide, by simp⟩
  have u10 : UO [10] := ⟨by decide, by simp⟩
  have u0 : UO [] := ⟨by decide, by simp⟩
  have pow59 : (opPow K).f (.int 10) (.int 59) = some (.int (10 ^ 59)) := by with_unfolding_all rfl
  have m60 : (opMul K).f (.int 1000000000000000000000000000000000000000000000000000000000000) (.int 10) = some (.int (1000000000000000000000000000000000000000000000000000000000000 * 10)) := mulF_int (sm8 (by decide) (by decide)) (.of (by decide) (by decide))
  (unfold m_law_by_hand; refine Yx.w_def ?_; unfold S_law_by_hand)
  unfold L_law_by_hand_0 L_law_by_hand_1 L_law_by_hand_2 L_law_by_hand_3 L_law_by_hand_4 L_law_by_hand_5 L_law_by_hand_6 L_law_by_hand_7 L_law_by_hand_8 L_law_by_hand_9 L_law_by_hand_10
  simp_all_arith
  simp_arith [pow60]
  refine w_law_heard hd ?_
  simp_arith [Yx.startS]
  refine w_told (us := [2, 3]) (r := [1, 0, 1]) (q := [0, 0, 2]) (A := 3) (k := 1) u23 ⟨rfl, by simp [NN], by decide⟩ ⟨rfl, by simp [NN], by decide⟩ (by decide) (by decide +kernel) ?_
  simp_arith [pow60]
  refine w_law_heard hd ?_
  simp_arith [Yx.startS]
  refine w_told (us := [2, 3]) (r := [1, 0, 1]) (q := [0, 0, 2]) (A := 12) (k := 0) u23 ⟨rfl, by simp [NN], by decide⟩ ⟨rfl, by simp [NN], by decide⟩ (by decide) (by decide +kernel) ?_
  simp_arith [pow60]
  refine w_law_heard hd ?_
  simp_arith [Yx.startS]
  refine w_told (us := [2, 3]) (r := [1, 0, 0]) (q := [0, 0, 0]) (A := 2) (k := 2) u23 ⟨rfl, by simp [NN], by decide⟩ ⟨rfl, by simp [NN], by decide⟩ (by decide) (by decide +kernel) ?_
  simp_arith [pow60, pow59, m60]
  refine w_law_heard hd ?_
  simp_arith [pow60, pow59, m60]
  refine w_blocked_unit (us := [10]) (r := [1000000000000000000000000000000000000000000000000000000000000, 4]) (q := [0, 4]) (A := 9999999999999999999999999999999999999999999999999999999999995) u10 ⟨rfl, by simp [NN], by decide⟩ ⟨rfl, by simp [NN], by decide⟩ (fun h => absurd h (by decide)) (fun h => absurd h (by decide)) (fun _ => .inr (.inr (.inl ⟨rfl, _, rfl, ?_⟩)))
  simp_arith [pow60, pow59, m60]
  refine w_law_heard hd ?_
  simp_arith [pow60, pow59, m60]
  refine w_blocked_unit (us := [10]) (r := [1000000000000000000000000000000000000000000000000000000000000, 4]) (q := [0, 4]) (A := 99999999999999999999999999999999999999999999999999999999996) u10 ⟨rfl, by simp [NN], by decide⟩ ⟨rfl, by simp [NN], by decide⟩ (fun _ _ => .inr (.inr (.inr ⟨rfl, rfl, ?_⟩))) (fun _ i e => by rw [isNon_eq (d := blk _ _ _ _) (by decide +kernel)] at e; cases e) (fun h => absurd (by decide) h)
  simp_arith [pow60, pow59, m60]
  refine w_law_heard hd ?_
  simp_arith [pow60, pow59, m60]
  refine w_told (us := [10]) (r := [1000000000000000000000000000000000000000000000000000000000000, 4]) (q := [0, 4]) (A := (-5)) (k := 1) u10 ⟨rfl, by simp [NN], by decide⟩ ⟨rfl, by simp [NN], by decide⟩ (by decide) (by decide +kernel) ?_
  simp_arith [pow60, pow59, m60]
  refine w_law_heard hd ?_
  simp_arith [pow60, pow59, m60]
  refine w_told (us := []) (r := [1000000000000000000000000000000000000000000000000000000000000]) (q := [0]) (A := (-1)) (k := 0) u0 ⟨rfl, by simp [NN], by decide⟩ ⟨rfl, by simp [NN], by decide⟩ (by decide) (by decide +kernel) ?_
  simp_arith [pow60, pow59, m60]
  refine w_law_heard hd ?_
  simp_arith [pow60, pow59, m60]
  refine x_blocked_unit (x_amountU (by decide) (by decide) (.inl ⟨rfl, _, rfl, ?_⟩))
  simp_arith [pow60, pow59, m60]
  refine w_law_heard hd ?_
  simp_arith [pow60, pow59, m60]
  refine x_blocked_unit (x_amount1 (us := []) u0 (by decide) (by decide) (.inr (.inl ⟨rfl, _, rfl, ?_⟩)))
  simp_arith [pow60, pow59, m60]
  refine w_law_heard hd ?_
  simp_arith [pow60, pow59, m60]
  refine x_blocked_unit (x_amount2 (us := []) (r := [1]) (b := .tup [.int 1, .int 1]) u0 ⟨rfl, by simp [NN], by decide⟩ (by decide) (by decide) (.inr (.inl ⟨rfl, _, rfl, ?_⟩)))
  simp_arith [pow60, pow59, m60]
  refine w_law_heard hd ?_
  simp_arith [pow60, pow59, m60]
  refine w_blocked_unit (us := []) (r := [1]) (q := [1]) (A := 1000000000000000000000000000000000000000000000000000000000001) u0 ⟨rfl, by simp [NN], by decide⟩ ⟨rfl, by simp [NN], by decide⟩ (fun h => absurd h (by decide)) (fun h => absurd h (by decide)) (fun _ => .inr (.inr (.inl ⟨rfl, _, rfl, ?_⟩)))
  simp_arith [pow60, pow59, m60]
  refine w_catL (by decide) ?_
  simp_arith [Yx.startS]
  refine w_like rfl (by decide +kernel) ?_
  simp_arith [Yx.startS]
  refine w_can_pay (us := [2]) (r := [1, 0]) (q := [0, 1]) (A := 1) ⟨by decide, by simp⟩ ⟨rfl, by simp [NN], by decide⟩ ⟨rfl, by simp [NN], by decide⟩ (by decide) ?_
  rw [show Hx.isNon (blk 1 [2] [1, 0] [0, 1]) = true by decide +kernel]
  simp_arith [Yx.startS]
  refine w_like (d := .bl true) (e := .bl true) rfl (by decide +kernel) ?_
  simp_arith [Yx.startS]
  exact qq
theorem math_ok (K : PySem.W.Frag) (ns : List Int) (h : ns.length ≤ 63) : Goal K ns := by
  intro ad Z hd
  refine ⟨startS 3 [.lst (iD ns)], rfl, start_ok 3 ns, rfl, w_law ?_⟩
  have e62 : i62 2 = true := by decide
  unfold S_lawrest
  simp_arith [e62]
  refine w_law_right hd (begG_ok ns) (by decide) fun s1 g1 => ?_
  simp_arith [Yx.startS]
  refine w_law_right hd g1 (by decide) fun s2 g2 => ?_
  simp_arith [Yx.startS]
  refine w_by_hand hd ?_
  simp_arith [Yx.startS]
end
end Y85

open PySem PySem.W PyProof.Rows
set_option maxRecDepth 100000 in
set_option maxHeartbeats 0 in
theorem PySem.Challenge.cw_stairyard_k85_whole_why_not_paid_holds : PySem.Challenge.rw_stairyard_k85_whole_why_not_paid.Holds := by
  w_on; o_law; k_head; (case hw => w_witness2)
  k_fill
  refine Y85.walk (l := PySem.Challenge.rw_stairyard_k85_whole_why_not_paid) rfl rfl (fun w h Y => by first | exact PySem.W.kIn_of Y | exact PySem.W.km_in_of Y) ?F
  case F =>
    intro w mg fa h KX G hmg
    refine' Y85.all_mk KX G hmg (fun T C => @Y85.math_ok T C) ?aY ?y1 ?y2 ?y3 ?y4 ?ex_YardError ?is_YardError ?gcl ?gtk ?a_BadUnits ?x_BadUnits ?sa_BadUnits ?ga_BadUnits ?gg_BadUnits ?ex_BadUnits ?ty_BadUnits ?is_BadUnits ?kc_BadUnits ?hd_BadUnits ?cl_BadUnits ?mo_BadUnits ?no_BadUnits ?ini_BadUnits ?ti_BadUnits ?l_iBadUnits ?c_iBadUnits ?k_iBadUnits ?a_BadRow ?x_BadRow ?sa_BadRow ?ga_BadRow ?gg_BadRow ?ex_BadRow ?ty_BadRow ?is_BadRow ?kc_BadRow ?hd_BadRow ?cl_BadRow ?mo_BadRow ?no_BadRow ?ini_BadRow ?ti_BadRow ?l_iBadRow ?c_iBadRow ?k_iBadRow ?a_BadParameter ?x_BadParameter ?sa_BadParameter ?ga_BadParameter ?gg_BadParameter ?ex_BadParameter ?ty_BadParameter ?is_BadParameter ?kc_BadParameter ?hd_BadParameter ?cl_BadParameter ?mo_BadParameter ?no_BadParameter ?ini_BadParameter ?ti_BadParameter ?l_iBadParameter ?c_iBadParameter ?k_iBadParameter ?a_NoRow ?x_NoRow ?sa_NoRow ?ga_NoRow ?gg_NoRow ?ex_NoRow ?ty_NoRow ?is_NoRow ?kc_NoRow ?hd_NoRow ?cl_NoRow ?mo_NoRow ?ini_NoRow ?ti_NoRow ?l_iNoRow ?c_iNoRow ?k_iNoRow ?su_BadUnits_YardError ?su_BadUnits_BadUnits ?su_BadUnits_BadRow ?su_BadUnits_BadParameter ?su_BadUnits_NoRow ?su_BadRow_YardError ?su_BadRow_BadUnits ?su_BadRow_BadRow ?su_BadRow_BadParameter ?su_BadRow_NoRow ?su_BadParameter_YardError ?su_BadParameter_BadUnits ?su_BadParameter_BadRow ?su_BadParameter_BadParameter ?su_BadParameter_NoRow ?su_NoRow_YardError ?su_NoRow_BadUnits ?su_NoRow_BadRow ?su_NoRow_BadParameter ?su_NoRow_NoRow ?a_is_from ?l_is_from ?c_is_from ?k_is_from ?a_is_whole ?l_is_whole ?c_is_whole ?k_is_whole ?a_is_tuple_of ?l_is_tuple_of ?c_is_tuple_of ?k_is_tuple_of ?a_is_numbers ?l_is_numbers ?c_is_numbers ?k_is_numbers ?a_is_row ?l_is_row ?c_is_row ?k_is_row ?a_need_units ?l_need_units ?c_need_units ?k_need_units ?a_sizes ?l_sizes ?c_sizes ?k_sizes ?a_need_row ?l_need_row ?c_need_row ?k_need_row ?a_need_amount ?l_need_amount ?c_need_amount ?k_need_amount ?a_totals_from ?l_totals_from ?c_totals_from ?k_totals_from ?a_blocked ?l_blocked ?c_blocked ?k_blocked ?a_can_pay ?l_can_pay ?c_can_pay ?k_can_pay ?a_blocked_unit ?l_blocked_unit ?c_blocked_unit ?k_blocked_unit ?a_law_mixed ?l_law_mixed ?c_law_mixed ?k_law_mixed ?a_law_begin ?l_law_begin ?c_law_begin ?k_law_begin ?a_law_draw ?l_law_draw ?c_law_draw ?k_law_draw ?a_law_units ?l_law_units ?c_law_units ?k_law_units ?a_law_sizes ?l_law_sizes ?c_law_sizes ?k_law_sizes ?a_law_total ?l_law_total ?c_law_total ?k_law_total ?a_law_parts ?l_law_parts ?c_law_parts ?k_law_parts ?a_law_purse ?l_law_purse ?c_law_purse ?k_law_purse ?a_law_sums ?l_law_sums ?c_law_sums ?k_law_sums ?a_law_paid ?l_law_paid ?c_law_paid ?k_law_paid ?a_law_heard ?l_law_heard ?c_law_heard ?k_law_heard ?a_law_like ?l_law_like ?c_law_like ?k_law_like ?a_law_rests ?l_law_rests ?c_law_rests ?k_law_rests ?a_law_right ?l_law_right ?c_law_right ?k_law_right ?a_law_by_hand ?l_law_by_hand ?c_law_by_hand ?k_law_by_hand ?a_law ?l_law ?c_law ?k_law ?kc2_law_right ?v_law_right ?kn_law_right ?rc_law_right ?kc2_law_by_hand ?v_law_by_hand ?kn_law_by_hand ?rc_law_by_hand ?tp ?z_all ?z_bool ?z_int ?z_isinstance ?z_len ?z_list ?z_range ?z_repr ?z_reversed ?z_sum ?z_tuple ?z_zip ?ap
    (case aY => k_is)
    (case y1 => k_is)
    (case y2 => k_is)
    (case y3 => k_is)
    (case y4 => k_is)
    (case ex_YardError => k_is)
    (case is_YardError => k_is)
    (case gcl => k_is)
    (case gtk => k_is)
    (case a_BadUnits => k_is)
    (case x_BadUnits => k_is)
    (case sa_BadUnits => k_is)
    (case ga_BadUnits => k_is)
    (case gg_BadUnits => k_is)
    (case ex_BadUnits => k_is)
    (case ty_BadUnits => k_is)
    (case is_BadUnits => k_is)
    (case kc_BadUnits => k_is)
    (case hd_BadUnits => k_is)
    (case cl_BadUnits => k_is)
    (case mo_BadUnits => k_is)
    (case no_BadUnits => k_is)
    (case ini_BadUnits => k_is)
    (case ti_BadUnits => k_is)
    (case l_iBadUnits => k_is)
    (case c_iBadUnits => k_is)
    (case k_iBadUnits => k_is)
    (case a_BadRow => k_is)
    (case x_BadRow => k_is)
    (case sa_BadRow => k_is)
    (case ga_BadRow => k_is)
    (case gg_BadRow => k_is)
    (case ex_BadRow => k_is)
    (case ty_BadRow => k_is)
    (case is_BadRow => k_is)
    (case kc_BadRow => k_is)
    (case hd_BadRow => k_is)
    (case cl_BadRow => k_is)
    (case mo_BadRow => k_is)
    (case no_BadRow => k_is)
    (case ini_BadRow => k_is)
    (case ti_BadRow => k_is)
    (case l_iBadRow => k_is)
    (case c_iBadRow => k_is)
    (case k_iBadRow => k_is)
    (case a_BadParameter => k_is)
    (case x_BadParameter => k_is)
    (case sa_BadParameter => k_is)
    (case ga_BadParameter => k_is)
    (case gg_BadParameter => k_is)
    (case ex_BadParameter => k_is)
    (case ty_BadParameter => k_is)
    (case is_BadParameter => k_is)
    (case kc_BadParameter => k_is)
    (case hd_BadParameter => k_is)
    (case cl_BadParameter => k_is)
    (case mo_BadParameter => k_is)
    (case no_BadParameter => k_is)
    (case ini_BadParameter => k_is)
    (case ti_BadParameter => k_is)
    (case l_iBadParameter => k_is)
    (case c_iBadParameter => k_is)
    (case k_iBadParameter => k_is)
    (case a_NoRow => k_is)
    (case x_NoRow => k_is)
    (case sa_NoRow => k_is)
    (case ga_NoRow => k_is)
    (case gg_NoRow => k_is)
    (case ex_NoRow => k_is)
    (case ty_NoRow => k_is)
    (case is_NoRow => k_is)
    (case kc_NoRow => k_is)
    (case hd_NoRow => k_is)
    (case cl_NoRow => k_is)
    (case mo_NoRow => k_is)
    (case ini_NoRow => k_is)
    (case ti_NoRow => k_is)
    (case l_iNoRow => k_is)
    (case c_iNoRow => k_is)
    (case k_iNoRow => k_is)
    (case su_BadUnits_YardError => k_is)
    (case su_BadUnits_BadUnits => k_is)
    (case su_BadUnits_BadRow => k_is)
    (case su_BadUnits_BadParameter => k_is)
    (case su_BadUnits_NoRow => k_is)
    (case su_BadRow_YardError => k_is)
    (case su_BadRow_BadUnits => k_is)
    (case su_BadRow_BadRow => k_is)
    (case su_BadRow_BadParameter => k_is)
    (case su_BadRow_NoRow => k_is)
    (case su_BadParameter_YardError => k_is)
    (case su_BadParameter_BadUnits => k_is)
    (case su_BadParameter_BadRow => k_is)
    (case su_BadParameter_BadParameter => k_is)
    (case su_BadParameter_NoRow => k_is)
    (case su_NoRow_YardError => k_is)
    (case su_NoRow_BadUnits => k_is)
    (case su_NoRow_BadRow => k_is)
    (case su_NoRow_BadParameter => k_is)
    (case su_NoRow_NoRow => k_is)
    (case a_is_from => k_is)
    (case l_is_from => k_is)
    (case c_is_from => k_is)
    (case k_is_from => k_is)
    (case a_is_whole => k_is)
    (case l_is_whole => k_is)
    (case c_is_whole => k_is)
    (case k_is_whole => k_is)
    (case a_is_tuple_of => k_is)
    (case l_is_tuple_of => k_is)
    (case c_is_tuple_of => k_is)
    (case k_is_tuple_of => k_is)
    (case a_is_numbers => k_is)
    (case l_is_numbers => k_is)
    (case c_is_numbers => k_is)
    (case k_is_numbers => k_is)
    (case a_is_row => k_is)
    (case l_is_row => k_is)
    (case c_is_row => k_is)
    (case k_is_row => k_is)
    (case a_need_units => k_is)
    (case l_need_units => k_is)
    (case c_need_units => k_is)
    (case k_need_units => k_is)
    (case a_sizes => k_is)
    (case l_sizes => k_is)
    (case c_sizes => k_is)
    (case k_sizes => k_is)
    (case a_need_row => k_is)
    (case l_need_row => k_is)
    (case c_need_row => k_is)
    (case k_need_row => k_is)
    (case a_need_amount => k_is)
    (case l_need_amount => k_is)
    (case c_need_amount => k_is)
    (case k_need_amount => k_is)
    (case a_totals_from => k_is)
    (case l_totals_from => k_is)
    (case c_totals_from => k_is)
    (case k_totals_from => k_is)
    (case a_blocked => k_is)
    (case l_blocked => k_is)
    (case c_blocked => k_is)
    (case k_blocked => k_is)
    (case a_can_pay => k_is)
    (case l_can_pay => k_is)
    (case c_can_pay => k_is)
    (case k_can_pay => k_is)
    (case a_blocked_unit => k_is)
    (case l_blocked_unit => k_is)
    (case c_blocked_unit => k_is)
    (case k_blocked_unit => k_is)
    (case a_law_mixed => k_is)
    (case l_law_mixed => k_is)
    (case c_law_mixed => k_is)
    (case k_law_mixed => k_is)
    (case a_law_begin => k_is)
    (case l_law_begin => k_is)
    (case c_law_begin => k_is)
    (case k_law_begin => k_is)
    (case a_law_draw => k_is)
    (case l_law_draw => k_is)
    (case c_law_draw => k_is)
    (case k_law_draw => k_is)
    (case a_law_units => k_is)
    (case l_law_units => k_is)
    (case c_law_units => k_is)
    (case k_law_units => k_is)
    (case a_law_sizes => k_is)
    (case l_law_sizes => k_is)
    (case c_law_sizes => k_is)
    (case k_law_sizes => k_is)
    (case a_law_total => k_is)
    (case l_law_total => k_is)
    (case c_law_total => k_is)
    (case k_law_total => k_is)
    (case a_law_parts => k_is)
    (case l_law_parts => k_is)
    (case c_law_parts => k_is)
    (case k_law_parts => k_is)
    (case a_law_purse => k_is)
    (case l_law_purse => k_is)
    (case c_law_purse => k_is)
    (case k_law_purse => k_is)
    (case a_law_sums => k_is)
    (case l_law_sums => k_is)
    (case c_law_sums => k_is)
    (case k_law_sums => k_is)
    (case a_law_paid => k_is)
    (case l_law_paid => k_is)
    (case c_law_paid => k_is)
    (case k_law_paid => k_is)
    (case a_law_heard => k_is)
    (case l_law_heard => k_is)
    (case c_law_heard => k_is)
    (case k_law_heard => k_is)
    (case a_law_like => k_is)
    (case l_law_like => k_is)
    (case c_law_like => k_is)
    (case k_law_like => k_is)
    (case a_law_rests => k_is)
    (case l_law_rests => k_is)
    (case c_law_rests => k_is)
    (case k_law_rests => k_is)
    (case a_law_right => k_is)
    (case l_law_right => k_is)
    (case c_law_right => k_is)
    (case k_law_right => k_is)
    (case a_law_by_hand => k_is)
    (case l_law_by_hand => k_is)
    (case c_law_by_hand => k_is)
    (case k_law_by_hand => k_is)
    (case a_law => k_is)
    (case l_law => k_is)
    (case c_law => k_is)
    (case k_law => k_is)
    (case kc2_law_right => k_is)
    (case v_law_right => rfl)
    (case kn_law_right => kernel_rfl)
    (case rc_law_right => exact ⟨_, rfl⟩)
    (case kc2_law_by_hand => k_is)
    (case v_law_by_hand => rfl)
    (case kn_law_by_hand => kernel_rfl)
    (case rc_law_by_hand => exact ⟨_, rfl⟩)
    (case tp => decide)
    (case z_all => k_is)
    (case z_bool => k_is)
    (case z_int => k_is)
    (case z_isinstance => k_is)
    (case z_len => k_is)
    (case z_list => k_is)
    (case z_range => k_is)
    (case z_repr => k_is)
    (case z_reversed => k_is)
    (case z_sum => k_is)
    (case z_tuple => k_is)
    (case z_zip => k_is)
    (case ap => decide)

