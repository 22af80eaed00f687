import PyProof.Rows.All
import HandS.Base
import HandS.Call
import HandS.List
import HandS.Comp
import HandS.Ends
import HandS.Exc
import HandS.ExcInit
import HandS.TupAny
import HandS.TupMul
import HandS.IsInst
import HandS.Deep
import HandS.Style
import HandS.Star
import HandS.RaiseMore
import HandS.Dict
import HandS.Words
import HandS.Zip
import KE.GoesEnum
import HandS.WordsExc
import HandS.Conv
import HandS.TupLen
import HandS.SortInts
import KE.KDictZip
import HandS.OwnIter
import KE.KDictKeyed
import HandS.SortOrd
import HandS.NamedTupSort
import KE.KSortTupAny
import HandS.ExcOwn
import PyProof.WalksMore
import KE.KDictWalk
import KE.KDictSum
import HandS.Gcd
import KE.KMathGC
import HandS.TupSets
import HandS.Text
import HandS.ExcSuper
import HandS.Nested
import KE.KSuper
import HandS.TryMany
import KE.KExcIs
import HandS.ExcIs
import HandS.ExcField
import HandS.HotCalls
import PyProof.ReprLen
import PyProof.StrLawsRepr
import PySem.Challenge.RW_sightsums_k00_errors_by_position_and_by
set_option Elab.async false
set_option linter.all false
set_option autoImplicit false
section
set_option maxRecDepth 100000
/-! plain values, the mirror's monad, what stands in the heap -/
namespace PV
open PySem PySem.Spec PyProof.Rows L2

/-- a plain value -/
inductive D where
  | non | bl (b : Bool) | int (i : Int) | str (x : Str) | tup (ds : List D) | lst (ds : List D)
  | dK (kvs : List (Key × D)) | dT (kvs : List (List Key × D)) | deck | exc (c : Nat) (d : D) | fK (kvs : List (Key × D))

/-- the classes of errors, by their numbers -/
def errName (c : Nat) : Str := ([("BadShape" : Str), "BadModulus", "BadLot", "BadWord", "BadList", "BadFamily", "BadSystem", "BadScheme", "BadPlan", "BadDemand", "BadQuestion", "BadTold", "BadWeb", "BadNumber", "Barred"])[c]?.getD ""
def errFld (c : Nat) : Str := if c = 14 then "certificate" else "thing"
/-- what the written part says of the class with the number c -/
def ClsOf (K : PySem.W.Frag) (c : Nat) (C : Addr) : Prop := c < 15 ∧ PySem.W.nsIn K mainGlobals (errName c) = some (some (.ref C)) ∧ ∃ (q : Str) (N : Addr) (bs : List Value) (SE : Addr) (sn : List Str) (sub : List Value) (ab : Bool) (col : Option Bool) (dd : Option Addr) (k0 k1 k2 k3 k5 : Option Value),
  K.lookup C = some (excClassObj (errName c) q C N bs [.ref SE, .type "Exception", .type "BaseException", .type "object"] true sn sub ab col dd k0 k1 k2 k3 k5 "Exception.__new__") ∧ PySem.W.nsIn K mainGlobals "SightError" = some (some (.ref SE)) ∧ SE ≠ C

mutual
def Rep (K : PySem.W.Frag) (I : Hp) (dk : Addr) : D → V → Prop
  | .non, v => v = .non
  | .bl b, v => v = .bl b
  | .int i, v => v = .int i
  | .str x, v => v = .str x
  | .tup ds, v => ∃ a vs, v = .ref a ∧ I a = some (.tup vs) ∧ RepL K I dk ds vs
  | .lst ds, v => ∃ a vs, v = .ref a ∧ I a = some (.lst vs) ∧ RepL K I dk ds vs
  | .dK kvs, v => ∃ a ws, v = .ref a ∧ I a = some (.dK ws) ∧ RepK K I dk kvs ws
  | .dT kvs, v => ∃ a ws, v = .ref a ∧ I a = some (.dT ws) ∧ RepT K I dk kvs ws
  | .deck, v => v = .ref dk
  | .exc c d, v => ∃ a C dx w, v = .ref a ∧ ClsOf K c C ∧ I a = some (exo a C (some dx)) ∧ I dx = some (exd dx [(errFld c, w)]) ∧ Rep K I dk d w
  | .fK kvs, v => ∃ a ws o, v = .ref a ∧ I a = some (.frz o (.dK ws)) ∧ RepK K I dk kvs ws
def RepL (K : PySem.W.Frag) (I : Hp) (dk : Addr) : List D → List V → Prop
  | [], vs => vs = []
  | d :: ds, vs => ∃ v r, vs = v :: r ∧ Rep K I dk d v ∧ RepL K I dk ds r
def RepK (K : PySem.W.Frag) (I : Hp) (dk : Addr) : List (Key × D) → List (Key × V) → Prop
  | [], vs => vs = []
  | (k, d) :: ds, vs => ∃ v r, vs = (k, v) :: r ∧ Rep K I dk d v ∧ RepK K I dk ds r
def RepT (K : PySem.W.Frag) (I : Hp) (dk : Addr) : List (List Key × D) → List (List Key × V) → Prop
  | [], vs => vs = []
  | (k, d) :: ds, vs => ∃ v r, vs = (k, v) :: r ∧ Rep K I dk d v ∧ RepT K I dk ds r
end

/-- all that was tracked is as it was -/
def Sm (H H' : Hp) : Prop := ∀ b o, H b = some o → H' b = some o
theorem Sm.refl (H : Hp) : Sm H H := fun _ _ h => h
theorem Sm.trans {H H1 H2 : Hp} (a : Sm H H1) (b : Sm H1 H2) : Sm H H2 := fun c o h => b c o (a c o h)
theorem Sm.upd {H : Hp} {p : Addr} {o : HO} (h : H p = none) : Sm H (L2.upd H p o) := fun b x e => by
  rw [upd_ne (ne_of_none e h)]
  exact e
theorem Sm.upd2 {I H : Hp} {p : Addr} {o : HO} (h : Sm I H) : Sm (L2.upd I p o) (L2.upd H p o) := fun b x e => by
  by_cases hb : b = p
  · subst hb; rw [upd_same] at e ⊢; exact e
  · rw [upd_ne hb] at e ⊢; exact h b x e
theorem Sm.off {I H : Hp} {p : Addr} {o : HO} (h : Sm I H) (n : I p = none) : Sm I (L2.upd H p o) := fun b x e => by
  have hb : b ≠ p := ne_of_none e n
  rw [upd_ne hb]
  exact h b x e
theorem Sm.none {I H : Hp} {p : Addr} (h : Sm I H) (n : H p = Option.none) : I p = Option.none := by
  cases q : I p with
  | none => rfl
  | some o => rw [h p o q] at n; cases n
theorem Sm.sqL {K : PySem.W.Frag} {H H' : Hp} {a : Addr} {xs : List V} (e : Sm H H') (h : SqL K H a xs) : SqL K H' a xs := by
  rcases h with (h | ⟨o, h⟩) | h
  · exact .inl (.inl (e _ _ h))
  · exact .inl (.inr ⟨o, e _ _ h⟩)
  · exact .inr h
theorem Sm.sqT {K : PySem.W.Frag} {H H' : Hp} {a : Addr} {xs : List V} (e : Sm H H') (h : SqT K H a xs) : SqT K H' a xs := by
  rcases h with (h | ⟨o, h⟩) | h
  · exact .inl (.inl (e _ _ h))
  · exact .inl (.inr ⟨o, e _ _ h⟩)
  · exact .inr h

section
variable {K : PySem.W.Frag} {I I' H H' : Hp} {dk l : Addr}
mutual
theorem Rep.mono (e : Sm I I') : ∀ (d : D) (v : V), Rep K I dk d v → Rep K I' dk d v
  | .non, _, h => h
  | .bl _, _, h => h
  | .int _, _, h => h
  | .str _, _, h => h
  | .tup ds, _, h => by
    obtain ⟨a, vs, e1, e2, e3⟩ := h
    exact ⟨a, vs, e1, e _ _ e2, RepL.mono e ds vs e3⟩
  | .lst ds, _, h => by
    obtain ⟨a, vs, e1, e2, e3⟩ := h
    exact ⟨a, vs, e1, e _ _ e2, RepL.mono e ds vs e3⟩
  | .dK ds, _, h => by
    obtain ⟨a, vs, e1, e2, e3⟩ := h
    exact ⟨a, vs, e1, e _ _ e2, RepK.mono e ds vs e3⟩
  | .dT ds, _, h => by
    obtain ⟨a, vs, e1, e2, e3⟩ := h
    exact ⟨a, vs, e1, e _ _ e2, RepT.mono e ds vs e3⟩
  | .deck, _, h => h
  | .exc _ d, _, h => by
    obtain ⟨a, C, dx, w, e1, e2, e3, e4, e5⟩ := h
    exact ⟨a, C, dx, w, e1, e2, e _ _ e3, e _ _ e4, Rep.mono e d w e5⟩
  | .fK ds, _, h => by
    obtain ⟨a, vs, o, e1, e2, e3⟩ := h
    exact ⟨a, vs, o, e1, e _ _ e2, RepK.mono e ds vs e3⟩
theorem RepL.mono (e : Sm I I') : ∀ (ds : List D) (vs : List V), RepL K I dk ds vs → RepL K I' dk ds vs
  | [], _, h => h
  | d :: ds, _, h => by
    obtain ⟨v, r, e1, e2, e3⟩ := h
    exact ⟨v, r, e1, Rep.mono e d v e2, RepL.mono e ds r e3⟩
theorem RepK.mono (e : Sm I I') : ∀ (ds : List (Key × D)) (vs : List (Key × V)), RepK K I dk ds vs → RepK K I' dk ds vs
  | [], _, h => h
  | (k, d) :: ds, _, h => by
    obtain ⟨v, r, e1, e2, e3⟩ := h
    exact ⟨v, r, e1, Rep.mono e d v e2, RepK.mono e ds r e3⟩
theorem RepT.mono (e : Sm I I') : ∀ (ds : List (List Key × D)) (vs : List (List Key × V)), RepT K I dk ds vs → RepT K I' dk ds vs
  | [], _, h => h
  | (k, d) :: ds, _, h => by
    obtain ⟨v, r, e1, e2, e3⟩ := h
    exact ⟨v, r, e1, Rep.mono e d v e2, RepT.mono e ds r e3⟩
end
theorem RepL.length : ∀ {ds : List D} {vs : List V}, RepL K I dk ds vs → ds.length = vs.length
  | [], _, h => by rw [show _ = [] from h]; rfl
  | d :: ds, _, h => by
    obtain ⟨v, r, rfl, _, e3⟩ := h
    rw [List.length_cons, List.length_cons, RepL.length e3]
theorem RepL.get : ∀ {ds : List D} {vs : List V} {i : Nat} {d : D}, RepL K I dk ds vs → ds[i]? = some d → ∃ v, vs[i]? = some v ∧ Rep K I dk d v
  | [], _, _, _, _, e => by simp at e
  | d :: ds, _, 0, d', h, e => by
    obtain ⟨v, r, rfl, e2, _⟩ := h
    rw [List.getElem?_cons_zero] at e
    cases e
    exact ⟨v, rfl, e2⟩
  | d :: ds, _, i + 1, d', h, e => by
    obtain ⟨v, r, rfl, _, e3⟩ := h
    rw [List.getElem?_cons_succ] at e ⊢
    exact RepL.get e3 e
theorem RepL.append : ∀ {ds es : List D} {vs ws : List V}, RepL K I dk ds vs → RepL K I dk es ws → RepL K I dk (ds ++ es) (vs ++ ws)
  | [], _, _, _, h, h' => by rw [show _ = [] from h]; exact h'
  | d :: ds, _, _, _, h, h' => by
    obtain ⟨v, r, rfl, e2, e3⟩ := h
    exact ⟨v, _, rfl, e2, RepL.append e3 h'⟩
theorem RepL.one {d : D} {v : V} (h : Rep K I dk d v) : RepL K I dk [d] [v] := ⟨v, [], rfl, h, rfl⟩
theorem RepL.take : ∀ {ds : List D} {vs : List V} (n : Nat), RepL K I dk ds vs → RepL K I dk (ds.take n) (vs.take n)
  | _, _, 0, _ => rfl
  | [], _, n + 1, h => by rw [show _ = [] from h]; rfl
  | d :: ds, _, n + 1, h => by
    obtain ⟨v, r, rfl, e2, e3⟩ := h
    exact ⟨v, _, rfl, e2, RepL.take n e3⟩
theorem RepL.drop : ∀ {ds : List D} {vs : List V} (n : Nat), RepL K I dk ds vs → RepL K I dk (ds.drop n) (vs.drop n)
  | _, _, 0, h => h
  | [], _, n + 1, h => by rw [show _ = [] from h]; rfl
  | d :: ds, _, n + 1, h => by
    obtain ⟨v, r, rfl, e2, e3⟩ := h
    exact RepL.drop n e3
theorem RepL.set : ∀ {ds : List D} {vs : List V} {d : D} {v : V} (i : Nat), RepL K I dk ds vs → Rep K I dk d v → RepL K I dk (ds.set i d) (vs.set i v)
  | [], _, _, _, _, h, _ => by rw [show _ = [] from h]; rfl
  | a :: ds, _, d, v, 0, h, hr => by
    obtain ⟨w, r, rfl, e2, e3⟩ := h
    exact ⟨v, r, rfl, hr, e3⟩
  | a :: ds, _, d, v, i + 1, h, hr => by
    obtain ⟨w, r, rfl, e2, e3⟩ := h
    exact ⟨w, _, rfl, e2, RepL.set i e3 hr⟩
theorem RepL.reverse : ∀ {ds : List D} {vs : List V}, RepL K I dk ds vs → RepL K I dk ds.reverse vs.reverse
  | [], _, h => by rw [show _ = [] from h]; rfl
  | d :: ds, _, h => by
    obtain ⟨v, r, rfl, e2, e3⟩ := h
    rw [List.reverse_cons, List.reverse_cons]
    exact RepL.append (RepL.reverse e3) (RepL.one e2)
theorem RepL.ints : ∀ (ns : List Int), RepL K I dk (ns.map D.int) (ns.map V.int)
  | [] => rfl
  | n :: ns => ⟨_, _, rfl, rfl, RepL.ints ns⟩
theorem RepL.ints_of : ∀ {ns : List Int} {vs : List V}, RepL K I dk (ns.map D.int) vs → vs = ns.map V.int
  | [], _, h => h
  | n :: ns, _, h => by
    obtain ⟨v, r, rfl, e2, e3⟩ := h
    rw [show v = _ from e2, RepL.ints_of e3]
    rfl
end

/-! ### the mirror's monad -/
/-- the deck: what is left, and its two figures -/
structure Dk where
  left : List Int
  mixed : Int
  draws : Int
inductive Res (α : Type) where
  | bad
  | ok (a : α) (s : Dk)
  | exc (c : Nat) (d : D) (s : Dk)
abbrev M (α : Type) := Dk → Res α
def Res.andThen {α β : Type} (r : Res α) (f : α → M β) : Res β := match r with
  | .bad => .bad
  | .ok a s => f a s
  | .exc c d s => .exc c d s
def ret {α : Type} (a : α) : M α := fun s => .ok a s
def bad {α : Type} : M α := fun _ => .bad
def andThen {α β : Type} (m : M α) (f : α → M β) : M β := fun s => (m s).andThen f
def opt {α : Type} : Option α → M α
  | some a => ret a
  | none => bad
end PV

end

section
set_option maxRecDepth 100000
namespace PV
open PySem PySem.Spec PyProof.Rows L2

/-! ### the world -/
def deckO (l : Addr) (s : Dk) : HO := .dK [(.inr "left", .ref l), (.inr "mixed", .int s.mixed), (.inr "draws", .int s.draws)]
structure Wo (dk l : Addr) (I H : Hp) (s : Dk) : Prop where
  sub : Sm I H
  dko : H dk = some (deckO l s)
  lft : H l = some (.lst (s.left.map V.int))
  idk : I dk = none
  il : I l = none
theorem Wo.ne {dk l : Addr} {I H : Hp} {s : Dk} (w : Wo dk l I H s) : dk ≠ l := ne_of w.dko w.lft (by intro z; cases z)
/-- nothing there, or a tuple -/
def NoT (H : Hp) (a : Addr) : Prop := H a = none ∨ ∃ vs, H a = some (.tup vs)
theorem NoT.lst {H : Hp} {a : Addr} {vs : List V} (h : NoT H a) (e : H a = some (.lst vs)) : False := by
  rcases h with h | ⟨ws, h⟩
  · rw [e] at h; cases h
  · rw [e] at h; cases h
theorem NoT.dK {H : Hp} {a : Addr} {vs : List (Key × V)} (h : NoT H a) (e : H a = some (.dK vs)) : False := by
  rcases h with h | ⟨ws, h⟩
  · rw [e] at h; cases h
  · rw [e] at h; cases h
theorem NoT.dT {H : Hp} {a : Addr} {vs : List (List Key × V)} (h : NoT H a) (e : H a = some (.dT vs)) : False := by
  rcases h with h | ⟨ws, h⟩
  · rw [e] at h; cases h
  · rw [e] at h; cases h
/-- the heap grows: what stood stands, but for the deck -/
structure Ext (dk l : Addr) (I H I' H' : Hp) : Prop where
  grow : Sm I I'
  keep : ∀ a o, H a = some o → a ≠ dk → a ≠ l → H' a = some o
  fresh : ∀ a o, I' a = some o → I a = none → NoT H a
theorem Ext.refl {dk l : Addr} {I H : Hp} : Ext dk l I H I H := ⟨Sm.refl I, fun _ _ h _ _ => h, fun a o h n => by rw [h] at n; cases n⟩
theorem Ext.trans {dk l : Addr} {I H I1 H1 I2 H2 : Hp} {s : Dk} (a : Ext dk l I H I1 H1) (b : Ext dk l I1 H1 I2 H2) (w : Wo dk l I2 H2 s) : Ext dk l I H I2 H2 where
  grow := a.grow.trans b.grow
  keep := fun c o h n1 n2 => b.keep c o (a.keep c o h n1 n2) n1 n2
  fresh := fun c o h n => by
    by_cases h1 : c = dk
    · subst h1; rw [w.idk] at h; cases h
    · by_cases h2 : c = l
      · subst h2; rw [w.il] at h; cases h
      · cases q : I1 c with
        | some u => exact a.fresh c u q n
        | none =>
          have n1 := b.fresh c o h q
          cases r : H c with
          | none => exact .inl r
          | some u =>
            have k := a.keep c u r h1 h2
            rcases n1 with n1 | ⟨vs, n1⟩
            · rw [k] at n1; cases n1
            · rw [k] at n1; cases n1; exact .inr ⟨vs, r⟩
/-- a new frozen object -/
theorem Ext.new {dk l p : Addr} {I H : Hp} {o : HO} {s : Dk} (w : Wo dk l I H s) (n : H p = none) : Ext dk l I H (upd I p o) (upd H p o) where
  grow := Sm.upd (w.sub.none n)
  keep := fun c u h _ _ => by rw [upd_ne (ne_of_none h n)]; exact h
  fresh := fun c u h k => by
    by_cases hc : c = p
    · subst hc; exact .inl n
    · rw [upd_ne hc, k] at h; cases h
theorem Wo.new {dk l p : Addr} {I H : Hp} {o : HO} {s : Dk} (w : Wo dk l I H s) (n : H p = none) : Wo dk l (upd I p o) (upd H p o) s where
  sub := w.sub.upd2
  dko := by rw [upd_ne (ne_of_none w.dko n)]; exact w.dko
  lft := by rw [upd_ne (ne_of_none w.lft n)]; exact w.lft
  idk := by rw [upd_ne (ne_of_none w.dko n)]; exact w.idk
  il := by rw [upd_ne (ne_of_none w.lft n)]; exact w.il
/-- a new object that is not frozen -/
theorem Ext.off {dk l p : Addr} {I H : Hp} {o : HO} {s : Dk} (w : Wo dk l I H s) (n : H p = none) : Ext dk l I H I (upd H p o) where
  grow := Sm.refl I
  keep := fun c u h _ _ => by rw [upd_ne (ne_of_none h n)]; exact h
  fresh := fun c u h k => by rw [h] at k; cases k
theorem Wo.off {dk l p : Addr} {I H : Hp} {o : HO} {s : Dk} (w : Wo dk l I H s) (n : I p = none) (n1 : p ≠ dk) (n2 : p ≠ l) : Wo dk l I (upd H p o) s where
  sub := w.sub.off n
  dko := by rw [upd_ne n1.symm]; exact w.dko
  lft := by rw [upd_ne n2.symm]; exact w.lft
  idk := w.idk
  il := w.il

/-! ### the slots -/
inductive OD where
  | lst (ds : List D) | dK (kvs : List (Key × D)) | dT (kvs : List (List Key × D))
def OD.d : OD → D
  | .lst ds => .lst ds
  | .dK k => .dK k
  | .dT k => .dT k
def OwnAt (K : PySem.W.Frag) (I H : Hp) (dk p : Addr) : OD → Prop
  | .lst ds => ∃ vs, H p = some (.lst vs) ∧ RepL K I dk ds vs
  | .dK ds => ∃ vs, H p = some (.dK vs) ∧ RepK K I dk ds vs
  | .dT ds => ∃ vs, H p = some (.dT vs) ∧ RepT K I dk ds vs
theorem OwnAt.ho {K : PySem.W.Frag} {I H : Hp} {dk p : Addr} : ∀ {o : OD}, OwnAt K I H dk p o → ∃ u, H p = some u
  | .lst _, ⟨_, h, _⟩ => ⟨_, h⟩
  | .dK _, ⟨_, h, _⟩ => ⟨_, h⟩
  | .dT _, ⟨_, h, _⟩ => ⟨_, h⟩
theorem OwnAt.move {K : PySem.W.Frag} {I H I' H' : Hp} {dk p : Addr} (e : Sm I I') (k : ∀ u, H p = some u → H' p = some u) : ∀ {o : OD}, OwnAt K I H dk p o → OwnAt K I' H' dk p o
  | .lst _, ⟨_, h, r⟩ => ⟨_, k _ h, RepL.mono e _ _ r⟩
  | .dK _, ⟨_, h, r⟩ => ⟨_, k _ h, RepK.mono e _ _ r⟩
  | .dT _, ⟨_, h, r⟩ => ⟨_, k _ h, RepT.mono e _ _ r⟩
theorem OwnAt.noT {K : PySem.W.Frag} {I H : Hp} {dk p : Addr} : ∀ {o : OD}, OwnAt K I H dk p o → NoT H p → False
  | .lst _, ⟨_, h, _⟩, n => n.lst h
  | .dK _, ⟨_, h, _⟩, n => n.dK h
  | .dT _, ⟨_, h, _⟩, n => n.dT h
inductive Slot where
  | no | val (d : D) | own (o : OD)
abbrev En := List Slot
structure EnvOk (K : PySem.W.Frag) (dk l : Addr) (I H : Hp) (env : En) (σ : L2.St) : Prop where
  len : env.length = σ.length
  val : ∀ (i : Nat) (d : D), env[i]? = some (.val d) → ∃ v, σ[i]? = some (some v) ∧ Rep K I dk d v
  own : ∀ (i : Nat) (o : OD), env[i]? = some (.own o) → ∃ p, σ[i]? = some (some (.ref p)) ∧ OwnAt K I H dk p o ∧ p ≠ dk ∧ p ≠ l ∧ I p = none
  sep : ∀ (i j : Nat) (o u : OD) (p : Addr), env[i]? = some (.own o) → env[j]? = some (.own u) → σ[i]? = some (some (.ref p)) → σ[j]? = some (some (.ref p)) → i = j
section
variable {K : PySem.W.Frag} {dk l : Addr} {I H I' H' : Hp} {env : En} {σ : L2.St} {s s' : Dk}
theorem EnvOk.ext (e : EnvOk K dk l I H env σ) (x : Ext dk l I H I' H') : EnvOk K dk l I' H' env σ where
  len := e.len
  val := fun i d h => let ⟨v, h1, h2⟩ := e.val i d h; ⟨v, h1, Rep.mono x.grow d v h2⟩
  own := fun i o h => by
    obtain ⟨p, h1, h2, h3, h4, h5⟩ := e.own i o h
    refine ⟨p, h1, h2.move x.grow fun u q => x.keep p u q h3 h4, h3, h4, ?_⟩
    cases q : I' p with
    | none => rfl
    | some u =>
      exact (h2.noT (x.fresh p u q h5)).elim
  sep := e.sep
theorem EnvOk.set {i : Nat} {d : D} {v : V} (e : EnvOk K dk l I H env σ) (r : Rep K I dk d v) : EnvOk K dk l I H (env.set i (.val d)) (σ.set i (some v)) where
  len := by rw [List.length_set, List.length_set]; exact e.len
  val := fun j d' h => by
    by_cases hj : i = j
    · subst hj
      by_cases hl : i < env.length
      · rw [List.getElem?_set_self hl] at h
        cases h
        exact ⟨v, List.getElem?_set_self (by rw [← e.len]; exact hl), r⟩
      · rw [List.getElem?_eq_none (by rw [List.length_set]; omega)] at h; cases h
    · rw [List.getElem?_set_ne hj] at h ⊢
      exact e.val j d' h
  own := fun j o h => by
    by_cases hj : i = j
    · subst hj
      by_cases hl : i < env.length
      · rw [List.getElem?_set_self hl] at h; cases h
      · rw [List.getElem?_eq_none (by rw [List.length_set]; omega)] at h; cases h
    · rw [List.getElem?_set_ne hj] at h ⊢
      exact e.own j o h
  sep := fun j k o u p h1 h2 h3 h4 => by
    have hj : i ≠ j := fun z => by
      subst z
      by_cases hl : i < env.length
      · rw [List.getElem?_set_self hl] at h1; cases h1
      · rw [List.getElem?_eq_none (by rw [List.length_set]; omega)] at h1; cases h1
    have hk : i ≠ k := fun z => by
      subst z
      by_cases hl : i < env.length
      · rw [List.getElem?_set_self hl] at h2; cases h2
      · rw [List.getElem?_eq_none (by rw [List.length_set]; omega)] at h2; cases h2
    rw [List.getElem?_set_ne hj] at h1 h3
    rw [List.getElem?_set_ne hk] at h2 h4
    exact e.sep j k o u p h1 h2 h3 h4
theorem EnvOk.setNo {i : Nat} {v : Option V} (e : EnvOk K dk l I H env σ) : EnvOk K dk l I H (env.set i .no) (σ.set i v) where
  len := by rw [List.length_set, List.length_set]; exact e.len
  val := fun j d' h => by
    by_cases hj : i = j
    · subst hj
      by_cases hl : i < env.length
      · rw [List.getElem?_set_self hl] at h; cases h
      · rw [List.getElem?_eq_none (by rw [List.length_set]; omega)] at h; cases h
    · rw [List.getElem?_set_ne hj] at h ⊢
      exact e.val j d' h
  own := fun j o h => by
    by_cases hj : i = j
    · subst hj
      by_cases hl : i < env.length
      · rw [List.getElem?_set_self hl] at h; cases h
      · rw [List.getElem?_eq_none (by rw [List.length_set]; omega)] at h; cases h
    · rw [List.getElem?_set_ne hj] at h ⊢
      exact e.own j o h
  sep := fun j k o u p h1 h2 h3 h4 => by
    have hj : i ≠ j := fun z => by
      subst z
      by_cases hl : i < env.length
      · rw [List.getElem?_set_self hl] at h1; cases h1
      · rw [List.getElem?_eq_none (by rw [List.length_set]; omega)] at h1; cases h1
    have hk : i ≠ k := fun z => by
      subst z
      by_cases hl : i < env.length
      · rw [List.getElem?_set_self hl] at h2; cases h2
      · rw [List.getElem?_eq_none (by rw [List.length_set]; omega)] at h2; cases h2
    rw [List.getElem?_set_ne hj] at h1 h3
    rw [List.getElem?_set_ne hk] at h2 h4
    exact e.sep j k o u p h1 h2 h3 h4
/-- a new own object at slot i, or the own object at slot i changed -/
theorem EnvOk.setOwn {i : Nat} {o : OD} {p : Addr} (e : EnvOk K dk l I H env σ) (h : OwnAt K I H' dk p o) (n1 : p ≠ dk) (n2 : p ≠ l) (n3 : I p = none)
    (k : ∀ q u, q ≠ p → H q = some u → H' q = some u) (ap : ∀ j u, j ≠ i → env[j]? = some (.own u) → σ[j]? ≠ some (some (.ref p))) : EnvOk K dk l I H' (env.set i (.own o)) (σ.set i (some (.ref p))) where
  len := by rw [List.length_set, List.length_set]; exact e.len
  val := fun j d' h => by
    by_cases hj : i = j
    · subst hj
      by_cases hl : i < env.length
      · rw [List.getElem?_set_self hl] at h; cases h
      · rw [List.getElem?_eq_none (by rw [List.length_set]; omega)] at h; cases h
    · rw [List.getElem?_set_ne hj] at h ⊢
      exact e.val j d' h
  own := fun j u hh => by
    by_cases hj : i = j
    · subst hj
      by_cases hl : i < env.length
      · rw [List.getElem?_set_self hl] at hh
        cases hh
        exact ⟨p, List.getElem?_set_self (by rw [← e.len]; exact hl), h, n1, n2, n3⟩
      · rw [List.getElem?_eq_none (by rw [List.length_set]; omega)] at hh; cases hh
    · rw [List.getElem?_set_ne hj] at hh ⊢
      obtain ⟨q, h1, h2, h3, h4, h5⟩ := e.own j u hh
      have hq : q ≠ p := fun z => ap j u (Ne.symm hj) hh (by rw [h1, z])
      exact ⟨q, h1, h2.move (Sm.refl I) fun w z => k q w hq z, h3, h4, h5⟩
  sep := fun j m u w q h1 h2 h3 h4 => by
    by_cases hj : i = j
    · by_cases hm : i = m
      · exact hj.symm.trans hm
      · exfalso
        subst hj
        rw [List.getElem?_set_ne hm] at h2 h4
        have hl : i < env.length := by
          rcases Nat.lt_or_ge i env.length with z | z
          · exact z
          · rw [List.getElem?_eq_none (by rw [List.length_set]; omega)] at h1; cases h1
        rw [List.getElem?_set_self (by rw [← e.len]; exact hl)] at h3
        have hq : q = p := by
          injection h3 with z
          injection z with z
          injection z with z
          exact z.symm
        exact ap m w (Ne.symm hm) h2 (by rw [h4, hq])
    · by_cases hm : i = m
      · exfalso
        subst hm
        rw [List.getElem?_set_ne hj] at h1 h3
        have hl : i < env.length := by
          rcases Nat.lt_or_ge i env.length with z | z
          · exact z
          · rw [List.getElem?_eq_none (by rw [List.length_set]; omega)] at h2; cases h2
        rw [List.getElem?_set_self (by rw [← e.len]; exact hl)] at h4
        have hq : q = p := by
          injection h4 with z
          injection z with z
          injection z with z
          exact z.symm
        exact ap j u (Ne.symm hj) h1 (by rw [h3, hq])
      · rw [List.getElem?_set_ne hj] at h1 h3
        rw [List.getElem?_set_ne hm] at h2 h4
        exact e.sep j m u w q h1 h2 h3 h4
end

/-! ### readings by the mirror -/
def Post {α : Type} (r : Res α) (P : α → Dk → Prop) (E : Nat → D → Dk → Prop) : Prop := match r with
  | .bad => False
  | .ok a s => P a s
  | .exc c d s => E c d s
theorem Post.mono {α : Type} {r : Res α} {P P' : α → Dk → Prop} {E E' : Nat → D → Dk → Prop} (h : Post r P E) (i : ∀ a s, P a s → P' a s) (j : ∀ c d s, E c d s → E' c d s) : Post r P' E' := by
  cases r with
  | bad => exact h
  | ok a s => exact i a s h
  | exc c d s => exact j c d s h
theorem Post.bind {α β : Type} {m : M α} {f : α → M β} {s : Dk} {P : β → Dk → Prop} {E : Nat → D → Dk → Prop} (h : Post (andThen m f s) P E) : Post (m s) (fun a s1 => Post (f a s1) P E) E := by
  show Post (m s) _ _
  unfold andThen at h
  cases q : m s with
  | bad => rw [q] at h; exact h
  | ok a s1 => rw [q] at h; exact h
  | exc c d s1 => rw [q] at h; exact h
theorem Post.opt {α : Type} {o : Option α} {s : Dk} {P : α → Dk → Prop} {E : Nat → D → Dk → Prop} (h : Post (PV.opt o s) P E) : ∃ a, o = some a ∧ P a s := by
  cases o with
  | none => exact h.elim
  | some a => exact ⟨a, rfl, h⟩
section
variable (K : PySem.W.Frag) (dk l : Addr) (W : WX)
/-- what an exception of class c with d is, by the value of its class and the address of its dict -/
def RepX (I : Hp) (c : Nat) (d : D) (cls : Value) (dd : Option Addr) : Prop := ∃ (C da : Addr) (v : V), cls = .ref C ∧ ClsOf K c C ∧ dd = some da ∧ I da = some (.xd [((if c = 14 then "certificate" else "thing" : Str), v)]) ∧ Rep K I dk d v
def exQ (I H : Hp) (σ : L2.St) : Nat → D → Dk → Prop := fun c d s' => ∀ cls dd I' H', Ext dk l I H I' H' → Wo dk l I' H' s' → RepX K dk I' c d cls dd → W cls dd σ H'
variable {K dk l W} in
theorem exQ.shift {I H I1 H1 : Hp} {σ : L2.St} {c : Nat} {d : D} {s : Dk} (x : Ext dk l I H I1 H1) (h : exQ K dk l W I H σ c d s) : exQ K dk l W I1 H1 σ c d s := fun cls dd I2 H2 x2 w2 => h cls dd I2 H2 (x.trans x2 w2) w2
def lift (m : En → M D) : TE := fun σ H Q => ∃ I env s, EnvOk K dk l I H env σ ∧ Wo dk l I H s ∧ Post (m env s) (fun d s' => ∀ v I' H', Ext dk l I H I' H' → Wo dk l I' H' s' → Rep K I' dk d v → Q v H') (exQ K dk l W I H σ)
def liftT (m : En → M Bool) : TT := fun σ H Q => ∃ I env s, EnvOk K dk l I H env σ ∧ Wo dk l I H s ∧ Post (m env s) (fun b s' => ∀ I' H', Ext dk l I H I' H' → Wo dk l I' H' s' → Q b H') (exQ K dk l W I H σ)
def liftA (m : En → M (List D)) : TA := fun σ H Q => ∃ I env s, EnvOk K dk l I H env σ ∧ Wo dk l I H s ∧ Post (m env s) (fun ds s' => ∀ vs I' H', Ext dk l I H I' H' → Wo dk l I' H' s' → RepL K I' dk ds vs → Q vs H') (exQ K dk l W I H σ)
/-- .. whose value is an object of one's own -/
def liftO (m : En → M OD) : TE := fun σ H Q => ∃ I env s, EnvOk K dk l I H env σ ∧ Wo dk l I H s ∧
  Post (m env s) (fun o s' => ∀ p I' H', Ext dk l I H I' H' → Wo dk l I' H' s' → H p = none → OwnAt K I' H' dk p o → p ≠ dk → p ≠ l → I' p = none → Q (.ref p) H') (exQ K dk l W I H σ)
end
/-- a stronger reading does -/
theorem PE_imp {X : Cx} {e : Expr} {t t' : TE} (h : PE X e t) (i : ∀ σ H Q, t' σ H Q → t σ H Q) : PE X e t' := ⟨fun pins s σ H Q J q => h.run pins s σ H Q J (i σ H Q q)⟩
theorem PT_imp {X : Cx} {e : Expr} {t t' : TT} (h : PT X e t) (i : ∀ σ H Q, t' σ H Q → t σ H Q) : PT X e t' := ⟨fun pins s σ H Q J q => h.run pins s σ H Q J (i σ H Q q)⟩
theorem PW_imp {X : Cx} {e : Expr} {t t' : TT} (h : PW X e t) (i : ∀ σ H Q, t' σ H Q → t σ H Q) : PW X e t' := ⟨fun wh pins s σ H Q J q => h.run wh pins s σ H Q J (i σ H Q q)⟩
theorem PA_imp {X : Cx} {e : List Expr} {t t' : TA} (h : PA X e t) (i : ∀ σ H Q, t' σ H Q → t σ H Q) : PA X e t' := ⟨fun pos pins s σ H Q J q => h.run pos pins s σ H Q J (i σ H Q q)⟩
theorem PS_imp {X : Cx} {e : Stmt} {t t' : TS} (h : PS X e t) (i : ∀ D σ H, t' D σ H → t D σ H) : PS X e t' := ⟨fun pins s σ H Q J q => h.run pins s σ H Q J (i Q σ H q)⟩
theorem PSs_imp {X : Cx} {e : List Stmt} {t t' : TS} (h : PSs X e t) (i : ∀ D σ H, t' D σ H → t D σ H) : PSs X e t' := ⟨fun pins s σ H Q J q => h.run pins s σ H Q J (i Q σ H q)⟩

/-! ### the mirror's pieces: expressions -/
def eVar (i : Nat) : En → M D := fun env => match env[i]? with
  | some (.val d) => ret d
  | _ => bad
def eC (d : D) : En → M D := fun _ => ret d
def eOp (g : D → D → Option D) (a b : En → M D) : En → M D := fun env => andThen (a env) fun x => andThen (b env) fun y => opt (g x y)
def eUn (g : D → Option D) (a : En → M D) : En → M D := fun env => andThen (a env) fun x => opt (g x)
def eIf (t : En → M Bool) (a b : En → M D) : En → M D := fun env => andThen (t env) fun c => if c = true then a env else b env
def eAnil : En → M (List D) := fun _ => ret []
def eAcons (a : En → M D) (r : En → M (List D)) : En → M (List D) := fun env => andThen (a env) fun x => andThen (r env) fun xs => ret (x :: xs)
def eMapA (g : List D → Option D) (a : En → M (List D)) : En → M D := fun env => andThen (a env) fun xs => opt (g xs)
def eMapO (g : List D → Option OD) (a : En → M (List D)) : En → M OD := fun env => andThen (a env) fun xs => opt (g xs)
def eCall (F : List D → M D) (a : En → M (List D)) : En → M D := fun env => andThen (a env) fun xs => F xs
/-- an own object as a value -/
def eFrz (m : En → M OD) : En → M D := fun env => andThen (m env) fun o => ret o.d
def tAnd' (a b : En → M Bool) : En → M Bool := fun env => andThen (a env) fun c => if c = true then b env else ret false
def tOr' (a b : En → M Bool) : En → M Bool := fun env => andThen (a env) fun c => if c = true then ret true else b env
def tNot' (a : En → M Bool) : En → M Bool := fun env => andThen (a env) fun c => ret (!c)
/-- a value's truth -/
def truD : D → Option Bool
  | .non => some false
  | .bl b => some b
  | .int i => some (i != 0)
  | .tup ds => some (!ds.isEmpty)
  | .lst ds => some (!ds.isEmpty)
  | _ => none
def tVal (a : En → M D) : En → M Bool := fun env => andThen (a env) fun x => opt (match x with | .bl b => some b | _ => none)
def tTru (a : En → M D) : En → M Bool := fun env => andThen (a env) fun x => opt (truD x)

section
variable {X : Cx} {dk l : Addr} {W : WX} {pos : Pos}
theorem r_var (i : Nat) {x : Str} {ta : TE} (h : PE X (.Name x pos) (tVar i)) : PE X (.Name x pos) (lift X.K dk l W (eVar i)) := PE_imp h fun σ H Q ⟨I, env, s, e, w, q⟩ => by
  unfold eVar at q
  cases hd : env[i]? with
  | none => rw [hd] at q; exact q.elim
  | some z =>
    rw [hd] at q
    cases z with
    | no => exact q.elim
    | own o => exact q.elim
    | val d =>
      obtain ⟨v, h1, h2⟩ := e.val i d hd
      exact ⟨v, h1, q v I H Ext.refl w h2⟩
theorem r_const {d : D} {v : V} {e : Expr} (h : PE X e (tC v)) (r : ∀ I, Rep X.K I dk d v) : PE X e (lift X.K dk l W (eC d)) := PE_imp h fun σ H Q ⟨I, env, s, e, w, q⟩ => q v I H Ext.refl w (r I)
/-- an operation of two values -/
def OpD (X : Cx) (dk l : Addr) (f : Value → Value → Sem Value) (g : D → D → Option D) : Prop := ∃ r : R2, OpR X f r ∧ ∀ I H s x y v u d Q, Wo dk l I H s → Rep X.K I dk x v → Rep X.K I dk y u → g x y = some d →
  (∀ w I' H', Ext dk l I H I' H' → Wo dk l I' H' s → Rep X.K I' dk d w → Q w H') → r v u H Q
theorem bin_lift {ma mb : En → M D} {g : D → D → Option D} {r : R2} (hr : ∀ I H s x y v u d Q, Wo dk l I H s → Rep X.K I dk x v → Rep X.K I dk y u → g x y = some d →
    (∀ w I' H', Ext dk l I H I' H' → Wo dk l I' H' s → Rep X.K I' dk d w → Q w H') → r v u H Q) (σ : L2.St) (H : Hp) (Q : VK) (h : lift X.K dk l W (eOp g ma mb) σ H Q) : tOp r (lift X.K dk l W ma) (lift X.K dk l W mb) σ H Q := by
  obtain ⟨I, env, s, e, w, q⟩ := h
  refine ⟨I, env, s, e, w, q.bind.mono (fun x s1 q v I1 H1 x1 w1 r1 => ?_) fun _ _ _ h => h⟩
  refine ⟨I1, env, s1, e.ext x1, w1, q.bind.mono (fun y s2 q u I2 H2 x2 w2 r2 => ?_) fun _ _ _ h => h.shift x1⟩
  obtain ⟨d, e3, q⟩ := q.opt
  exact hr I2 H2 s2 x y v u d Q w2 (Rep.mono x2.grow x v r1) r2 e3 fun z I3 H3 x3 w3 r3 => q z I3 H3 ((x1.trans x2 w2).trans x3 w3) w3 r3
theorem r_op {a b : Expr} {op : Operator} {ma mb : En → M D} {g : D → D → Option D} (o : OpD X dk l (binaryOp op) g) (ha : PE X a (lift X.K dk l W ma)) (hb : PE X b (lift X.K dk l W mb)) : PE X (.BinOp a op b pos) (lift X.K dk l W (eOp g ma mb)) := by
  obtain ⟨r, ho, hr⟩ := o
  exact PE_imp (pe_op ho ha hb) (bin_lift hr)
theorem r_cmp {a b : Expr} {op : CmpOp} {ma mb : En → M D} {g : D → D → Option D} (o : OpD X dk l (compareOp op) g) (ha : PE X a (lift X.K dk l W ma)) (hb : PE X b (lift X.K dk l W mb)) (hm : behindInMarks op b = false) : PE X (.Compare a [op] [b] pos) (lift X.K dk l W (eOp g ma mb)) := by
  obtain ⟨r, ho, hr⟩ := o
  exact PE_imp (pe_cmpR ho ha hb hm) (bin_lift hr)
/-- a test by its value -/
theorem r_tval {e : Expr} {m : En → M D} (h : PE X e (lift X.K dk l W m)) (he : ∀ whole, isTrue e X.env whole = (do let v ← whole; standAt e.pos; holding [v] (truthy v)) := by intro _; rfl) : PT X e (liftT X.K dk l W (tVal m)) := PT_imp (pt_val h he) fun σ H Q ⟨I, env, s, e, w, q⟩ => by
  refine ⟨I, env, s, e, w, q.bind.mono (fun x s1 q v I1 H1 x1 w1 r1 => ?_) fun _ _ _ h => h⟩
  obtain ⟨b, e2, q⟩ := q.opt
  cases x with
  | bl c =>
    have e3 : c = b := Option.some.inj e2
    subst e3
    exact ⟨c, r1, q I1 H1 x1 w1⟩
  | _ => cases e2
theorem r_tcmp {a b : Expr} {op : CmpOp} {ma mb : En → M D} {g : D → D → Option D} (o : OpD X dk l (compareOp op) g) (ha : PE X a (lift X.K dk l W ma)) (hb : PE X b (lift X.K dk l W mb)) (hm : behindInMarks op b = false) : PT X (.Compare a [op] [b] pos) (liftT X.K dk l W (tVal (eOp g ma mb))) := by
  obtain ⟨r, ho, hr⟩ := o
  refine PT_imp (pt_cmpR ho ha hb hm) fun σ H Q ⟨I, env, s, e, w, q⟩ => ?_
  show tOp r (lift X.K dk l W ma) (lift X.K dk l W mb) σ H fun x H1 => ∃ c, x = .bl c ∧ Q c H1
  refine bin_lift hr σ H _ ⟨I, env, s, e, w, q.bind.mono (fun x s1 q v I1 H1 x1 w1 r1 => ?_) fun _ _ _ h => h⟩
  obtain ⟨b, e2, q⟩ := q.opt
  cases x with
  | bl c =>
    have e3 : c = b := Option.some.inj e2
    subst e3
    exact ⟨c, r1, q I1 H1 x1 w1⟩
  | _ => cases e2
theorem r_not {a : Expr} {m : En → M Bool} (h : PT X a (liftT X.K dk l W m)) : PT X (.UnaryOp .Not a pos) (liftT X.K dk l W (tNot' m)) := PT_imp (pt_not h) fun σ H Q ⟨I, env, s, e, w, q⟩ => ⟨I, env, s, e, w, q.bind.mono (fun _ _ q => q) fun _ _ _ h => h⟩
theorem r_and1 {a : Expr} {m : En → M Bool} (h : PT X a (liftT X.K dk l W m)) : PW X (.BoolOp .And [a] pos) (liftT X.K dk l W m) := pw_and1 h
theorem r_or1 {a : Expr} {m : En → M Bool} (h : PT X a (liftT X.K dk l W m)) : PW X (.BoolOp .Or [a] pos) (liftT X.K dk l W m) := pw_or1 h
theorem r_and {a b : Expr} {rest : List Expr} {m n : En → M Bool} (h : PT X a (liftT X.K dk l W m)) (h2 : PW X (.BoolOp .And (b :: rest) pos) (liftT X.K dk l W n)) : PW X (.BoolOp .And (a :: b :: rest) pos) (liftT X.K dk l W (tAnd' m n)) := PW_imp (pw_and h h2) fun σ H Q ⟨I, env, s, e, w, q⟩ => by
  refine ⟨I, env, s, e, w, q.bind.mono (fun c s1 q I1 H1 x1 w1 => ?_) fun _ _ _ h => h⟩
  cases c with
  | true => exact ⟨I1, env, s1, e.ext x1, w1, q.mono (fun b s2 q I2 H2 x2 w2 => q I2 H2 (x1.trans x2 w2) w2) fun _ _ _ h => h.shift x1⟩
  | false => exact q I1 H1 x1 w1
theorem r_or {a b : Expr} {rest : List Expr} {m n : En → M Bool} (h : PT X a (liftT X.K dk l W m)) (h2 : PW X (.BoolOp .Or (b :: rest) pos) (liftT X.K dk l W n)) : PW X (.BoolOp .Or (a :: b :: rest) pos) (liftT X.K dk l W (tOr' m n)) := PW_imp (pw_or h h2) fun σ H Q ⟨I, env, s, e, w, q⟩ => by
  refine ⟨I, env, s, e, w, q.bind.mono (fun c s1 q I1 H1 x1 w1 => ?_) fun _ _ _ h => h⟩
  cases c with
  | true => exact q I1 H1 x1 w1
  | false => exact ⟨I1, env, s1, e.ext x1, w1, q.mono (fun b s2 q I2 H2 x2 w2 => q I2 H2 (x1.trans x2 w2) w2) fun _ _ _ h => h.shift x1⟩
theorem r_if {c a b : Expr} {m : En → M Bool} {ma mb : En → M D} (hc : PT X c (liftT X.K dk l W m)) (ha : PE X a (lift X.K dk l W ma)) (hb : PE X b (lift X.K dk l W mb)) : PE X (.IfExp c a b pos) (lift X.K dk l W (eIf m ma mb)) := PE_imp (pe_ifExp hc ha hb) fun σ H Q ⟨I, env, s, e, w, q⟩ => by
  refine ⟨I, env, s, e, w, q.bind.mono (fun c s1 q I1 H1 x1 w1 => ?_) fun _ _ _ h => h⟩
  cases c with
  | true => exact ⟨I1, env, s1, e.ext x1, w1, q.mono (fun b s2 q v I2 H2 x2 w2 => q v I2 H2 (x1.trans x2 w2) w2) fun _ _ _ h => h.shift x1⟩
  | false => exact ⟨I1, env, s1, e.ext x1, w1, q.mono (fun b s2 q v I2 H2 x2 w2 => q v I2 H2 (x1.trans x2 w2) w2) fun _ _ _ h => h.shift x1⟩
theorem r_anil : PA X [] (liftA X.K dk l W eAnil) := PA_imp pa_nil fun σ H Q ⟨I, env, s, e, w, q⟩ => q [] I H Ext.refl w rfl
theorem r_acons {a : Expr} {es : List Expr} {m : En → M D} {n : En → M (List D)} (h : PE X a (lift X.K dk l W m)) (h2 : PA X es (liftA X.K dk l W n)) (hs : starEach (a :: es) X.env = (false, eval a X.env) :: starEach es X.env := by rfl) : PA X (a :: es) (liftA X.K dk l W (eAcons m n)) := PA_imp (pa_cons h h2 hs) fun σ H Q ⟨I, env, s, e, w, q⟩ => by
  refine ⟨I, env, s, e, w, q.bind.mono (fun d s1 q v I1 H1 x1 w1 r1 => ?_) fun _ _ _ h => h⟩
  refine ⟨I1, env, s1, e.ext x1, w1, q.bind.mono (fun ds s2 q vs I2 H2 x2 w2 r2 => ?_) fun _ _ _ h => h.shift x1⟩
  exact q (v :: vs) I2 H2 (x1.trans x2 w2) w2 ⟨v, vs, rfl, Rep.mono x2.grow d v r1, r2⟩
/-- a display of a tuple -/
def gTupD : List D → Option D := fun ds => if ds.length ≤ 1000 then some (.tup ds) else none
theorem r_tup {es : List Expr} {n : En → M (List D)} {x1} (h : PA X es (liftA X.K dk l W n)) : PE X (.Tuple es x1 pos) (lift X.K dk l W (eMapA gTupD n)) := PE_imp (pe_tup h) fun σ H Q ⟨I, env, s, e, w, q⟩ => by
  refine ⟨I, env, s, e, w, q.bind.mono (fun ds s1 q vs I1 H1 x1 w1 r1 => ?_) fun _ _ _ h => h⟩
  obtain ⟨d, e2, q⟩ := q.opt
  unfold gTupD at e2
  split at e2
  · rename_i hl
    cases e2
    refine ⟨by rw [← r1.length]; exact Nat.le_trans hl (by decide), fun p hp => q _ (upd I1 p (.tup vs)) _ (x1.trans (Ext.new w1 hp) (w1.new hp)) (w1.new hp) ⟨p, vs, rfl, upd_same, RepL.mono (Sm.upd (w1.sub.none hp)) _ _ r1⟩⟩
  · cases e2
/-- a display of a list -/
def gLstO : List D → Option OD := fun ds => if ds.length ≤ 1000 then some (.lst ds) else none
theorem r_lst {es : List Expr} {n : En → M (List D)} (h : PA X es (liftA X.K dk l W n)) : PE X (.List es pos) (liftO X.K dk l W (eMapO gLstO n)) := PE_imp (pe_lst h) fun σ H Q ⟨I, env, s, e, w, q⟩ => by
  refine ⟨I, env, s, e, w, q.bind.mono (fun ds s1 q vs I1 H1 x1 w1 r1 => ?_) fun _ _ _ h => h⟩
  obtain ⟨d, e2, q⟩ := q.opt
  unfold gLstO at e2
  by_cases hl : ds.length ≤ 1000
  · rw [if_pos hl] at e2
    cases e2
    refine ⟨by rw [← r1.length]; exact Nat.le_trans hl (by decide), fun p hp => ?_⟩
    have n1 : p ≠ dk := (ne_of_none w1.dko hp).symm
    have n2 : p ≠ l := (ne_of_none w1.lft hp).symm
    have n3 : I1 p = none := w1.sub.none hp
    refine q p I1 _ (x1.trans (Ext.off w1 hp) (w1.off n3 n1 n2)) (w1.off n3 n1 n2) ?_ ⟨vs, upd_same, r1⟩ n1 n2 n3
    cases r : H p with
    | none => rfl
    | some u => rw [x1.keep p u r n1 n2] at hp; cases hp
  · rw [if_neg hl] at e2; cases e2
/-- freezing -/
theorem freeze {I H : Hp} {p : Addr} {o : OD} {s : Dk} (w : Wo dk l I H s) (h : OwnAt X.K I H dk p o) (n1 : p ≠ dk) (n2 : p ≠ l) (n3 : I p = none) : ∃ I', Sm I I' ∧ Wo dk l I' H s ∧ Rep X.K I' dk o.d (.ref p) ∧ (∀ q u, I' q = some u → I q = none → q = p) := by
  have core : ∀ u, H p = some u → Wo dk l (upd I p u) H s ∧ Sm I (upd I p u) ∧ (∀ q v, upd I p u q = some v → I q = none → q = p) := fun u hu => by
    refine ⟨⟨fun b x e => ?_, w.dko, w.lft, by rw [upd_ne n1.symm]; exact w.idk, by rw [upd_ne n2.symm]; exact w.il⟩, Sm.upd n3, fun q v hq hn => ?_⟩
    · by_cases hb : b = p
      · subst hb; rw [upd_same] at e; rw [hu]; exact e
      · rw [upd_ne hb] at e; exact w.sub b x e
    · by_cases hb : q = p
      · exact hb
      · rw [upd_ne hb, hn] at hq; cases hq
  cases o with
  | lst ds =>
    obtain ⟨vs, h1, r⟩ := h
    obtain ⟨c1, c2, c3⟩ := core _ h1
    exact ⟨_, c2, c1, ⟨p, vs, rfl, upd_same, RepL.mono c2 _ _ r⟩, c3⟩
  | dK ds =>
    obtain ⟨vs, h1, r⟩ := h
    obtain ⟨c1, c2, c3⟩ := core _ h1
    exact ⟨_, c2, c1, ⟨p, vs, rfl, upd_same, RepK.mono c2 _ _ r⟩, c3⟩
  | dT ds =>
    obtain ⟨vs, h1, r⟩ := h
    obtain ⟨c1, c2, c3⟩ := core _ h1
    exact ⟨_, c2, c1, ⟨p, vs, rfl, upd_same, RepT.mono c2 _ _ r⟩, c3⟩
theorem frz_read {m : En → M OD} (σ : L2.St) (H : Hp) (Q : VK) (h : lift X.K dk l W (eFrz m) σ H Q) : liftO X.K dk l W m σ H Q := by
  obtain ⟨I, env, s, e, w, q⟩ := h
  refine ⟨I, env, s, e, w, q.bind.mono (fun o s1 q p I1 H1 x1 w1 hp ho n1 n2 n3 => ?_) fun _ _ _ h => h⟩
  obtain ⟨I2, g, w2, r2, f2⟩ := freeze (X := X) w1 ho n1 n2 n3
  refine q _ I2 H1 ⟨x1.grow.trans g, x1.keep, fun a u ha hn => ?_⟩ w2 r2
  cases r : I1 a with
  | some y => exact x1.fresh a y r hn
  | none => rw [f2 a u ha r]; exact .inl hp
theorem r_frz {e : Expr} {m : En → M OD} (h : PE X e (liftO X.K dk l W m)) : PE X e (lift X.K dk l W (eFrz m)) := PE_imp h frz_read
end
end PV

end

section
set_option maxRecDepth 100000
namespace PV
open PySem PySem.Spec PyProof.Rows L2

/-! ### operations on plain values -/
def size7 : Nat := 10000000
theorem size7_le {n : Nat} (h : n ≤ size7) : n ≤ sizeLine := Nat.le_trans h (by decide)
def small64b (i : Int) : Bool := decide (-18446744073709551616 < i) && decide (i < 18446744073709551616)
def addD : D → D → Option D
  | .int a, .int b => some (.int (a + b))
  | .tup a, .tup b => if a.length + b.length ≤ size7 then some (.tup (a ++ b)) else none
  | .lst a, .lst b => if a.length + b.length ≤ size7 then some (.lst (a ++ b)) else none
  | _, _ => none
def subD : D → D → Option D
  | .int a, .int b => some (.int (a - b))
  | _, _ => none
def mulD : D → D → Option D
  | .int a, .int b => if (small64b a || small64b b) = true then some (.int (a * b)) else none
  | .tup a, .int k => if a ≠ [] ∧ 2 ≤ k ∧ k ≤ 1000 ∧ a.length ≤ 1000 then some (.tup (List.replicate k.toNat a).flatten) else none
  | .lst a, .int k => if 0 ≤ k ∧ k ≤ 1000 ∧ a.length ≤ 1000 then some (.lst (List.replicate k.toNat a).flatten) else none
  | _, _ => none
def fdivD : D → D → Option D
  | .int a, .int b => if b ≠ 0 ∧ b.natAbs < 1073741824 then some (.int (a.fdiv b)) else none
  | _, _ => none
def modD : D → D → Option D
  | .int a, .int b => if b ≠ 0 then some (.int (a.fmod b)) else none
  | _, _ => none
def powD : D → D → Option D
  | .int a, .int b => if (0 ≤ b ∧ b ≤ 1000000) ∧ a.natAbs < 18446744073709551616 then some (.int (a ^ b.toNat)) else none
  | _, _ => none
def ints? : List D → Option (List Int)
  | [] => some []
  | .int i :: r => (ints? r).map (i :: ·)
  | _ :: _ => none
def ltD : D → D → Option D
  | .int a, .int b => some (.bl (decide (a < b)))
  | .tup a, .tup b => (ints? a).bind fun ns => (ints? b).map fun ms => .bl (HT.lexLt ns ms)
  | _, _ => none
def leD : D → D → Option D
  | .int a, .int b => some (.bl (decide (a ≤ b)))
  | _, _ => none
def gtD : D → D → Option D
  | .int a, .int b => some (.bl (decide (b < a)))
  | _, _ => none
def geD : D → D → Option D
  | .int a, .int b => some (.bl (decide (b ≤ a)))
  | _, _ => none
mutual
def D.toP : D → Option PyData
  | .non => some .none
  | .bl b => some (.bool b)
  | .int i => some (.int i)
  | .str x => some (.str x)
  | .tup ds => (D.toPs ds).map .tuple
  | .lst ds => (D.toPs ds).map .list
  | _ => none
def D.toPs : List D → Option (List PyData)
  | [] => some []
  | d :: ds => match D.toP d, D.toPs ds with
    | some p, some r => some (p :: r)
    | _, _ => none
end
def eqD (x y : D) : Option D := match x.toP, y.toP with
  | some p, some q => if SeqAt.shaped p && SeqAt.shaped q then some (.bl (PyData.eqv p q)) else none
  | _, _ => none
def neD (x y : D) : Option D := match x.toP, y.toP with
  | some p, some q => if SeqAt.shaped p && SeqAt.shaped q then some (.bl (!PyData.eqv p q)) else none
  | _, _ => none
/-- is True, is not True; is None -/
def isD : D → D → Option D
  | .bl a, .bl b => some (.bl (decide (a = b)))
  | _, _ => none
def isntD : D → D → Option D
  | .bl a, .bl b => some (.bl (!decide (a = b)))
  | _, _ => none
def isND : D → D → Option D
  | .non, .non => some (.bl true)
  | .deck, .non => none
  | .exc _ _, .non => none
  | .fK _, .non => none
  | _, .non => some (.bl false)
  | _, _ => none
def isntND : D → D → Option D
  | .non, .non => some (.bl false)
  | .deck, .non => none
  | .exc _ _, .non => none
  | .fK _, .non => none
  | _, .non => some (.bl true)
  | _, _ => none
def seqOf : D → Option (List D)
  | .tup ds => some ds
  | .lst ds => some ds
  | _ => none
def inI (neg : Bool) : D → D → Option D
  | .int i, y => (seqOf y).bind fun ds => (ints? ds).map fun ns => .bl (if neg then !decide (i ∈ ns) else decide (i ∈ ns))
  | _, _ => none

section
variable {X : Cx} {dk l : Addr} {W : WX} {pos : Pos}
theorem ints?_eq : ∀ {ds : List D} {ns : List Int}, ints? ds = some ns → ds = ns.map D.int
  | [], ns, h => by
    cases h
    rfl
  | d :: ds, ns, h => by
    cases d with
    | int i =>
      simp only [ints?] at h
      cases e : ints? ds with
      | none => rw [e] at h; cases h
      | some ms =>
        rw [e] at h
        cases h
        rw [ints?_eq e]
        rfl
    | _ => cases h
/-- an int operation -/
theorem opd_int {f : Value → Value → Sem Value} {g : D → D → Option D} {C : Int → Int → Prop} {h : Int → Int → Int} (ho : OpR X f (rI C fun i j => .int (h i j)))
    (hg : ∀ x y d, g x y = some d → ∃ i j, x = .int i ∧ y = .int j ∧ C i j ∧ d = .int (h i j)) : OpD X dk l f g := by
  refine ⟨_, ho, fun I H s x y v u d Q w rx ry e q => ?_⟩
  obtain ⟨i, j, rfl, rfl, c, rfl⟩ := hg x y d e
  exact ⟨i, j, rx, ry, c, q _ I H Ext.refl w rfl⟩
theorem opd_int0 {f : Value → Value → Sem Value} {g : D → D → Option D} {h : Int → Int → V} {h' : Int → Int → D} (ho : OpR X f (rI0 h)) (hr : ∀ I i j, Rep X.K I dk (h' i j) (h i j))
    (hg : ∀ x y d, g x y = some d → ∃ i j, x = .int i ∧ y = .int j ∧ d = h' i j) : OpD X dk l f g := by
  refine ⟨_, ho, fun I H s x y v u d Q w rx ry e q => ?_⟩
  obtain ⟨i, j, rfl, rfl, rfl⟩ := hg x y d e
  exact ⟨i, j, rx, ry, q _ I H Ext.refl w (hr I i j)⟩
theorem o_sub : OpD X dk l (binaryOp .Sub) subD := opd_int0 op_sub (h' := fun i j => .int (i - j)) (fun _ _ _ => rfl) fun x y d e => by
  cases x <;> cases y <;> first | (cases e; exact ⟨_, _, rfl, rfl, rfl⟩) | cases e
theorem o_fdiv : OpD X dk l (binaryOp .FloorDiv) fdivD := opd_int op_fdivN fun x y d e => by
  cases x with
  | int a =>
    cases y with
    | int b =>
      simp only [fdivD] at e
      by_cases h : b ≠ 0 ∧ b.natAbs < 1073741824
      · rw [if_pos h] at e
        cases e
        exact ⟨_, _, rfl, rfl, h, rfl⟩
      · rw [if_neg h] at e
        cases e
    | _ => cases e
  | _ => cases e
theorem o_mod : OpD X dk l (binaryOp .Mod) modD := opd_int op_modN fun x y d e => by
  cases x with
  | int a =>
    cases y with
    | int b =>
      simp only [modD] at e
      by_cases h : b ≠ 0
      · rw [if_pos h] at e
        cases e
        exact ⟨_, _, rfl, rfl, h, rfl⟩
      · rw [if_neg h] at e
        cases e
    | _ => cases e
  | _ => cases e
theorem o_pow : OpD X dk l (binaryOp .Pow) powD := opd_int op_pow fun x y d e => by
  cases x with
  | int a =>
    cases y with
    | int b =>
      simp only [powD] at e
      by_cases h : (0 ≤ b ∧ b ≤ 1000000) ∧ a.natAbs < 18446744073709551616
      · rw [if_pos h] at e
        cases e
        exact ⟨_, _, rfl, rfl, ⟨h.1.1, h.1.2, h.2⟩, rfl⟩
      · rw [if_neg h] at e
        cases e
    | _ => cases e
  | _ => cases e
theorem o_le : OpD X dk l (compareOp .LtE) leD := opd_int0 op_le (h' := fun i j => .bl (decide (i ≤ j))) (fun _ _ _ => rfl) fun x y d e => by
  cases x <;> cases y <;> first | (cases e; exact ⟨_, _, rfl, rfl, rfl⟩) | cases e
theorem o_gt : OpD X dk l (compareOp .Gt) gtD := opd_int0 op_gt (h' := fun i j => .bl (decide (j < i))) (fun _ _ _ => rfl) fun x y d e => by
  cases x <;> cases y <;> first | (cases e; exact ⟨_, _, rfl, rfl, rfl⟩) | cases e
theorem o_ge : OpD X dk l (compareOp .GtE) geD := opd_int0 op_ge (h' := fun i j => .bl (decide (j ≤ i))) (fun _ _ _ => rfl) fun x y d e => by
  cases x <;> cases y <;> first | (cases e; exact ⟨_, _, rfl, rfl, rfl⟩) | cases e
theorem o_lt (hu : X.A.units < cLine) : OpD X dk l (compareOp .Lt) ltD := by
  refine ⟨_, OpR.or op_lt (op_ltT hu), fun I H s x y v u d Q w rx ry e q => ?_⟩
  cases x with
  | int i =>
    cases y with
    | int j => cases e; exact .inl ⟨i, j, rx, ry, q _ I H Ext.refl w rfl⟩
    | _ => cases e
  | tup a =>
    cases y with
    | tup b =>
      simp only [ltD] at e
      cases e1 : ints? a with
      | none => rw [e1] at e; cases e
      | some ns =>
        cases e2 : ints? b with
        | none => rw [e1, e2] at e; cases e
        | some ms =>
          rw [e1, e2] at e
          cases e
          obtain ⟨p, vs, rfl, h1, h2⟩ := rx
          obtain ⟨p', vs', rfl, h1', h2'⟩ := ry
          rw [ints?_eq e1] at h2
          rw [ints?_eq e2] at h2'
          have z1 := h2.ints_of
          have z2 := h2'.ints_of
          subst z1 z2
          exact .inr ⟨p, p', ns, ms, rfl, rfl, SqT.of (w.sub _ _ h1), SqT.of (w.sub _ _ h1'), q _ I H Ext.refl w rfl⟩
    | _ => cases e
  | _ => cases e
theorem o_add : OpD X dk l (binaryOp .Add) addD := by
  refine ⟨_, OpR.or op_add (OpR.or op_catA op_cat), fun I H s x y v u d Q w rx ry e q => ?_⟩
  cases x with
  | int i =>
    cases y with
    | int j => cases e; exact .inl ⟨i, j, rx, ry, q _ I H Ext.refl w rfl⟩
    | _ => cases e
  | tup a =>
    cases y with
    | tup b =>
      simp only [addD] at e
      by_cases hz : a.length + b.length ≤ size7
      · rw [if_pos hz] at e
        cases e
        obtain ⟨p, vs, rfl, h1, h2⟩ := rx
        obtain ⟨p', vs', rfl, h1', h2'⟩ := ry
        refine .inr (.inl ⟨p, p', vs, vs', rfl, rfl, SqT.of (w.sub _ _ h1), SqT.of (w.sub _ _ h1'), by rw [← h2.length, ← h2'.length]; exact size7_le hz, fun z => ?_, fun _ z => ?_, fun _ _ t ht => ?_⟩)
        · subst z
          have : a = [] := List.eq_nil_of_length_eq_zero (by rw [h2.length]; rfl)
          subst this
          exact q _ I H Ext.refl w ⟨p', vs', rfl, h1', h2'⟩
        · subst z
          have : b = [] := List.eq_nil_of_length_eq_zero (by rw [h2'.length]; rfl)
          subst this
          rw [List.append_nil] at q
          exact q _ I H Ext.refl w ⟨p, vs, rfl, h1, h2⟩
        · exact q _ _ _ (Ext.new w ht) (w.new ht) ⟨t, _, rfl, upd_same, RepL.mono (Sm.upd (w.sub.none ht)) _ _ (h2.append h2')⟩
      · rw [if_neg hz] at e; cases e
    | _ => cases e
  | lst a =>
    cases y with
    | lst b =>
      simp only [addD] at e
      by_cases hz : a.length + b.length ≤ size7
      · rw [if_pos hz] at e
        cases e
        obtain ⟨p, vs, rfl, h1, h2⟩ := rx
        obtain ⟨p', vs', rfl, h1', h2'⟩ := ry
        refine .inr (.inr ⟨p, p', vs, vs', rfl, rfl, w.sub _ _ h1, w.sub _ _ h1', by rw [← h2.length, ← h2'.length]; exact size7_le hz, fun t ht => ?_⟩)
        exact q _ _ _ (Ext.new w ht) (w.new ht) ⟨t, _, rfl, upd_same, RepL.mono (Sm.upd (w.sub.none ht)) _ _ (h2.append h2')⟩
      · rw [if_neg hz] at e; cases e
    | _ => cases e
  | _ => cases e
theorem RepL.rep {I : Hp} {ds : List D} {vs : List V} (h : RepL X.K I dk ds vs) : ∀ k : Nat, RepL X.K I dk (List.replicate k ds).flatten (List.replicate k vs).flatten
  | 0 => rfl
  | k + 1 => by
    rw [List.replicate_succ, List.replicate_succ, List.flatten_cons, List.flatten_cons]
    exact h.append (RepL.rep h k)
theorem small64b_ok {i : Int} (h : small64b i = true) : -(2 ^ 64) < i ∧ i < 2 ^ 64 := by
  unfold small64b at h
  rw [Bool.and_eq_true] at h
  exact ⟨of_decide_eq_true h.1, of_decide_eq_true h.2⟩
theorem o_mul : OpD X dk l (binaryOp .Mult) mulD := by
  refine ⟨_, OpR.or op_mul (OpR.or op_repT op_rep), fun I H s x y v u d Q w rx ry e q => ?_⟩
  cases x with
  | int i =>
    cases y with
    | int j =>
      simp only [mulD] at e
      by_cases hz : (small64b i || small64b j) = true
      · rw [if_pos hz] at e
        cases e
        refine .inl ⟨i, j, rx, ry, ?_, q _ I H Ext.refl w rfl⟩
        rw [Bool.or_eq_true] at hz
        rcases hz with z | z
        · exact .inl (small64b_ok z)
        · exact .inr (small64b_ok z)
      · rw [if_neg hz] at e; cases e
    | _ => cases e
  | tup a =>
    cases y with
    | int k =>
      simp only [mulD] at e
      by_cases hz : a ≠ [] ∧ 2 ≤ k ∧ k ≤ 1000 ∧ a.length ≤ 1000
      · rw [if_pos hz] at e
        cases e
        obtain ⟨p, vs, rfl, h1, h2⟩ := rx
        refine .inr (.inl ⟨p, k, vs, rfl, ry, SqT.of (w.sub _ _ h1), fun z => hz.1 (List.eq_nil_of_length_eq_zero (by rw [h2.length, z]; rfl)), hz.2.1, hz.2.2.1, by rw [← h2.length]; exact hz.2.2.2, fun t ht => ?_⟩)
        exact q _ _ _ (Ext.new w ht) (w.new ht) ⟨t, _, rfl, upd_same, RepL.mono (Sm.upd (w.sub.none ht)) _ _ (h2.rep _)⟩
      · rw [if_neg hz] at e; cases e
    | _ => cases e
  | lst a =>
    cases y with
    | int k =>
      simp only [mulD] at e
      by_cases hz : 0 ≤ k ∧ k ≤ 1000 ∧ a.length ≤ 1000
      · rw [if_pos hz] at e
        cases e
        obtain ⟨p, vs, rfl, h1, h2⟩ := rx
        refine .inr (.inr ⟨p, k, vs, rfl, ry, w.sub _ _ h1, by omega, by omega, ?_, fun t ht => ?_⟩)
        · rw [← h2.length]
          have h3 : k.toNat ≤ 1000 := by omega
          exact Nat.le_trans (Nat.mul_le_mul hz.2.2 h3) (by decide)
        · exact q _ _ _ (Ext.new w ht) (w.new ht) ⟨t, _, rfl, upd_same, RepL.mono (Sm.upd (w.sub.none ht)) _ _ (h2.rep _)⟩
      · rw [if_neg hz] at e; cases e
    | _ => cases e
  | _ => cases e
/-! ### equality -/
mutual
theorem dp_of {I H : Hp} (e : Sm I H) : ∀ (d : D) (v : V) (p : PyData), Rep X.K I dk d v → d.toP = some p → Dp X.K H v p
  | .non, v, p, h, q => by cases q; rw [show v = _ from h]; exact .non
  | .bl b, v, p, h, q => by cases q; rw [show v = _ from h]; exact .bl b
  | .int b, v, p, h, q => by cases q; rw [show v = _ from h]; exact .int b
  | .str b, v, p, h, q => by cases q; rw [show v = _ from h]; exact .str b
  | .tup ds, v, p, h, q => by
    obtain ⟨a, vs, rfl, h1, h2⟩ := h
    simp only [D.toP] at q
    cases z : D.toPs ds with
    | none => rw [z] at q; cases q
    | some ps => rw [z] at q; cases q; exact .tup (.of (e _ _ h1)) (dps_of e ds vs ps h2 z)
  | .lst ds, v, p, h, q => by
    obtain ⟨a, vs, rfl, h1, h2⟩ := h
    simp only [D.toP] at q
    cases z : D.toPs ds with
    | none => rw [z] at q; cases q
    | some ps => rw [z] at q; cases q; exact .lst (.of (e _ _ h1)) (dps_of e ds vs ps h2 z)
  | .dK _, _, _, _, q => by cases q
  | .dT _, _, _, _, q => by cases q
  | .deck, _, _, _, q => by cases q
  | .exc _ _, _, _, _, q => by cases q
  | .fK _, _, _, _, q => by cases q
theorem dps_of {I H : Hp} (e : Sm I H) : ∀ (ds : List D) (vs : List V) (ps : List PyData), RepL X.K I dk ds vs → D.toPs ds = some ps → DpAll X.K H vs ps
  | [], vs, ps, h, q => by cases q; rw [show vs = _ from h]; exact .nil
  | d :: ds, vs, ps, h, q => by
    obtain ⟨v, r, rfl, h1, h2⟩ := h
    simp only [D.toPs] at q
    cases z : D.toP d with
    | none => rw [z] at q; cases q
    | some p =>
      cases z2 : D.toPs ds with
      | none => rw [z, z2] at q; cases q
      | some qs =>
        rw [z, z2] at q
        cases q
        exact .cons (dp_of e d v p h1 z) (dps_of e ds r qs h2 z2)
end
theorem o_eq (hu : X.A.units + 64 < cLine) : OpD X dk l (compareOp .Eq) eqD := by
  refine ⟨_, op_eqD hu, fun I H s x y v u d Q w rx ry e q => ?_⟩
  unfold eqD at e
  cases z : x.toP with
  | none => rw [z] at e; cases e
  | some p =>
    cases z2 : y.toP with
    | none => rw [z, z2] at e; cases e
    | some p2 =>
      simp only [z, z2] at e
      by_cases hz : (SeqAt.shaped p && SeqAt.shaped p2) = true
      · rw [if_pos hz] at e
        cases e
        rw [Bool.and_eq_true] at hz
        exact ⟨p, p2, dp_of w.sub x v p rx z, dp_of w.sub y u p2 ry z2, hz.1, hz.2, q _ I H Ext.refl w rfl⟩
      · rw [if_neg hz] at e; cases e
theorem o_ne (hu : X.A.units + 64 < cLine) : OpD X dk l (compareOp .NotEq) neD := by
  refine ⟨_, op_neD hu, fun I H s x y v u d Q w rx ry e q => ?_⟩
  unfold neD at e
  cases z : x.toP with
  | none => rw [z] at e; cases e
  | some p =>
    cases z2 : y.toP with
    | none => rw [z, z2] at e; cases e
    | some p2 =>
      simp only [z, z2] at e
      by_cases hz : (SeqAt.shaped p && SeqAt.shaped p2) = true
      · rw [if_pos hz] at e
        cases e
        rw [Bool.and_eq_true] at hz
        exact ⟨p, p2, dp_of w.sub x v p rx z, dp_of w.sub y u p2 ry z2, hz.1, hz.2, q _ I H Ext.refl w rfl⟩
      · rw [if_neg hz] at e; cases e
theorem o_is : OpD X dk l (compareOp .Is) isD := by
  refine ⟨_, op_isBl, fun I H s x y v u d Q w rx ry e q => ?_⟩
  cases x <;> cases y <;> first | cases e | skip
  exact ⟨_, _, rx, ry, q _ I H Ext.refl w rfl⟩
theorem o_isnt : OpD X dk l (compareOp .IsNot) isntD := by
  refine ⟨_, op_notBl, fun I H s x y v u d Q w rx ry e q => ?_⟩
  cases x <;> cases y <;> first | cases e | skip
  exact ⟨_, _, rx, ry, q _ I H Ext.refl w rfl⟩
theorem flat_ints : ∀ ns : List Int, (ns.map V.int).all flatV = true
  | [] => rfl
  | n :: ns => by
    rw [List.map_cons, List.all_cons, flat_ints ns]
    rfl
theorem inV_ints (i : Int) : ∀ ns : List Int, inV (.int i) (ns.map V.int) = decide (i ∈ ns)
  | [] => by
    unfold inV
    simp
  | n :: ns => by
    have ih := inV_ints i ns
    unfold inV at ih ⊢
    rw [List.map_cons, List.any_cons, ih]
    have : eqV (.int n) (.int i) = decide (n = i) := by
      show (n == i) = decide (n = i)
      exact Bool.beq_eq_decide_eq n i
    rw [this]
    by_cases h : n = i
    · subst h; simp
    · have h' : ¬ i = n := fun z => h z.symm
      simp [h, h']
theorem in_run {neg : Bool} {op : CmpOp} (ho : OpR X (compareOp op) (rIn X.K neg)) : OpD X dk l (compareOp op) (inI neg) := by
  refine ⟨_, ho, fun I H s x y v u d Q w rx ry e q => ?_⟩
  cases x with
  | int i =>
    have core : ∀ (p : Addr) (vs : List V) (ds : List D), u = .ref p → (SqL X.K H p vs ∨ SqT X.K H p vs) → RepL X.K I dk ds vs → ((ints? ds).map fun ns => D.bl (if neg then !decide (i ∈ ns) else decide (i ∈ ns))) = some d → rIn X.K neg v u H Q := fun p vs ds e1 e2 e3 e4 => by
      cases z : ints? ds with
      | none => rw [z] at e4; cases e4
      | some ns =>
        rw [z] at e4
        cases e4
        rw [ints?_eq z] at e3
        have e5 := e3.ints_of
        subst e5
        have e6 : v = .int i := rx
        subst e6
        refine ⟨p, _, e1, e2, rfl, flat_ints ns, ?_⟩
        rw [inV_ints]
        exact q _ I H Ext.refl w rfl
    cases y with
    | tup ds =>
      obtain ⟨p, vs, e1, h1, h2⟩ := ry
      exact core p vs ds e1 (.inr (.of (w.sub _ _ h1))) h2 e
    | lst ds =>
      obtain ⟨p, vs, e1, h1, h2⟩ := ry
      exact core p vs ds e1 (.inl (.of (w.sub _ _ h1))) h2 e
    | _ => cases e
  | _ => cases e
theorem o_in : OpD X dk l (compareOp .In) (inI false) := in_run op_in_seq
theorem o_notin : OpD X dk l (compareOp .NotIn) (inI true) := in_run op_notIn_seq
end
end PV

end

section
set_option maxRecDepth 100000
namespace PV
open PySem PySem.Spec PyProof.Rows L2

/-! ### statements -/
inductive Fl where
  | nx (env : En) | rt (d : D) | bk (env : En) | ct (env : En)
structure SOk (K : PySem.W.Frag) (dk l : Addr) (I0 H0 I H : Hp) (env : En) (σ : L2.St) (s : Dk) : Prop where
  eok : EnvOk K dk l I H env σ
  wo : Wo dk l I H s
  ext : Ext dk l I0 H0 I H
  new : ∀ (i : Nat) (o : OD) (p : Addr), env[i]? = some (.own o) → σ[i]? = some (some (.ref p)) → H0 p = none
section
variable (K : PySem.W.Frag) (dk l : Addr) (W : WX) (I0 H0 : Hp)
def flP (I : Hp) (D : Ends) : Fl → Dk → Prop := fun f s' => match f with
  | .nx env' => ∀ σ' I' H', Sm I I' → SOk K dk l I0 H0 I' H' env' σ' s' → D.nx σ' H'
  | .rt d => ∀ v I' H', Ext dk l I0 H0 I' H' → Wo dk l I' H' s' → Rep K I' dk d v → D.rt v H'
  | .bk env' => ∀ σ' I' H', Sm I I' → SOk K dk l I0 H0 I' H' env' σ' s' → D.bk σ' H'
  | .ct env' => ∀ σ' I' H', Sm I I' → SOk K dk l I0 H0 I' H' env' σ' s' → D.ct σ' H'
variable {K dk l W I0 H0} in
theorem flP.shift {I I1 : Hp} {D : Ends} {f : Fl} {s : Dk} (g : Sm I I1) (h : flP K dk l I0 H0 I D f s) : flP K dk l I0 H0 I1 D f s := by
  cases f with
  | nx e => exact fun σ' I' H' g' k' => h σ' I' H' (g.trans g') k'
  | rt d => exact h
  | bk e => exact fun σ' I' H' g' k' => h σ' I' H' (g.trans g') k'
  | ct e => exact fun σ' I' H' g' k' => h σ' I' H' (g.trans g') k'
def exS : Nat → D → Dk → Prop := fun c d s' => ∀ σ' cls dd I' H', Ext dk l I0 H0 I' H' → Wo dk l I' H' s' → RepX K dk I' c d cls dd → W cls dd σ' H'
def liftS (m : En → M Fl) : TS := fun D σ H => ∃ I env s, SOk K dk l I0 H0 I H env σ s ∧ Post (m env s) (flP K dk l I0 H0 I D) (exS K dk l W I0 H0)
end
section
variable {K : PySem.W.Frag} {dk l : Addr} {W : WX} {I0 H0 I H I' H' : Hp} {env : En} {σ : L2.St} {s s' : Dk}
theorem SOk.grow (k : SOk K dk l I0 H0 I H env σ s) (x : Ext dk l I H I' H') (w : Wo dk l I' H' s') : SOk K dk l I0 H0 I' H' env σ s' := ⟨k.eok.ext x, w, k.ext.trans x w, k.new⟩
theorem SOk.exq {c : Nat} {d : D} {s' : Dk} (k : SOk K dk l I0 H0 I H env σ s) (h : exS K dk l W I0 H0 c d s') : exQ K dk l W I H σ c d s' := fun cls dd I' H' x w r => h σ cls dd I' H' (k.ext.trans x w) w r
end
/-! ### patterns -/
inductive Pat where
  | nm (i : Nat) | tp (ps : List Pat)
mutual
def gPat (K : PySem.W.Frag) : Pat → TG
  | .nm i => gName i
  | .tp ps => gTup K ps.length (gPats K ps)
def gPats (K : PySem.W.Frag) : List Pat → TGs
  | [] => gNil
  | p :: ps => gCons (gPat K p) (gPats K ps)
end
mutual
def bindP : Pat → D → En → Option En
  | .nm i, d, env => some (env.set i (.val d))
  | .tp ps, .tup ds, env => if ds.length = ps.length then bindPs ps ds env else none
  | .tp _, _, _ => none
def bindPs : List Pat → List D → En → Option En
  | [], [], env => some env
  | p :: ps, d :: ds, env => match bindP p d env with
    | some e => bindPs ps ds e
    | none => none
  | _, _, _ => none
end
mutual
def Pat.ix : Pat → List Nat
  | .nm i => [i]
  | .tp ps => Pat.ixs ps
def Pat.ixs : List Pat → List Nat
  | [] => []
  | p :: ps => p.ix ++ Pat.ixs ps
end
/-- from one row of slots to another: only those at ss have changed, and hold no own object -/
structure Chg (ss : List Nat) (env env' : En) (σ σ' : L2.St) : Prop where
  own : ∀ (i : Nat) (o : OD), env'[i]? = some (.own o) → env[i]? = some (.own o) ∧ i ∉ ss
  out : ∀ j, j ∉ ss → σ'[j]? = σ[j]?
  len : σ'.length = σ.length
theorem Chg.refl {env : En} {σ : L2.St} : Chg [] env env σ σ := ⟨fun i o h => ⟨h, by simp⟩, fun _ _ => rfl, rfl⟩
theorem Chg.trans {a b : List Nat} {e e1 e2 : En} {σ σ1 σ2 : L2.St} (x : Chg a e e1 σ σ1) (y : Chg b e1 e2 σ1 σ2) : Chg (a ++ b) e e2 σ σ2 where
  own := fun i o h => by
    obtain ⟨h1, n1⟩ := y.own i o h
    obtain ⟨h2, n2⟩ := x.own i o h1
    exact ⟨h2, fun z => (List.mem_append.mp z).elim n2 n1⟩
  out := fun j h => (y.out j fun z => h (List.mem_append_right _ z)).trans (x.out j fun z => h (List.mem_append_left _ z))
  len := y.len.trans x.len
theorem Chg.one {env : En} {σ : L2.St} {i : Nat} {d : D} {v : V} (hl : env.length = σ.length) : Chg [i] env (env.set i (.val d)) σ (σ.set i (some v)) where
  own := fun j o h => by
    by_cases hj : i = j
    · subst hj
      by_cases hl' : i < env.length
      · rw [List.getElem?_set_self hl'] at h; cases h
      · rw [List.getElem?_eq_none (by rw [List.length_set]; omega)] at h; cases h
    · rw [List.getElem?_set_ne hj] at h
      exact ⟨h, by simp; exact fun z => hj z.symm⟩
  out := fun j h => List.getElem?_set_ne (fun z => h (by simp [z]))
  len := List.length_set ..
section
variable {K : PySem.W.Frag} {dk l : Addr} {I H : Hp}
mutual
theorem gpat_ok (e : Sm I H) : ∀ (p : Pat) (d : D) (v : V) (env env' : En) (σ : L2.St) (Q : L2.St → Hp → Prop), EnvOk K dk l I H env σ → Rep K I dk d v → bindP p d env = some env' →
    (∀ σ', EnvOk K dk l I H env' σ' → Chg p.ix env env' σ σ' → Q σ' H) → gPat K p v σ H Q
  | .nm i, d, v, env, env', σ, Q, k, r, b, q => by
    simp only [bindP] at b
    cases b
    simp only [gPat, gName]
    exact q _ (k.set r) (by simp only [Pat.ix]; exact .one k.len)
  | .tp ps, d, v, env, env', σ, Q, k, r, b, q => by
    cases d with
    | tup ds =>
      simp only [bindP] at b
      by_cases hl : ds.length = ps.length
      · rw [if_pos hl] at b
        obtain ⟨a, vs, rfl, h1, h2⟩ := r
        simp only [gPat]
        refine ⟨a, vs, rfl, SqT.of (e _ _ h1), by rw [← h2.length]; exact hl, ?_⟩
        exact gpats_ok e ps ds vs env env' σ Q k h2 b (by simpa only [Pat.ix] using q)
      · rw [if_neg hl] at b; cases b
    | _ => simp only [bindP] at b; cases b
theorem gpats_ok (e : Sm I H) : ∀ (ps : List Pat) (ds : List D) (vs : List V) (env env' : En) (σ : L2.St) (Q : L2.St → Hp → Prop), EnvOk K dk l I H env σ → RepL K I dk ds vs → bindPs ps ds env = some env' →
    (∀ σ', EnvOk K dk l I H env' σ' → Chg (Pat.ixs ps) env env' σ σ' → Q σ' H) → gPats K ps vs σ H Q
  | [], ds, vs, env, env', σ, Q, k, r, b, q => by
    cases ds with
    | nil =>
      simp only [bindPs] at b
      cases b
      simp only [gPats]
      exact ⟨r, q σ k (by simp only [Pat.ixs]; exact .refl)⟩
    | cons _ _ => simp only [bindPs] at b; cases b
  | p :: ps, ds, vs, env, env', σ, Q, k, r, b, q => by
    cases ds with
    | nil => simp only [bindPs] at b; cases b
    | cons d ds =>
      simp only [bindPs] at b
      cases h : bindP p d env with
      | none => rw [h] at b; cases b
      | some e1 =>
        rw [h] at b
        obtain ⟨v, rs, rfl, h1, h2⟩ := r
        simp only [gPats]
        refine ⟨v, rs, rfl, ?_⟩
        refine gpat_ok e p d v env e1 σ _ k h1 h fun σ1 k1 c1 => ?_
        exact gpats_ok e ps ds rs e1 env' σ1 Q k1 h2 b fun σ2 k2 c2 => q σ2 k2 (by simp only [Pat.ixs]; exact c1.trans c2)
end
theorem SOk.chg {I0 H0 : Hp} {env env' : En} {σ σ' : L2.St} {s : Dk} {ss : List Nat} (k : SOk K dk l I0 H0 I H env σ s) (e : EnvOk K dk l I H env' σ') (c : Chg ss env env' σ σ') : SOk K dk l I0 H0 I H env' σ' s :=
  ⟨e, k.wo, k.ext, fun i o p h1 h2 => by
    obtain ⟨h3, n⟩ := c.own i o h1
    rw [c.out i n] at h2
    exact k.new i o p h3 h2⟩
end

/-! ### the mirror's pieces: statements -/
def sNext : En → M Fl := fun env => ret (.nx env)
def sSeq (a b : En → M Fl) : En → M Fl := fun env => andThen (a env) fun f => match f with
  | .nx e => b e
  | f => ret f
def sRet (m : En → M D) : En → M Fl := fun env => andThen (m env) fun d => ret (.rt d)
def sIf (t : En → M Bool) (a b : En → M Fl) : En → M Fl := fun env => andThen (t env) fun c => if c = true then a env else b env
def sAsg (p : Pat) (m : En → M D) : En → M Fl := fun env => andThen (m env) fun d => andThen (opt (bindP p d env)) fun e => ret (.nx e)
def sAsgO (i : Nat) (m : En → M OD) : En → M Fl := fun env => andThen (m env) fun o => ret (.nx (env.set i (.own o)))
def sDrop (m : En → M D) : En → M Fl := fun env => andThen (m env) fun _ => ret (.nx env)
def sBreak : En → M Fl := fun env => ret (.bk env)
def sCont : En → M Fl := fun env => ret (.ct env)
def forM' (p : Pat) (b : En → M Fl) : List D → En → M Fl
  | [], env => ret (.nx env)
  | d :: ds, env => andThen (opt (bindP p d env)) fun e1 => andThen (b e1) fun f => match f with
    | .nx e => forM' p b ds e
    | .ct e => forM' p b ds e
    | .bk e => ret (.nx e)
    | .rt d => ret (.rt d)
def sFor (it : En → M (List D)) (p : Pat) (b : En → M Fl) : En → M Fl := fun env => andThen (it env) fun ds => forM' p b ds env
def whileM (t : En → M Bool) (b : En → M Fl) : Nat → En → M Fl
  | 0, _ => bad
  | n + 1, env => andThen (t env) fun c => if c = true then andThen (b env) fun f => match f with
    | .nx e => whileM t b n e
    | .ct e => whileM t b n e
    | .bk e => ret (.nx e)
    | .rt d => ret (.rt d)
    else ret (.nx env)
def sWhile (n : Nat) (t : En → M Bool) (b : En → M Fl) : En → M Fl := fun env => whileM t b n env
/-- slots frozen -/
def Slot.frz : Slot → Slot
  | .own o => .val o.d
  | x => x
def frzAt (i : Nat) (env : En) : En := match env[i]? with
  | some (.own o) => env.set i (.val o.d)
  | _ => env
def frzAll : List Nat → En → En
  | [], env => env
  | i :: is, env => frzAll is (frzAt i env)
def sFrz (is : List Nat) (m : En → M Fl) : En → M Fl := fun env => m (frzAll is env)

section
variable {X : Cx} {dk l : Addr} {W : WX} {pos : Pos} {I0 H0 : Hp}
theorem p_nil : PSs X [] (liftS X.K dk l W I0 H0 sNext) := PSs_imp pss_nil fun D σ H ⟨I, env, s, k, q⟩ => q σ I H (Sm.refl I) k
theorem p_cons {st : Stmt} {rest : List Stmt} {a b : En → M Fl} (h1 : PS X st (liftS X.K dk l W I0 H0 a)) (h2 : PSs X rest (liftS X.K dk l W I0 H0 b)) : PSs X (st :: rest) (liftS X.K dk l W I0 H0 (sSeq a b)) := PSs_imp (pss_cons h1 h2) fun D σ H ⟨I, env, s, k, q⟩ => by
  refine ⟨I, env, s, k, q.bind.mono (fun f s1 q => ?_) fun _ _ _ h => h⟩
  cases f with
  | nx e => exact fun σ' I' H' g' k' => ⟨I', e, s1, k', q.mono (fun _ _ h => h.shift g') fun _ _ _ h => h⟩
  | rt d => exact q
  | bk e => exact q
  | ct e => exact q
theorem p_one {st : Stmt} {a : En → M Fl} (h1 : PS X st (liftS X.K dk l W I0 H0 a)) : PSs X [st] (liftS X.K dk l W I0 H0 a) := pss_one h1
theorem p_ret {e : Expr} {m : En → M D} (h : PE X e (lift X.K dk l W m)) : PS X (.Return (some e) pos) (liftS X.K dk l W I0 H0 (sRet m)) := PS_imp (ps_ret h) fun D σ H ⟨I, env, s, k, q⟩ => by
  refine ⟨I, env, s, k.eok, k.wo, q.bind.mono (fun d s1 q v I1 H1 x1 w1 r1 => q v I1 H1 (k.ext.trans x1 w1) w1 r1) fun _ _ _ h => k.exq h⟩
theorem p_if {c : Expr} {a b : List Stmt} {t : En → M Bool} {ma mb : En → M Fl} (hc : PT X c (liftT X.K dk l W t)) (ha : PSs X a (liftS X.K dk l W I0 H0 ma)) (hb : PSs X b (liftS X.K dk l W I0 H0 mb)) : PS X (.If c a b pos) (liftS X.K dk l W I0 H0 (sIf t ma mb)) := PS_imp (ps_if hc ha hb) fun D σ H ⟨I, env, s, k, q⟩ => by
  refine ⟨I, env, s, k.eok, k.wo, q.bind.mono (fun c s1 q I1 H1 x1 w1 => ?_) fun _ _ _ h => k.exq h⟩
  cases c with
  | true => exact ⟨I1, env, s1, k.grow x1 w1, q.mono (fun _ _ h => h.shift x1.grow) fun _ _ _ h => h⟩
  | false => exact ⟨I1, env, s1, k.grow x1 w1, q.mono (fun _ _ h => h.shift x1.grow) fun _ _ _ h => h⟩
theorem p_pass : PS X (.Pass pos) (liftS X.K dk l W I0 H0 sNext) := PS_imp ps_pass fun D σ H ⟨I, env, s, k, q⟩ => q σ I H (Sm.refl I) k
theorem p_break : PS X (.Break pos) (liftS X.K dk l W I0 H0 sBreak) := PS_imp ps_break fun D σ H ⟨I, env, s, k, q⟩ => q σ I H (Sm.refl I) k
theorem p_cont : PS X (.Continue pos) (liftS X.K dk l W I0 H0 sCont) := PS_imp ps_continue fun D σ H ⟨I, env, s, k, q⟩ => q σ I H (Sm.refl I) k
theorem p_doc {x j pos'} : PS X (.Expr (.Constant (.str x) j pos) pos') (liftS X.K dk l W I0 H0 sNext) := PS_imp ps_doc fun D σ H ⟨I, env, s, k, q⟩ => q σ I H (Sm.refl I) k
/-- target = e -/
theorem p_asg {tg e : Expr} {p : Pat} {m : En → M D} (h : PE X e (lift X.K dk l W m)) (hg : PG X tg (gPat X.K p)) (hs : swapsWithSole [tg] e pos.line X.env = pure false := by rfl) (hw : swappedStores [tg] e X.env = pure none := by rfl)
    (h1 : (assignEach [tg] X.env).map (·.2) = [assign tg X.env] := by rfl) : PS X (.Assign [tg] e pos) (liftS X.K dk l W I0 H0 (sAsg p m)) := PS_imp (ps_asg h hg hs hw h1) fun D σ H ⟨I, env, s, k, q⟩ => by
  refine ⟨I, env, s, k.eok, k.wo, q.bind.mono (fun d s1 q v I1 H1 x1 w1 r1 => ?_) fun _ _ _ h => k.exq h⟩
  obtain ⟨e2, e3, q⟩ := q.bind.opt
  have k1 := k.grow x1 w1
  exact gpat_ok w1.sub p d v env e2 σ _ k1.eok r1 e3 fun σ' k2 c => q σ' I1 H1 x1.grow (k1.chg k2 c)
theorem ownAp {K : PySem.W.Frag} {I H H1 : Hp} {env : En} {σ : L2.St} {p : Addr} (e : EnvOk K dk l I H env σ) (n : H p = none) : ∀ (j : Nat) (u : OD), env[j]? = some (.own u) → σ[j]? ≠ some (some (.ref p)) := fun j u h z => by
  obtain ⟨q, h1, h2, _⟩ := e.own j u h
  rw [h1] at z
  injection z with z
  injection z with z
  injection z with z
  subst z
  obtain ⟨w, hw⟩ := h2.ho
  rw [n] at hw
  cases hw
theorem asg_read {p : Pat} {m : En → M D} (D : Ends) (σ : L2.St) (H : Hp) (h : liftS X.K dk l W I0 H0 (sAsg p m) D σ H) : tAsg (lift X.K dk l W m) (gPat X.K p) D σ H := by
  obtain ⟨I, env, s, k, q⟩ := h
  refine ⟨I, env, s, k.eok, k.wo, q.bind.mono (fun d s1 q v I1 H1 x1 w1 r1 => ?_) fun _ _ _ h => k.exq h⟩
  obtain ⟨e2, e3, q⟩ := q.bind.opt
  have k1 := k.grow x1 w1
  exact gpat_ok w1.sub p d v env e2 σ _ k1.eok r1 e3 fun σ' k2 c => q σ' I1 H1 x1.grow (k1.chg k2 c)
theorem asgO_read {i : Nat} {m : En → M OD} (D : Ends) (σ : L2.St) (H : Hp) (h : liftS X.K dk l W I0 H0 (sAsgO i m) D σ H) : tAsg (liftO X.K dk l W m) (gName i) D σ H := by
  obtain ⟨I, env, s, k, q⟩ := h
  refine ⟨I, env, s, k.eok, k.wo, q.bind.mono (fun o s1 q p I1 H1 x1 w1 hp ho n1 n2 n3 => ?_) fun _ _ _ h => k.exq h⟩
  have k1 := k.grow x1 w1
  refine q _ I1 H1 x1.grow ⟨?_, w1, k1.ext, fun j u a h2 h3 => ?_⟩
  · exact k1.eok.setOwn ho n1 n2 n3 (fun _ _ _ h => h) fun j u _ h2 => ownAp (H1 := H1) k.eok hp j u h2
  · by_cases hj : i = j
    · subst hj
      by_cases hl : i < σ.length
      · rw [List.getElem?_set_self hl] at h3
        injection h3 with z
        injection z with z
        injection z with z
        subst z
        cases r : H0 p with
        | none => rfl
        | some u => rw [k.ext.keep p u r n1 n2] at hp; cases hp
      · rw [List.getElem?_eq_none (by rw [List.length_set]; omega)] at h3; cases h3
    · rw [List.getElem?_set_ne hj] at h2 h3
      exact k.new j u a h2 h3
/-- name = an object of its own -/
theorem p_asgO {i : Nat} {x : Str} {e : Expr} {m : En → M OD} {pos' : Pos} (h : PE X e (liftO X.K dk l W m)) (hg : PG X (.Name x pos') (gName i)) (hs : swapsWithSole [.Name x pos'] e pos.line X.env = pure false := by rfl) (hw : swappedStores [.Name x pos'] e X.env = pure none := by rfl)
    (h1 : (assignEach [.Name x pos'] X.env).map (·.2) = [assign (.Name x pos') X.env] := by rfl) : PS X (.Assign [.Name x pos'] e pos) (liftS X.K dk l W I0 H0 (sAsgO i m)) := PS_imp (ps_asg h hg hs hw h1) asgO_read
theorem p_drop {e : Expr} {m : En → M D} (h : PE X e (lift X.K dk l W m)) (hs : swapsWith e none pos.line X.env = pure false := by rfl) : PS X (.Expr e pos) (liftS X.K dk l W I0 H0 (sDrop m)) := PS_imp (ps_expr h hs) fun D σ H ⟨I, env, s, k, q⟩ => by
  exact ⟨I, env, s, k.eok, k.wo, q.bind.mono (fun d s1 q v I1 H1 x1 w1 r1 => q σ I1 H1 x1.grow (k.grow x1 w1)) fun _ _ _ h => k.exq h⟩
/-! freezing -/
theorem frzAt_ok {I H : Hp} {env : En} {σ : L2.St} {s : Dk} (i : Nat) (k : SOk X.K dk l I0 H0 I H env σ s) : ∃ I', SOk X.K dk l I0 H0 I' H (frzAt i env) σ s ∧ Sm I I' := by
  unfold frzAt
  cases h : env[i]? with
  | none => exact ⟨I, k, Sm.refl I⟩
  | some z =>
    cases z with
    | no => exact ⟨I, k, Sm.refl I⟩
    | val d => exact ⟨I, k, Sm.refl I⟩
    | own o =>
      obtain ⟨p, h1, h2, n1, n2, n3⟩ := k.eok.own i o h
      obtain ⟨I2, g, w2, r2, f2⟩ := freeze (X := X) k.wo h2 n1 n2 n3
      have hn := k.new i o p h h1
      have hil : i < env.length := (List.getElem?_eq_some_iff.mp h).1
      refine ⟨I2, ⟨⟨by rw [List.length_set]; exact k.eok.len, fun j d hj => ?_, fun j u hj => ?_, fun j m u v q h3 h4 h5 h6 => ?_⟩, w2, ⟨k.ext.grow.trans g, k.ext.keep, fun a u ha hb => ?_⟩, fun j u q h3 h4 => ?_⟩, g⟩
      · by_cases hj' : i = j
        · subst hj'
          rw [List.getElem?_set_self hil] at hj
          cases hj
          exact ⟨_, h1, r2⟩
        · rw [List.getElem?_set_ne hj'] at hj
          obtain ⟨v, e1, e2⟩ := k.eok.val j d hj
          exact ⟨v, e1, Rep.mono g d v e2⟩
      · by_cases hj' : i = j
        · subst hj'
          rw [List.getElem?_set_self hil] at hj
          cases hj
        · rw [List.getElem?_set_ne hj'] at hj
          obtain ⟨q, e1, e2, e3, e4, e5⟩ := k.eok.own j u hj
          refine ⟨q, e1, e2.move g fun _ z => z, e3, e4, ?_⟩
          cases r : I2 q with
          | none => rfl
          | some w =>
            have hq := f2 q w r e5
            subst hq
            exact absurd (k.eok.sep i j o u q h hj h1 e1) hj'
      · have nj : i ≠ j := fun z => by
          subst z
          rw [List.getElem?_set_self hil] at h3
          cases h3
        have nm : i ≠ m := fun z => by
          subst z
          rw [List.getElem?_set_self hil] at h4
          cases h4
        rw [List.getElem?_set_ne nj] at h3
        rw [List.getElem?_set_ne nm] at h4
        exact k.eok.sep j m u v q h3 h4 h5 h6
      · cases r : I a with
        | some w => exact k.ext.fresh a w r hb
        | none => rw [f2 a u ha r]; exact .inl hn
      · have nj : i ≠ j := fun z => by
          subst z
          rw [List.getElem?_set_self hil] at h3
          cases h3
        rw [List.getElem?_set_ne nj] at h3
        exact k.new j u q h3 h4
theorem frzAll_ok {H : Hp} {σ : L2.St} {s : Dk} : ∀ (is : List Nat) {I : Hp} {env : En}, SOk X.K dk l I0 H0 I H env σ s → ∃ I', SOk X.K dk l I0 H0 I' H (frzAll is env) σ s ∧ Sm I I'
  | [], I, env, k => ⟨I, k, Sm.refl I⟩
  | i :: is, I, env, k => by
    obtain ⟨I1, k1, g1⟩ := frzAt_ok i k
    obtain ⟨I2, k2, g2⟩ := frzAll_ok is k1
    exact ⟨I2, k2, g1.trans g2⟩
theorem p_frz {st : Stmt} {m : En → M Fl} (is : List Nat) (h : PS X st (liftS X.K dk l W I0 H0 m)) : PS X st (liftS X.K dk l W I0 H0 (sFrz is m)) := PS_imp h fun D σ H ⟨I, env, s, k, q⟩ => by
  obtain ⟨I1, k1, g1⟩ := frzAll_ok is k
  exact ⟨I1, _, s, k1, q.mono (fun _ _ h => h.shift g1) fun _ _ _ h => h⟩
end

/-! ### what is walked -/
structure Walks (K : PySem.W.Frag) (dk l : Addr) (J : It) (ds : List D) (B I : Hp) : Prop where
  go : ∀ I' H' s (i : Nat), Sm I I' → Sm B H' → Wo dk l I' H' s → i < ds.length → J.go i H'
  stop : ∀ I' H' s (i : Nat), Sm I I' → Sm B H' → Wo dk l I' H' s → i = ds.length → J.stop i H'
  yld : ∀ I' H' s (i : Nat) x H'' d, Sm I I' → Sm B H' → Wo dk l I' H' s → J.yld i H' x H'' → ds[i]? = some d → ∃ I'', Ext dk l I' H' I'' H'' ∧ Wo dk l I'' H'' s ∧ Rep K I'' dk d x
/-- .. over what stands frozen -/
def liftI (K : PySem.W.Frag) (dk l : Addr) (W : WX) (m : En → M (List D)) : TI := fun σ H R => ∃ I env s, EnvOk K dk l I H env σ ∧ Wo dk l I H s ∧
  Post (m env s) (fun ds s' => ∀ J I' H', Ext dk l I H I' H' → Wo dk l I' H' s' → Walks K dk l J ds I' I' → R J H') (exQ K dk l W I H σ)
/-- .. over what stands, but for the deck -/
def liftB (K : PySem.W.Frag) (dk l : Addr) (W : WX) (m : En → M (List D)) : TI := fun σ H R => ∃ I env s, EnvOk K dk l I H env σ ∧ Wo dk l I H s ∧
  Post (m env s) (fun ds s' => ∀ J B I' H', Ext dk l I H I' H' → Wo dk l I' H' s' → Sm B H' → (∀ a o, B a = some o → I' a = some o ∨ ∃ (i : Nat) (u : OD), env[i]? = some (.own u) ∧ σ[i]? = some (some (.ref a))) → B dk = none → B l = none → Walks K dk l J ds B I' → R J H') (exQ K dk l W I H σ)
theorem PI_imp {X : Cx} {tg e : Expr} {t t' : TI} (h : PI X tg e t) (i : ∀ σ H Q, t' σ H Q → t σ H Q) : PI X tg e t' := ⟨fun pins s σ H Q J q => h.run pins s σ H Q J (i σ H Q q)⟩
section
variable {X : Cx} {dk l : Addr} {W : WX} {pos : Pos} {I0 H0 : Hp}
theorem r_B {tg e : Expr} {m : En → M (List D)} (h : PI X tg e (liftI X.K dk l W m)) : PI X tg e (liftB X.K dk l W m) := PI_imp h fun σ H R ⟨I, env, s, k, w, q⟩ =>
  ⟨I, env, s, k, w, q.mono (fun ds s1 q J I1 H1 x1 w1 wk => q J I1 I1 H1 x1 w1 w1.sub (fun _ _ h => .inl h) w1.idk w1.il wk) fun _ _ _ h => h⟩
theorem p_for {tg iter : Expr} {body : List Stmt} {mi : En → M (List D)} {p : Pat} {mb : En → M Fl} (hp : PassesOwn (model X.prog X.w) X.A X.env X.xe) (hc : X.calm = true) (hi : PI X tg iter (liftI X.K dk l W mi)) (hg : PG X tg (gPat X.K p))
    (hb : PSs X body (liftS X.K dk l W I0 H0 mb)) (hs : ∀ x, foldedSetIterable iter X.env x = pure x := by intro _; rfl) : PS X (.For tg iter body [] pos) (liftS X.K dk l W I0 H0 (sFor mi p mb)) := PS_imp (ps_for hp hc hi hg hb hs) fun D σ H ⟨I, env, s, k, q⟩ => by
  refine ⟨I, env, s, k.eok, k.wo, q.bind.mono (fun ds s1 q J I1 H1 x1 w1 wk => ?_) fun _ _ _ h => k.exq h⟩
  refine ⟨fun i m σ H => m = ds.length - i ∧ i ≤ ds.length ∧ ∃ I env s, SOk X.K dk l I0 H0 I H env σ s ∧ Sm I1 I ∧ Post (forM' p mb (ds.drop i) env s) (flP X.K dk l I0 H0 I D) (exS X.K dk l W I0 H0),
    ⟨ds.length, by simp, Nat.zero_le _, I1, env, s1, k.grow x1 w1, Sm.refl _, q.mono (fun _ _ h => h.shift x1.grow) fun _ _ _ h => h⟩, ?_⟩
  rintro i m σ2 H2 ⟨rfl, hle, I2, env2, s2, k2, g2, q2⟩
  by_cases hlt : i < ds.length
  · obtain ⟨d, hd⟩ : ∃ d, ds[i]? = some d := ⟨ds[i], by simp [hlt]⟩
    have hdr : ds.drop i = d :: ds.drop (i + 1) := by
      rw [List.drop_eq_getElem_cons hlt]
      have : ds[i] = d := by
        rw [List.getElem?_eq_getElem hlt] at hd
        exact Option.some.inj hd
      rw [this]
    rw [hdr] at q2
    simp only [forM'] at q2
    refine .inr ⟨wk.go I2 H2 s2 i g2 (g2.trans k2.wo.sub) k2.wo hlt, fun σ' H' => ∃ I env s, SOk X.K dk l I0 H0 I H' env σ' s ∧ Sm I1 I ∧ Post (forM' p mb (ds.drop (i + 1)) env s) (flP X.K dk l I0 H0 I D) (exS X.K dk l W I0 H0),
      fun σ' H' h => ⟨_, by omega, rfl, hlt, h⟩, fun x H3 y => ?_⟩
    obtain ⟨I3, x3, w3, r3⟩ := wk.yld I2 H2 s2 i x H3 d g2 (g2.trans k2.wo.sub) k2.wo y hd
    obtain ⟨env3, e3, q3⟩ := q2.bind.opt
    have k3 := k2.grow x3 w3
    refine gpat_ok w3.sub p d x env2 env3 σ2 _ k3.eok r3 e3 fun σ4 k4 c4 => ?_
    refine ⟨I3, env3, s2, k3.chg k4 c4, q3.bind.mono (fun f s5 q5 => ?_) fun _ _ _ h => h⟩
    cases f with
    | nx e => exact fun σ' I' H' g' k' => ⟨I', e, s5, k', (g2.trans x3.grow).trans g', q5.mono (fun _ _ h => h.shift (x3.grow.trans g')) fun _ _ _ h => h⟩
    | ct e => exact fun σ' I' H' g' k' => ⟨I', e, s5, k', (g2.trans x3.grow).trans g', q5.mono (fun _ _ h => h.shift (x3.grow.trans g')) fun _ _ _ h => h⟩
    | bk e => exact fun σ' I' H' g' k' => q5 σ' I' H' (x3.grow.trans g') k'
    | rt d => exact q5
  · have hdr : ds.drop i = [] := List.drop_eq_nil_of_le (by omega)
    rw [hdr] at q2
    exact .inl ⟨wk.stop I2 H2 s2 i g2 (g2.trans k2.wo.sub) k2.wo (by omega), q2 σ2 I2 H2 (Sm.refl I2) k2⟩
end
end PV

end

section
set_option maxRecDepth 100000
namespace PV
open PySem PySem.Spec PyProof.Rows L2

/-! ### lists and tuples alike: t tells which -/
def SqA (K : PySem.W.Frag) (t : Bool) (H : Hp) (a : Addr) (xs : List V) : Prop := match t with
  | true => SqT K H a xs
  | false => SqL K H a xs
def ItA (t : Bool) (h : Heap) (it a : Addr) (i : Nat) : Prop := match t with
  | true => h.IsTupleIter it a i
  | false => h.IsListIter it a i
def IsA (t : Bool) (h : Heap) (a : Addr) (its : Array Value) : Prop := match t with
  | true => h.IsTuple a its
  | false => h.IsList a its
def obA (t : Bool) (a : Addr) : Obj := match t with
  | true => { cls := .type "tuple_iterator", data := .fields #[.ref a, .int 0 0] }
  | false => { cls := .type "list_iterator", data := .fields #[.ref a, .int 0 0] }
theorem ItA.obj {t : Bool} {h : Heap} {it a : Addr} {i : Nat} (x : ItA t h it a i) : ∃ o, h.get? it = some o ∧ ∀ v, o.data ≠ .cell v := by
  cases t with
  | true =>
    obtain ⟨o, e, _, d⟩ := (show h.IsTupleIter it a i from x)
    exact ⟨o, e, fun v z => by rw [d] at z; cases z⟩
  | false =>
    obtain ⟨o, e, _, d⟩ := (show h.IsListIter it a i from x)
    exact ⟨o, e, fun v z => by rw [d] at z; cases z⟩
theorem ItA.at {t : Bool} {h h' : Heap} {it a : Addr} {i : Nat} (x : ItA t h it a i) (k : ∀ o, h.get? it = some o → h'.get? it = some o) : ItA t h' it a i := by
  cases t with
  | true => exact Heap.IsTupleIter.at (show h.IsTupleIter it a i from x) k
  | false => exact Heap.IsListIter.at (show h.IsListIter it a i from x) k
theorem ItA.new {t : Bool} {h : Heap} {it a : Addr} (e : h.get? it = some (obA t a)) : ItA t h it a 0 := by
  cases t with
  | true => exact ⟨_, e, rfl, rfl⟩
  | false => exact ⟨_, e, rfl, rfl⟩
theorem drawsA {prog : Program} {w : World} {A : Around} (t : Bool) (hh : A.handled = none) (it a : Addr) (hne : a ≠ it) (its : Array Value) :
    Draws prog w A it [it, a] its.size (fun i v => its[i]? = some v) (fun i h => ItA t h it a i ∧ IsA t h a its) := by
  cases t with
  | true => exact Draws.tuple hh it a hne its
  | false => exact Draws.list hh it a hne its
theorem beginsA (t : Bool) (a : Addr) (its : Array Value) : Begins (.ref a) (obA t a) fun h => IsA t h a its := by
  cases t with
  | true => exact begins_tuple a its
  | false => exact begins_list a its
section
variable {X : Cx} {pins : List (Addr × Obj)} {σ : L2.St} {H : Hp} {s : Shared}
theorem invA {t : Bool} {a : Addr} {xs : List V} (I : Inv X pins σ H s) (h : SqA X.K t H a xs) : ∃ its : List Value, Vals xs its ∧ IsA t s.heap a its.toArray ∧ a < s.heap.objs.size := by
  cases t with
  | true =>
    obtain ⟨its, r, p, _⟩ := I.tuple h
    exact ⟨its, r, p, p.lt⟩
  | false =>
    obtain ⟨its, r, p, _⟩ := I.list h
    exact ⟨its, r, p.isList, p.lt⟩
theorem injA {t : Bool} {a : Addr} {xs ys : List V} (I : Inv X pins σ H s) (h : SqA X.K t H a xs) (h' : SqA X.K t H a ys) : xs = ys := by
  cases t with
  | true => exact I.tuple_inj h h'
  | false => exact I.list_inj h h'
end
/-! ### enumerate -/
def IteA (K : PySem.W.Frag) (t : Bool) (a : Addr) : It :=
  ⟨fun i H => ∃ (xs : List V) (x : V), SqA K t H a xs ∧ xs[i]? = some x, fun i H v H' => ∃ T x, v = .ref T ∧ H T = none ∧ H' = upd H T (.tup [.int (i : Nat), x]) ∧ ∀ xs, SqA K t H a xs → xs[i]? = some x, fun i H => ∃ xs : List V, SqA K t H a xs ∧ xs.length = i⟩
theorem turn_enumA {P : Program} {w : World} {K : PySem.W.Frag} {elts : List Expr} {kk : Nat} {tpos : Pos} (t : Bool) (a e it : Addr) (hea : e ≠ a) (hia : a ≠ it) :
    Turn P w K (.Tuple elts kk tpos) (IteA K t a) [e, it] e (fun i h => (∃ old, IsEnum h e it ((0 : Int) + (i : Int)) old) ∧ ItA t h it a i ∧ e ≠ it) where
  mem := by simp
  obj := fun i h st b hb => by
    obtain ⟨⟨old, he⟩, hi, _⟩ := st
    have e' : b = e ∨ b = it := by simpa using hb
    rcases e' with z | z
    · rw [z]; exact ⟨_, he, fun v q => nomatch q⟩
    · rw [z]; exact hi.obj
  keep := fun i h h' st k => let ⟨⟨old, he⟩, hi, hne⟩ := st; ⟨⟨old, k e (by simp) _ he⟩, hi.at fun o q => k it (by simp) o q, hne⟩
  item := by
    intro X hP hw hK hc i pins s σ H E J hf st hg
    subst hP hw hK
    obtain ⟨hen, hit, hne⟩ := st
    obtain ⟨xs, x, hq, hx⟩ := hg
    obtain ⟨its, rv, p, _⟩ := invA J hq
    obtain ⟨u, hu, ru⟩ := rv.get hx
    have hil : i < its.toArray.size := by
      have := (List.getElem?_eq_some_iff.mp hu).1
      simpa using this
    have Wk := WalksT.enumFrom (0 : Int) (drawsA (prog := X.prog) (w := X.w) (A := X.A.in1) t (J.ok.hd hc) it a hia its.toArray) e hne (by simp [hne, hea]) (by simp)
    refine Wk.item i s _ E hil ⟨hen, hit, p⟩ fun T vals h1 tk hv hT tup mid kp => ?_
    obtain ⟨t1, u', hu', rfl⟩ := hv
    have eu : u' = u := by
      have : its[i]? = some u' := by simpa using hu'
      rw [hu] at this
      exact (Option.some.inj this).symm
    subst eu
    refine ⟨_, rfl, Wk.go elts kk tpos i T { s with heap := h1, toks := tk } _ E mid fun h2 st2 kp2 => ?_⟩
    obtain ⟨hen2, hit2, _⟩ := st2
    have hTw : T ∉ [e, it] := Wk.apart i T h1 mid
    obtain ⟨oT, hoT, cT, nT, dT⟩ := tup
    have hT2 : h2.get? T = some oT := kp2 T oT hTw hoT
    have new : ObjOk X.prog X.w (upd H T (.tup [.int (i : Nat), x])) h2 T (.tup [.int (i : Nat), x]) :=
      ⟨by show 2 ≤ sizeLine; decide, [.int ((0 : Int) + (i : Int)) t1, u'], .cons ⟨t1, by rw [Int.zero_add]⟩ (.cons ru .nil), ⟨oT, hT2, cT, nT, dT⟩⟩
    have I1 : Inv X pins σ (upd H T (.tup [.int (i : Nat), x])) { s with heap := h2, toks := tk } :=
      J.turnedNew (ch := [e, it]) (fun b ob hb q => kp2 b ob hb (kp b ob hb q)) hf hT new
    refine ⟨.ref T, _, I1, rfl, ⟨T, x, rfl, J.hok.fresh hT, rfl, fun ys hy => by rw [injA J hy hq]; exact hx⟩, ⟨hen2, hit2, hne⟩, fun b hb => ?_⟩
    have hbT : b ≠ T := fun z => hTw (z ▸ hb)
    rw [upd_ne hbT]
    exact (hf b hb).1
  done := by
    intro X hP hw hK hc i pins s σ H E J hf st hg
    subst hP hw hK
    obtain ⟨hen, hit, hne⟩ := st
    obtain ⟨xs, hq, hx⟩ := hg
    obtain ⟨its, rv, p, _⟩ := invA J hq
    have hl : its.toArray.size = i := by rw [List.size_toArray, ← rv.length]; exact hx
    have Wk := WalksT.enumFrom (0 : Int) (drawsA (prog := X.prog) (w := X.w) (A := X.A.in1) t (J.ok.hd hc) it a hia its.toArray) e hne (by simp [hne, hea]) (by simp)
    have hst : (∃ old, IsEnum s.heap e it ((0 : Int) + ((its.toArray.size : Nat) : Int)) old) ∧ ItA t s.heap it a its.toArray.size ∧ IsA t s.heap a its.toArray := by
      rw [hl]
      exact ⟨hen, hit, p⟩
    exact Wk.done s _ E hst fun h' tk kp => ⟨rfl, J.turnedL (ch := [e, it]) (fun b o hb q => kp b o hb q) hf⟩
  self := fun A i s Q E st h => let ⟨⟨_, he⟩, _⟩ := st; wpAny_pyIter_enum he h
/-! ### zip of two -/
def ItzA (K : PySem.W.Frag) (t u : Bool) (a b : Addr) : It :=
  ⟨fun i H => ∃ (xs ys : List V) (x y : V), SqA K t H a xs ∧ SqA K u H b ys ∧ xs[i]? = some x ∧ ys[i]? = some y,
    fun i H v H' => ∃ T x y, v = .ref T ∧ H T = none ∧ H' = upd H T (.tup [x, y]) ∧ (∀ xs, SqA K t H a xs → xs[i]? = some x) ∧ ∀ ys, SqA K u H b ys → ys[i]? = some y,
    fun i H => ∃ xs ys : List V, SqA K t H a xs ∧ SqA K u H b ys ∧ min xs.length ys.length = i⟩
theorem turn_zipA {P : Program} {w : World} {K : PySem.W.Frag} {elts : List Expr} {kk : Nat} {tpos : Pos} (t u : Bool) {a b z TI TO i1 i2 : Addr} (D : ZipSep2 z TI TO i1 i2 [i1, a] [i2, b]) (n1 : a ≠ i1) (n2 : b ≠ i2) :
    Turn P w K (.Tuple elts kk tpos) (ItzA K t u a b) [z, TI, TO, i1, i2] z (fun i h => IsZip h z TI TO .none ∧ IsTupOf2 h TI (.ref i1) (.ref i2) ∧ (∃ x y, IsTupOf2 h TO x y) ∧ ItA t h i1 a i ∧ ItA u h i2 b i) where
  mem := by simp
  obj := fun i h st c hc => by
    obtain ⟨hz, hTI, ⟨x, y, hTO⟩, h1, h2⟩ := st
    have e' : c = z ∨ c = TI ∨ c = TO ∨ c = i1 ∨ c = i2 := by simpa using hc
    rcases e' with q | q | q | q | q
    · rw [q]; exact ⟨_, hz, fun v q => nomatch q⟩
    · rw [q]; exact ⟨_, hTI, fun v q => nomatch q⟩
    · rw [q]; exact ⟨_, hTO, fun v q => nomatch q⟩
    · rw [q]; exact h1.obj
    · rw [q]; exact h2.obj
  keep := fun i h h' st k => by
    obtain ⟨hz, hTI, ⟨x, y, hTO⟩, h1, h2⟩ := st
    exact ⟨k z (by simp) _ hz, k TI (by simp) _ hTI, ⟨x, y, k TO (by simp) _ hTO⟩, h1.at fun o q => k i1 (by simp) o q, h2.at fun o q => k i2 (by simp) o q⟩
  item := by
    intro X hP hw hK hc i pins s σ H E J hf st hg
    subst hP hw hK
    obtain ⟨hz, hTI, hTO, h1, h2⟩ := st
    obtain ⟨xs, ys, x, y, hqx, hqy, hx, hy⟩ := hg
    obtain ⟨its, rv, p, _⟩ := invA J hqx
    obtain ⟨its2, rv2, p2, _⟩ := invA J hqy
    obtain ⟨v1, hv1, r1⟩ := rv.get hx
    obtain ⟨v2, hv2, r2⟩ := rv2.get hy
    have l1 : i < its.length := (List.getElem?_eq_some_iff.mp hv1).1
    have l2 : i < its2.length := (List.getElem?_eq_some_iff.mp hv2).1
    have Wk := WalksT.zipD2 D (drawsA (prog := X.prog) (w := X.w) (A := X.A.in1) t (J.ok.hd hc) i1 a n1 its.toArray) (drawsA (prog := X.prog) (w := X.w) (A := X.A.in1) u (J.ok.hd hc) i2 b n2 its2.toArray)
    refine Wk.item i s _ E (by simp; omega) ⟨hz, hTI, hTO, ⟨h1, p⟩, ⟨h2, p2⟩⟩ fun T vals g1 tk hv hT tup mid kp => ?_
    obtain ⟨w1, w2, hw1, hw2, rfl⟩ := hv
    have e1 : w1 = v1 := by
      have : its[i]? = some w1 := by simpa using hw1
      rw [hv1] at this
      exact (Option.some.inj this).symm
    have e2 : w2 = v2 := by
      have : its2[i]? = some w2 := by simpa using hw2
      rw [hv2] at this
      exact (Option.some.inj this).symm
    subst e1 e2
    refine ⟨_, rfl, Wk.go elts kk tpos i T { s with heap := g1, toks := tk } _ E mid fun g2 st2 kp2 => ?_⟩
    obtain ⟨hz2, hTI2, hTO2, ⟨h12, _⟩, ⟨h22, _⟩⟩ := st2
    have hTw : T ∉ [z, TO, i1, i2] := Wk.apart i T g1 mid
    have hTI' : T ≠ TI := fun q => by
      subst q
      exact absurd (Heap.lt_size hTI) (Nat.not_lt.mpr hT)
    obtain ⟨oT, hoT, cT, nT, dT⟩ := tup
    have hT2 : g2.get? T = some oT := kp2 T oT hTw hoT
    have new : ObjOk X.prog X.w (upd H T (.tup [x, y])) g2 T (.tup [x, y]) :=
      ⟨by show 2 ≤ sizeLine; decide, [w1, w2], .cons r1 (.cons r2 .nil), ⟨oT, hT2, cT, nT, dT⟩⟩
    have sub : ∀ c, c ∉ [z, TI, TO, i1, i2] → c ∉ [z, TO, i1, i2] := fun c hc q => hc (by
      have e' : c = z ∨ c = TO ∨ c = i1 ∨ c = i2 := by simpa using q
      rcases e' with q | q | q | q <;> (rw [q]; simp))
    have I1 : Inv X pins σ (upd H T (.tup [x, y])) { s with heap := g2, toks := tk } :=
      J.turnedNew (ch := [z, TI, TO, i1, i2]) (fun c ob hb q => kp2 c ob (sub c hb) (kp c ob (sub c hb) q)) hf hT new
    refine ⟨.ref T, _, I1, rfl, ⟨T, x, y, rfl, J.hok.fresh hT, rfl, fun l hl => by rw [injA J hl hqx]; exact hx, fun l hl => by rw [injA J hl hqy]; exact hy⟩, ⟨hz2, hTI2, hTO2, h12, h22⟩, fun c hcm => ?_⟩
    have hcT : c ≠ T := fun q => by
      subst q
      have e' : c = z ∨ c = TI ∨ c = TO ∨ c = i1 ∨ c = i2 := by simpa using hcm
      rcases e' with q | q | q | q | q
      · exact hTw (by rw [q]; simp)
      · exact hTI' q
      · exact hTw (by rw [q]; simp)
      · exact hTw (by rw [q]; simp)
      · exact hTw (by rw [q]; simp)
    rw [upd_ne hcT]
    exact (hf c hcm).1
  done := by
    intro X hP hw hK hc i pins s σ H E J hf st hg
    subst hP hw hK
    obtain ⟨hz, hTI, hTO, h1, h2⟩ := st
    obtain ⟨xs, ys, hqx, hqy, he⟩ := hg
    obtain ⟨its, rv, p, _⟩ := invA J hqx
    obtain ⟨its2, rv2, p2, _⟩ := invA J hqy
    have Wk := WalksT.zipD2 D (drawsA (prog := X.prog) (w := X.w) (A := X.A.in1) t (J.ok.hd hc) i1 a n1 its.toArray) (drawsA (prog := X.prog) (w := X.w) (A := X.A.in1) u (J.ok.hd hc) i2 b n2 its2.toArray)
    have hl : min its.toArray.size its2.toArray.size = i := by
      rw [List.size_toArray, List.size_toArray, ← rv.length, ← rv2.length]
      exact he
    have hst : IsZip s.heap z TI TO .none ∧ IsTupOf2 s.heap TI (.ref i1) (.ref i2) ∧ (∃ a1 a2, IsTupOf2 s.heap TO a1 a2) ∧ (ItA t s.heap i1 a (min its.toArray.size its2.toArray.size) ∧ IsA t s.heap a its.toArray) ∧ (ItA u s.heap i2 b (min its.toArray.size its2.toArray.size) ∧ IsA u s.heap b its2.toArray) := by
      rw [hl]
      exact ⟨hz, hTI, hTO, ⟨h1, p⟩, ⟨h2, p2⟩⟩
    have sub : ∀ c, c ∉ [z, TI, TO, i1, i2] → c ∉ [z, TO, i1, i2] := fun c hc q => hc (by
      have e' : c = z ∨ c = TO ∨ c = i1 ∨ c = i2 := by simpa using q
      rcases e' with q | q | q | q <;> (rw [q]; simp))
    exact Wk.done s _ E hst fun h' tk kp => ⟨rfl, J.turnedL (ch := [z, TI, TO, i1, i2]) (fun c o hb q => kp c o (sub c hb) q) hf⟩
  self := fun A i s Q E st h => wpAny_pyIter_zip st.1 h
/-! ### enumerate(v): its two new cells -/
set_option maxHeartbeats 1000000 in
theorem enum_new1 {v : Value} {o : Obj} {G : Heap → Prop} (B : Begins v o G) :
    Meets (Builtin.«enumerate.__new__» ⟨[.type "enumerate", v], []⟩) (fun _ R z => G z.heap ∧
      R (.ok (.ret (.ref (z.heap.push o).objs.size))) { z with heap := (z.heap.push o).push { cls := .type "enumerate", data := .fields #[.none, .bool false, .ref z.heap.objs.size, rawInt 0, .none, .none] } }) :=
  .of_wp fun P w A R z hz => by
    obtain ⟨hp, g, d, tk, os⟩ := z
    obtain ⟨g1, q⟩ := hz
    have su := sub_enumerate
    have it : ∀ {B' : Around} {E : Value → Shared → Prop} {Q : Value → Shared → Prop}, Q (.ref hp.objs.size) ⟨hp.push o, g, d, tk, os⟩ → wpAny (model P w) B' (pyIter v) Q E ⟨hp, g, d, tk, os⟩ :=
      fun y => B.iter P w _ _ ⟨hp, g, d, tk, os⟩ _ g1 y
    wp_walk using it
    refine wpAny_stack_any fun sk => wpAny_pure ?_
    split
    · rename_i c _ _ _ _ _
      cases (c == Value.type "enumerate") <;> (wp_walk using it; exact ⟨_, rfl, q⟩)
    · wp_walk using it
      exact ⟨_, rfl, q⟩
theorem enum_begins1 {P : Program} {w : World} {A : Around} {E : Value → Shared → Prop} {z : Shared} {v : Value} {o : Obj} {G : Heap → Prop} {Q : Value → Shared → Prop} (B : Begins v o G) (g1 : G z.heap)
    (q : ∀ h', IsEnum h' (z.heap.objs.size + 1) z.heap.objs.size 0 .none → h'.get? z.heap.objs.size = some o → h'.objs.size = z.heap.objs.size + 2 → (∀ b u, z.heap.get? b = some u → h'.get? b = some u) → Q (.ref (z.heap.objs.size + 1)) { z with heap := h' }) :
    wpAny (model P w) A (call (.type "enumerate") [v]) Q E z := by
  refine callType_new F.called_enumerate (by decide) (F.typeCall_enumerate_1 _) (F.newCall_enumerate_1 _) (fun ob => F.args_object_init_2 ob _) F.entry_enumerate_new (enum_new1 B) ⟨g1, ?_⟩
  have ez : (z.heap.push o).objs.size = z.heap.objs.size + 1 := Heap.size_push ..
  show _ ∧ _
  rw [ez]
  have ie : IsEnum ((z.heap.push o).push { cls := .type "enumerate", data := .fields #[.none, .bool false, .ref z.heap.objs.size, rawInt 0, .none, .none] }) (z.heap.objs.size + 1) z.heap.objs.size 0 .none := by
    have y := Heap.get?_push_size (z.heap.push o) (o := { cls := .type "enumerate", data := .fields #[.none, .bool false, .ref z.heap.objs.size, rawInt 0, .none, .none] }) rfl
    rw [ez] at y
    exact y
  exact ⟨⟨_, ie, rfl⟩, q _ ie (Heap.get?_push_of_some _ (Heap.get?_push_size _ B.free)) (by rw [Heap.size_push, ez]) fun b u y => Heap.get?_push_of_some _ (Heap.get?_push_of_some _ y)⟩
/-! ### as walked things -/
def iEnumA (K : PySem.W.Frag) (ta : TA) : TI := fun σ H R => ta σ H fun vs H1 => ∃ t a xs, vs = [.ref a] ∧ SqA K t H1 a xs ∧ R (IteA K t a) H1
theorem pi_enumA {X : Cx} {e : Expr} {ta : TA} {p pos tpos : Pos} {elts : List Expr} {kk : Nat} (hg : Gl X "enumerate") (hm : X.mg "enumerate" = none) (ha : PA X [e] ta) (hs : starEach [e] X.env = [(false, eval e X.env)] := by rfl) :
    PI X (.Tuple elts kk tpos) (.Call (.Name "enumerate" p) [e] [] pos) (iEnumA X.K ta) := by
  refine ⟨fun pins s σ H R J h => ?_⟩
  refine Call_ (ld_blt J hg hm boot_enumerate (PyProof.Rows.callWith_type1 (thn (ha.run pos pins s σ H _ J h) fun us s1 ⟨vs, H1, I1, r1, q1⟩ => ?_) hs rfl))
  obtain ⟨t, a, xs, ex, hq, q⟩ := q1
  subst ex
  cases r1 with
  | cons r rr =>
    cases rr
    cases r
    obtain ⟨its, rv, p', hlt⟩ := invA I1 hq
    have ha1 : a ≠ s1.heap.objs.size := Nat.ne_of_lt hlt
    have ha2 : s1.heap.objs.size + 1 ≠ a := Nat.ne_of_gt (Nat.lt_succ_of_lt hlt)
    refine enum_begins1 (beginsA t a its.toArray) p' fun h' he hit hsz hk => wpAny_pyIter_enum he ?_
    have I2 : Inv X pins σ H1 { s1 with heap := h' } := I1.kept (t' := s1.toks) hk
    refine ⟨s1.heap.objs.size + 1, [s1.heap.objs.size + 1, s1.heap.objs.size], _, _, H1, rfl, I2, turn_enumA t a (s1.heap.objs.size + 1) s1.heap.objs.size ha2 ha1, ⟨⟨.none, he⟩, ItA.new hit, Nat.succ_ne_self _⟩, fun b hb => ?_, q⟩
    have e' : b = s1.heap.objs.size + 1 ∨ b = s1.heap.objs.size := by simpa using hb
    have hle : s1.heap.objs.size ≤ b := by
      rcases e' with z | z
      · rw [z]; exact Nat.le_add_right _ _
      · rw [z]; exact Nat.le_refl _
    exact I1.fpOk hle (I1.hok.fresh hle)
def iZipM (K : PySem.W.Frag) (ta : TA) : TI := fun σ H R => ta σ H fun vs H1 => ∃ t u a b xs ys, vs = [.ref a, .ref b] ∧ SqA K t H1 a xs ∧ SqA K u H1 b ys ∧ R (ItzA K t u a b) H1
theorem pi_zipM {X : Cx} {e e2 : Expr} {ta : TA} {p pos tpos : Pos} {elts : List Expr} {kk : Nat} (hg : Gl X "zip") (hm : X.mg "zip" = none) (ha : PA X [e, e2] ta)
    (hs : starEach [e, e2] X.env = (false, eval e X.env) :: starEach [e2] X.env := by rfl) (hpl : (backTo pos (starEach [e2] X.env)).any (·.1) = false := by rfl) :
    PI X (.Tuple elts kk tpos) (.Call (.Name "zip" p) [e, e2] [] pos) (iZipM X.K ta) := by
  refine ⟨fun pins s σ H R J h => ?_⟩
  refine Call_ (ld_blt J hg hm PyProof.Rows.boot_zip (PyProof.Rows.callWith_type1 (thn (ha.run pos pins s σ H _ J h) fun us s1 ⟨vs, H1, I1, r1, q1⟩ => ?_) hs hpl))
  obtain ⟨t, u, a, b, xs, ys, ex, hqx, hqy, q⟩ := q1
  subst ex
  cases r1 with
  | cons r rr =>
    cases rr with
    | cons r' rr =>
      cases rr
      cases r
      cases r'
      obtain ⟨its, rv, p1, la⟩ := invA I1 hqx
      obtain ⟨its2, rv2, p2, lb⟩ := invA I1 hqy
      refine zip_begins2 (beginsA t a its.toArray) (beginsA u b its2.toArray) p1 p2 fun h' hz hTI hTO h1 h2 hsz hk => wpAny_pyIter_zip hz ?_
      have I2 : Inv X pins σ H1 { s1 with heap := h' } := I1.kept (t' := s1.toks) hk
      refine ⟨s1.heap.objs.size + 4, [s1.heap.objs.size + 4, s1.heap.objs.size + 2, s1.heap.objs.size + 3, s1.heap.objs.size, s1.heap.objs.size + 1], _, _, H1, rfl, I2,
        turn_zipA t u (zip_sep2 (fp1 := [a]) (fp2 := [b]) (by simpa using la) (by simpa using lb)) (Nat.ne_of_lt la) (Nat.ne_of_lt (Nat.lt_succ_of_lt lb)), ⟨hz, hTI, ⟨_, _, hTO⟩, ItA.new h1, ItA.new h2⟩, fun c hcm => ?_, q⟩
      have e' : c = s1.heap.objs.size + 4 ∨ c = s1.heap.objs.size + 2 ∨ c = s1.heap.objs.size + 3 ∨ c = s1.heap.objs.size ∨ c = s1.heap.objs.size + 1 := by simpa using hcm
      have hle : s1.heap.objs.size ≤ c := by
        rcases e' with z | z | z | z | z
        · rw [z]; exact Nat.le_add_right _ _
        · rw [z]; exact Nat.le_add_right _ _
        · rw [z]; exact Nat.le_add_right _ _
        · rw [z]; exact Nat.le_refl _
        · rw [z]; exact Nat.le_add_right _ _
      exact I1.fpOk hle (I1.hok.fresh hle)
end PV

end

section
set_option maxRecDepth 100000
namespace PV
open PySem PySem.Spec PyProof.Rows L2

/-! ### what is walked, by the mirror -/
def eItems (m : En → M D) : En → M (List D) := fun env => andThen (m env) fun d => opt (seqOf d)
def eOwnItems (i : Nat) : En → M (List D) := fun env => match env[i]? with
  | some (.own (.lst ds)) => ret ds
  | some (.val d) => opt (seqOf d)
  | _ => bad
def rangeD (lo hi : Int) : List D := (List.range (hi - lo).toNat).map fun (i : Nat) => .int (lo + (i : Int))
def small62 (i : Int) : Bool := decide (-4611686018427387904 ≤ i) && decide (i < 4611686018427387904)
def gRange1 : List D → Option (List D)
  | [.int j] => if small62 j = true then some (rangeD 0 j) else none
  | _ => none
def gRange2 : List D → Option (List D)
  | [.int i, .int j] => if (small62 i && small62 j) = true then some (rangeD i j) else none
  | _ => none
theorem gRange1_inv {ds out : List D} (h : gRange1 ds = some out) : ∃ j, ds = [.int j] ∧ (if small62 j = true then some (rangeD 0 j) else none) = some out := by
  rcases ds with _ | ⟨d, _ | ⟨e, r⟩⟩
  · cases h
  · cases d <;> first | cases h | exact ⟨_, rfl, h⟩
  · cases d <;> cases h
theorem gRange2_inv {ds out : List D} (h : gRange2 ds = some out) : ∃ i j, ds = [.int i, .int j] ∧ (if (small62 i && small62 j) = true then some (rangeD i j) else none) = some out := by
  rcases ds with _ | ⟨d, _ | ⟨e, _ | ⟨f, r⟩⟩⟩
  · cases h
  · cases d <;> cases h
  · cases d <;> cases e <;> first | cases h | exact ⟨_, _, rfl, h⟩
  · cases d <;> cases e <;> cases h
def enumD : Nat → List D → List D
  | _, [] => []
  | i, d :: ds => .tup [.int (i : Nat), d] :: enumD (i + 1) ds
def gEnum : List D → Option (List D)
  | [d] => (seqOf d).map (enumD 0)
  | _ => none
def zipD : List D → List D → List D
  | x :: xs, y :: ys => .tup [x, y] :: zipD xs ys
  | _, _ => []
def gZip : List D → Option (List D)
  | [d, e] => (seqOf d).bind fun xs => (seqOf e).map fun ys => zipD xs ys
  | _ => none
theorem gEnum_inv {ds out : List D} (h : gEnum ds = some out) : ∃ d, ds = [d] ∧ (seqOf d).map (enumD 0) = some out := by
  rcases ds with _ | ⟨d, _ | ⟨e, r⟩⟩
  · cases h
  · exact ⟨d, rfl, h⟩
  · cases h
theorem gZip_inv {ds out : List D} (h : gZip ds = some out) : ∃ d e, ds = [d, e] ∧ ((seqOf d).bind fun xs => (seqOf e).map fun ys => zipD xs ys) = some out := by
  rcases ds with _ | ⟨d, _ | ⟨e, _ | ⟨f, r⟩⟩⟩
  · cases h
  · cases h
  · exact ⟨d, e, rfl, h⟩
  · cases h
def eMapI (g : List D → Option (List D)) (a : En → M (List D)) : En → M (List D) := fun env => andThen (a env) fun xs => opt (g xs)

theorem small62_ok {i : Int} (h : small62 i = true) : -(2 ^ 62) ≤ i ∧ i < 2 ^ 62 := by
  unfold small62 at h
  rw [Bool.and_eq_true] at h
  exact ⟨of_decide_eq_true h.1, of_decide_eq_true h.2⟩
theorem enumD_get : ∀ (ds : List D) (k i : Nat), (enumD k ds)[i]? = (ds[i]?).map fun d => .tup [.int ((k + i : Nat) : Int), d]
  | [], k, i => by simp [enumD]
  | d :: ds, k, 0 => by simp [enumD]
  | d :: ds, k, i + 1 => by
    simp only [enumD, List.getElem?_cons_succ]
    rw [enumD_get ds (k + 1) i]
    have : k + 1 + i = k + (i + 1) := by omega
    rw [this]
theorem enumD_len : ∀ (ds : List D) (k : Nat), (enumD k ds).length = ds.length
  | [], _ => rfl
  | d :: ds, k => by simp [enumD, enumD_len ds]
theorem zipD_get : ∀ (xs ys : List D) (i : Nat) (d : D), (zipD xs ys)[i]? = some d → ∃ x y, xs[i]? = some x ∧ ys[i]? = some y ∧ d = .tup [x, y]
  | [], ys, i, d, h => by simp [zipD] at h
  | x :: xs, [], i, d, h => by simp [zipD] at h
  | x :: xs, y :: ys, 0, d, h => by
    simp only [zipD, List.getElem?_cons_zero] at h
    cases h
    exact ⟨x, y, rfl, rfl, rfl⟩
  | x :: xs, y :: ys, i + 1, d, h => by
    simp only [zipD, List.getElem?_cons_succ] at h ⊢
    exact zipD_get xs ys i d h
theorem zipD_len : ∀ (xs ys : List D), (zipD xs ys).length = min xs.length ys.length
  | [], ys => by simp [zipD]
  | x :: xs, [] => by simp [zipD]
  | x :: xs, y :: ys => by
    simp only [zipD, List.length_cons, zipD_len xs ys]
    omega
section
variable {X : Cx} {dk l : Addr} {W : WX} {pos : Pos} {tg : Expr}
/-- a frozen sequence, as it is found -/
theorem seq_at {I H : Hp} {s : Dk} {d : D} {ds : List D} {v : V} (w : Wo dk l I H s) (r : Rep X.K I dk d v) (e : seqOf d = some ds) : ∃ t a vs, v = .ref a ∧ SqA X.K t I a vs ∧ RepL X.K I dk ds vs := by
  cases d with
  | tup es =>
    cases e
    obtain ⟨a, vs, e1, e2, e3⟩ := r
    exact ⟨true, a, vs, e1, .of e2, e3⟩
  | lst es =>
    cases e
    obtain ⟨a, vs, e1, e2, e3⟩ := r
    exact ⟨false, a, vs, e1, .of e2, e3⟩
  | _ => cases e
theorem SqA.mono {K : PySem.W.Frag} {t : Bool} {H H' : Hp} {a : Addr} {xs : List V} (e : Sm H H') (h : SqA K t H a xs) : SqA K t H' a xs := by
  cases t with
  | true => exact e.sqT h
  | false => exact e.sqL h
def itA (K : PySem.W.Frag) (t : Bool) (a : Addr) : It := match t with
  | true => Itt K a
  | false => Itl K a
theorem walks_A {t : Bool} {a : Addr} {vs : List V} {B I : Hp} {ds : List D} (h : SqA X.K t B a vs) (r : RepL X.K I dk ds vs) : Walks X.K dk l (itA X.K t a) ds B I := by
  have e := r.length
  cases t with
  | true =>
    refine ⟨fun I' H' s i g b w hi => ⟨vs, vs[i]'(by omega), b.sqT h, by simp [show i < vs.length by omega]⟩, fun I' H' s i g b w hi => ⟨vs, b.sqT h, by omega⟩, fun I' H' s i x H'' d g b w y hd => ?_⟩
    obtain ⟨rfl, y⟩ := y
    obtain ⟨v, hv, rv⟩ := r.get hd
    have := y vs (b.sqT h)
    rw [hv] at this
    cases this
    exact ⟨I', Ext.refl, w, Rep.mono g d _ rv⟩
  | false =>
    refine ⟨fun I' H' s i g b w hi => ⟨vs, vs[i]'(by omega), b.sqL h, by simp [show i < vs.length by omega]⟩, fun I' H' s i g b w hi => ⟨vs, b.sqL h, by omega⟩, fun I' H' s i x H'' d g b w y hd => ?_⟩
    obtain ⟨rfl, y⟩ := y
    obtain ⟨v, hv, rv⟩ := r.get hd
    have := y vs (b.sqL h)
    rw [hv] at this
    cases this
    exact ⟨I', Ext.refl, w, Rep.mono g d _ rv⟩
/-- either of two ways to walk -/
theorem PI_or {e : Expr} {t t' : TI} (h : PI X tg e t) (h' : PI X tg e t') : PI X tg e (fun σ H R => t σ H R ∨ t' σ H R) := ⟨fun pins s σ H R J q => q.elim (h.run pins s σ H R J) (h'.run pins s σ H R J)⟩
theorem r_items {e : Expr} {m : En → M D} (h : PE X e (lift X.K dk l W m)) : PI X tg e (liftI X.K dk l W (eItems m)) := PI_imp (PI_or (pi_tup h) (pi_list h)) fun σ H R ⟨I, env, s, k, w, q⟩ => by
  have q1 := q.bind
  cases z : m env s with
  | bad => rw [z] at q1; exact q1.elim
  | exc c d s1 =>
    rw [z] at q1
    exact .inl ⟨I, env, s, k, w, by rw [z]; exact q1⟩
  | ok d s1 =>
    rw [z] at q1
    obtain ⟨ds, e1, q2⟩ := Post.opt q1
    cases d with
    | tup es =>
      refine .inl ⟨I, env, s, k, w, ?_⟩
      rw [z]
      intro v I1 H1 x1 w1 r1
      cases e1
      obtain ⟨a, vs, rfl, h1, h2⟩ := r1
      exact ⟨a, rfl, ⟨vs, .of (w1.sub _ _ h1)⟩, q2 _ I1 H1 x1 w1 (walks_A (t := true) (SqT.of h1) h2)⟩
    | lst es =>
      refine .inr ⟨I, env, s, k, w, ?_⟩
      rw [z]
      intro v I1 H1 x1 w1 r1
      cases e1
      obtain ⟨a, vs, rfl, h1, h2⟩ := r1
      exact ⟨a, rfl, ⟨vs, .of (w1.sub _ _ h1)⟩, q2 _ I1 H1 x1 w1 (walks_A (t := false) (SqL.of h1) h2)⟩
    | _ => cases e1
/-- for x in a list of one's own -/
theorem r_ownItems (i : Nat) {x : Str} {p : Pos} (h : PE X (.Name x p) (tVar i)) : PI X tg (.Name x p) (liftB X.K dk l W (eOwnItems i)) := PI_imp (PI_or (pi_tup h) (pi_list h)) fun σ H R ⟨I, env, s, k, w, q⟩ => by
  unfold eOwnItems at q
  cases hd : env[i]? with
  | none => rw [hd] at q; exact q.elim
  | some z =>
    rw [hd] at q
    cases z with
    | no => exact q.elim
    | own o =>
      cases o with
      | lst ds =>
        obtain ⟨p, h1, ⟨vs, h2, h3⟩, n1, n2, n3⟩ := k.own i _ hd
        refine .inr ⟨_, h1, p, rfl, ⟨vs, .of h2⟩, ?_⟩
        exact q _ (upd I p (.lst vs)) I H Ext.refl w (fun b x e => by
          by_cases hb : b = p
          · subst hb; rw [upd_same] at e; rw [h2]; exact e
          · rw [upd_ne hb] at e; exact w.sub b x e) (fun b x e => by
          by_cases hb : b = p
          · subst hb; exact .inr ⟨i, _, hd, h1⟩
          · rw [upd_ne hb] at e; exact .inl e) (by rw [upd_ne n1.symm]; exact w.idk) (by rw [upd_ne n2.symm]; exact w.il) (walks_A (t := false) (SqL.of upd_same) h3)
      | dK _ => exact q.elim
      | dT _ => exact q.elim
    | val d =>
      obtain ⟨ds, e1, q2⟩ := Post.opt q
      obtain ⟨v, h1, h2⟩ := k.val i d hd
      cases d with
      | tup es =>
        cases e1
        obtain ⟨a, vs, rfl, g1, g2⟩ := h2
        exact .inl ⟨_, h1, a, rfl, ⟨vs, .of (w.sub _ _ g1)⟩, q2 _ I I H Ext.refl w w.sub (fun _ _ h => .inl h) w.idk w.il (walks_A (t := true) (SqT.of g1) g2)⟩
      | lst es =>
        cases e1
        obtain ⟨a, vs, rfl, g1, g2⟩ := h2
        exact .inr ⟨_, h1, a, rfl, ⟨vs, .of (w.sub _ _ g1)⟩, q2 _ I I H Ext.refl w w.sub (fun _ _ h => .inl h) w.idk w.il (walks_A (t := false) (SqL.of g1) g2)⟩
      | _ => cases e1
theorem walks_range (lo hi : Int) {B I : Hp} : Walks X.K dk l (Itr lo (hi - lo).toNat) (rangeD lo hi) B I := by
  have e : (rangeD lo hi).length = (hi - lo).toNat := by simp [rangeD]
  refine ⟨fun I' H' s i g b w h => by rw [e] at h; exact h, fun I' H' s i g b w h => by rw [e] at h; show (hi - lo).toNat ≤ i; omega, fun I' H' s i x H'' d g b w y hd => ?_⟩
  obtain ⟨rfl, rfl⟩ := y
  refine ⟨I', Ext.refl, w, ?_⟩
  unfold rangeD at hd
  rw [List.getElem?_map] at hd
  cases z : (List.range (hi - lo).toNat)[i]? with
  | none => rw [z] at hd; cases hd
  | some k =>
    rw [z] at hd
    have hk : k = i := by
      have := List.getElem?_eq_some_iff.mp z
      obtain ⟨h1, h2⟩ := this
      rw [List.getElem_range] at h2
      exact h2.symm
    subst hk
    have e2 : D.int (lo + (k : Int)) = d := Option.some.inj hd
    subst e2
    rfl
theorem r_range1 {a : Expr} {n : En → M (List D)} {p : Pos} (hg : Gl X "range") (hm : X.mg "range" = none) (ha : PA X [a] (liftA X.K dk l W n)) (hs : starEach [a] X.env = [(false, eval a X.env)] := by rfl) :
    PI X tg (.Call (.Name "range" p) [a] [] pos) (liftI X.K dk l W (eMapI gRange1 n)) := PI_imp (pi_range1 hg hm ha hs) fun σ H R ⟨I, env, s, k, w, q⟩ => by
  refine ⟨I, env, s, k, w, q.bind.mono (fun ds s1 q vs I1 H1 x1 w1 r1 => ?_) fun _ _ _ h => h⟩
  obtain ⟨out, e1, q2⟩ := q.opt
  obtain ⟨j, rfl, e9⟩ := gRange1_inv e1
  · skip
    by_cases hj : small62 j = true
    · rw [if_pos hj] at e9
      cases e9
      obtain ⟨v, r, rfl, h1, h2⟩ := r1
      have h2' : r = [] := h2
      subst h2'
      obtain ⟨b1, b2⟩ := small62_ok hj
      refine ⟨j, by rw [show v = _ from h1], b1, b2, ?_⟩
      have := q2 (Itr 0 (j - 0).toNat) I1 H1 x1 w1 (walks_range 0 j)
      rw [Int.sub_zero] at this
      exact this
    · rw [if_neg hj] at e9; cases e9
theorem r_range2 {a b : Expr} {n : En → M (List D)} {p : Pos} (hg : Gl X "range") (hm : X.mg "range" = none) (ha : PA X [a, b] (liftA X.K dk l W n)) (hs : starEach [a, b] X.env = [(false, eval a X.env), (false, eval b X.env)] := by rfl) (hs2 : starEach [b] X.env = [(false, eval b X.env)] := by rfl) :
    PI X tg (.Call (.Name "range" p) [a, b] [] pos) (liftI X.K dk l W (eMapI gRange2 n)) := PI_imp (pi_range2 hg hm ha hs hs2) fun σ H R ⟨I, env, s, k, w, q⟩ => by
  refine ⟨I, env, s, k, w, q.bind.mono (fun ds s1 q vs I1 H1 x1 w1 r1 => ?_) fun _ _ _ h => h⟩
  obtain ⟨out, e1, q2⟩ := q.opt
  obtain ⟨i, j, rfl, e9⟩ := gRange2_inv e1
  · skip
    by_cases hj : (small62 i && small62 j) = true
    · rw [if_pos hj] at e9
      cases e9
      obtain ⟨v, r, rfl, h1, v', r', rfl, h2, h3⟩ := r1
      have h3' : r' = [] := h3
      subst h3'
      rw [Bool.and_eq_true] at hj
      obtain ⟨b1, b2⟩ := small62_ok hj.1
      obtain ⟨b3, b4⟩ := small62_ok hj.2
      exact ⟨i, j, by rw [show v = _ from h1, show v' = _ from h2], ⟨b1, b2, b3, b4⟩, q2 _ I1 H1 x1 w1 (walks_range i j)⟩
    · rw [if_neg hj] at e9; cases e9
variable {elts : List Expr} {kk : Nat} {tpos : Pos}
theorem r_enum {e : Expr} {n : En → M (List D)} {p : Pos} (hg : Gl X "enumerate") (hm : X.mg "enumerate" = none) (ha : PA X [e] (liftA X.K dk l W n)) (hs : starEach [e] X.env = [(false, eval e X.env)] := by rfl) :
    PI X (.Tuple elts kk tpos) (.Call (.Name "enumerate" p) [e] [] pos) (liftI X.K dk l W (eMapI gEnum n)) := PI_imp (pi_enumA hg hm ha hs) fun σ H R ⟨I, env, s, k, w, q⟩ => by
  refine ⟨I, env, s, k, w, q.bind.mono (fun ds s1 q vs I1 H1 x1 w1 r1 => ?_) fun _ _ _ h => h⟩
  obtain ⟨out, e1, q2⟩ := q.opt
  obtain ⟨d, rfl, e9⟩ := gEnum_inv e1
  · skip
    cases z : seqOf d with
    | none => rw [z] at e9; cases e9
    | some es =>
      rw [z] at e9
      cases e9
      obtain ⟨v, r, rfl, h1, h2⟩ := r1
      have h2' : r = [] := h2
      subst h2'
      obtain ⟨t, a, ws, rfl, h3, h4⟩ := seq_at w1 h1 z
      refine ⟨t, a, ws, rfl, h3.mono w1.sub, q2 _ I1 H1 x1 w1 ?_⟩
      have el := h4.length
      refine ⟨fun I' H' s i g b w hi => ⟨ws, ws[i]'(by rw [enumD_len] at hi; omega), h3.mono b, by rw [enumD_len] at hi; simp [show i < ws.length by omega]⟩, fun I' H' s i g b w hi => ⟨ws, h3.mono b, by rw [enumD_len] at hi; omega⟩, fun I' H' s i x H'' d' g b w y hd => ?_⟩
      obtain ⟨T, x', rfl, hT, rfl, hx⟩ := y
      rw [enumD_get] at hd
      cases z2 : es[i]? with
      | none => rw [z2] at hd; cases hd
      | some d2 =>
        rw [z2] at hd
        have hd' := Option.some.inj hd
        subst hd'
        obtain ⟨v2, hv2, r2⟩ := h4.get z2
        have := hx ws (h3.mono b)
        rw [hv2] at this
        cases this
        refine ⟨_, Ext.new w hT, w.new hT, T, _, rfl, upd_same, ?_⟩
        refine ⟨_, _, rfl, by rw [Nat.zero_add]; rfl, RepL.one (Rep.mono (g.trans (Sm.upd (w.sub.none hT))) _ _ r2)⟩
theorem r_zip {e e2 : Expr} {n : En → M (List D)} {p : Pos} (hg : Gl X "zip") (hm : X.mg "zip" = none) (ha : PA X [e, e2] (liftA X.K dk l W n)) (hs : starEach [e, e2] X.env = (false, eval e X.env) :: starEach [e2] X.env := by rfl) (hpl : (backTo pos (starEach [e2] X.env)).any (·.1) = false := by rfl) :
    PI X (.Tuple elts kk tpos) (.Call (.Name "zip" p) [e, e2] [] pos) (liftI X.K dk l W (eMapI gZip n)) := PI_imp (pi_zipM hg hm ha hs hpl) fun σ H R ⟨I, env, s, k, w, q⟩ => by
  refine ⟨I, env, s, k, w, q.bind.mono (fun ds s1 q vs I1 H1 x1 w1 r1 => ?_) fun _ _ _ h => h⟩
  obtain ⟨out, e1, q2⟩ := q.opt
  obtain ⟨d, f, rfl, e9⟩ := gZip_inv e1
  · skip
    cases z : seqOf d with
    | none => rw [z] at e9; cases e9
    | some es =>
      cases z2 : seqOf f with
      | none => rw [z, z2] at e9; cases e9
      | some fs =>
        rw [z, z2] at e9
        cases e9
        obtain ⟨v, r, rfl, h1, v', r', rfl, h2, h3⟩ := r1
        have h3' : r' = [] := h3
        subst h3'
        obtain ⟨t, a, ws, rfl, g1, g2⟩ := seq_at w1 h1 z
        obtain ⟨u, b, us, rfl, f1, f2⟩ := seq_at w1 h2 z2
        refine ⟨t, u, a, b, ws, us, rfl, g1.mono w1.sub, f1.mono w1.sub, q2 _ I1 H1 x1 w1 ?_⟩
        have el := g2.length
        have el2 := f2.length
        refine ⟨fun I' H' s i g b w hi => ⟨ws, us, ws[i]'(by rw [zipD_len] at hi; omega), us[i]'(by rw [zipD_len] at hi; omega), g1.mono b, f1.mono b, by rw [zipD_len] at hi; simp [show i < ws.length by omega], by rw [zipD_len] at hi; simp [show i < us.length by omega]⟩,
          fun I' H' s i g b w hi => ⟨ws, us, g1.mono b, f1.mono b, by rw [zipD_len] at hi; omega⟩, fun I' H' s i x H'' d' g b w y hd => ?_⟩
        obtain ⟨T, x', y', rfl, hT, rfl, hx, hy⟩ := y
        obtain ⟨d1, d2, hd1, hd2, rfl⟩ := zipD_get es fs i d' hd
        obtain ⟨v1, hv1, r1⟩ := g2.get hd1
        obtain ⟨v2, hv2, r2⟩ := f2.get hd2
        have q3 := hx ws (g1.mono b)
        rw [hv1] at q3
        cases q3
        have q4 := hy us (f1.mono b)
        rw [hv2] at q4
        cases q4
        have gg := g.trans (Sm.upd (w.sub.none hT) (o := .tup [x', y']))
        exact ⟨_, Ext.new w hT, w.new hT, T, _, rfl, upd_same, ⟨_, _, rfl, Rep.mono gg _ _ r1, RepL.one (Rep.mono gg _ _ r2)⟩⟩
end
end PV

end

section
set_option maxRecDepth 100000
namespace PV
open PySem PySem.Spec PyProof.Rows L2

/-! ### comprehensions -/
/-- no exception leaves -/
def noX {α : Type} (m : M α) : M α := fun s => match m s with
  | .exc _ _ _ => .bad
  | r => r
theorem noX_post {α : Type} {m : M α} {s : Dk} {P : α → Dk → Prop} {E E' : Nat → D → Dk → Prop} (h : Post (noX m s) P E) : Post (m s) P E' := by
  unfold noX at h
  cases q : m s with
  | bad => rw [q] at h; exact h
  | ok a s1 => rw [q] at h; exact h
  | exc c d s1 => rw [q] at h; exact h.elim
abbrev W0 : WX := fun _ _ _ _ => False
def wipeE (env : En) : List Nat → En
  | [] => env
  | v :: vs => (wipeE env vs).set v .no
def lcM (p : Pat) (t : En → M Bool) (e : En → M D) (env : En) : List D → M (List D)
  | [] => ret []
  | d :: ds => andThen (opt (bindP p d env)) fun e1 => andThen (noX (t e1)) fun c => if c = true then andThen (noX (e e1)) fun y => andThen (lcM p t e env ds) fun ys => ret (y :: ys) else lcM p t e env ds
def eLc (it : En → M (List D)) (p : Pat) (vs : List Nat) (t : En → M Bool) (e : En → M D) : En → M OD := fun env => andThen (it env) fun ds => if ds.length ≤ size7 then andThen (lcM p t e (wipeE env vs) ds) fun ys => ret (.lst ys) else bad
def lc2M (p : Pat) (t : En → M Bool) (it1 : En → M (List D)) (vs1 : List Nat) (p1 : Pat) (t1 : En → M Bool) (e : En → M D) (env : En) : List D → M (List D)
  | [] => ret []
  | d :: ds => andThen (opt (bindP p d env)) fun e1 => andThen (noX (t e1)) fun c => if c = true then andThen (noX (it1 e1)) fun ds1 => if ds1.length ≤ 1000 then andThen (lcM p1 t1 e (wipeE e1 vs1) ds1) fun ys => andThen (lc2M p t it1 vs1 p1 t1 e env ds) fun zs => ret (ys ++ zs) else bad else lc2M p t it1 vs1 p1 t1 e env ds
def eLc2 (it : En → M (List D)) (p : Pat) (vs : List Nat) (t : En → M Bool) (it1 : En → M (List D)) (vs1 : List Nat) (p1 : Pat) (t1 : En → M Bool) (e : En → M D) : En → M OD := fun env => andThen (it env) fun ds => if ds.length ≤ 1000 then andThen (lc2M p t it1 vs1 p1 t1 e (wipeE env vs) ds) fun ys => ret (.lst ys) else bad
def tYes' : En → M Bool := fun _ => ret true

section
variable {K : PySem.W.Frag} {dk l : Addr} {I H : Hp}
theorem EnvOk.wipe {env : En} {σ : L2.St} (e : EnvOk K dk l I H env σ) : ∀ vs : List Nat, EnvOk K dk l I H (wipeE env vs) (wipe σ vs)
  | [] => e
  | v :: vs => (EnvOk.wipe e vs).setNo
theorem set_out {σ σ' : L2.St} {v : Nat} (hl : σ'.length = σ.length) (h : ∀ j, j ≠ v → σ'[j]? = σ[j]?) : σ'.set v none = σ.set v none := by
  apply List.ext_getElem?
  intro j
  by_cases hj : v = j
  · subst hj
    by_cases hv : v < σ.length
    · rw [List.getElem?_set_self hv, List.getElem?_set_self (by omega)]
    · rw [List.getElem?_eq_none (by rw [List.length_set]; omega), List.getElem?_eq_none (by rw [List.length_set]; omega)]
  · rw [List.getElem?_set_ne hj, List.getElem?_set_ne hj]
    exact h j (Ne.symm hj)
theorem wipe_idem (σ : L2.St) (vs : List Nat) : wipe (wipe σ vs) vs = wipe σ vs := by
  have out : ∀ (us : List Nat) (τ : L2.St) (j : Nat), j ∈ us → j < τ.length → (wipe τ us)[j]? = some none := by
    intro us
    induction us with
    | nil => intro _ _ h; simp at h
    | cons u us ih =>
      intro τ j hj hl
      unfold wipe
      by_cases hu : u = j
      · subst hu
        exact List.getElem?_set_self (by rw [wipe_length]; exact hl)
      · rw [List.getElem?_set_ne hu]
        rcases List.mem_cons.mp hj with z | z
        · exact absurd z.symm hu
        · exact ih τ j z hl
  apply List.ext_getElem?
  intro j
  by_cases hj : j ∈ vs
  · by_cases hl : j < σ.length
    · rw [out vs _ j hj (by rw [wipe_length]; exact hl), out vs _ j hj hl]
    · rw [List.getElem?_eq_none (by rw [wipe_length, wipe_length]; omega), List.getElem?_eq_none (by rw [wipe_length]; omega)]
  · rw [wipe_out hj]
/-- a pattern's stores are forgotten with the names of the block -/
theorem wipe_chg {σ σ' : L2.St} {ss vs : List Nat} (hs : ∀ i ∈ ss, i ∈ vs) (hl : σ'.length = σ.length) (h : ∀ j, j ∉ ss → σ'[j]? = σ[j]?) : wipe σ' vs = wipe σ vs := by
  have out : ∀ (us : List Nat) (τ : L2.St) (j : Nat), j ∈ us → j < τ.length → (wipe τ us)[j]? = some none := by
    intro us
    induction us with
    | nil => intro _ _ h; simp at h
    | cons u us ih =>
      intro τ j hj hl
      unfold wipe
      by_cases hu : u = j
      · subst hu
        exact List.getElem?_set_self (by rw [wipe_length]; exact hl)
      · rw [List.getElem?_set_ne hu]
        rcases List.mem_cons.mp hj with z | z
        · exact absurd z.symm hu
        · exact ih τ j z hl
  apply List.ext_getElem?
  intro j
  by_cases hj : j ∈ vs
  · by_cases hl2 : j < σ.length
    · rw [out vs _ j hj (by rw [hl]; exact hl2), out vs _ j hj hl2]
    · rw [List.getElem?_eq_none (by rw [wipe_length]; omega), List.getElem?_eq_none (by rw [wipe_length]; omega)]
  · rw [wipe_out hj, wipe_out hj]
    exact h j fun z => hj (hs j z)
end
section
variable {X : Cx} {dk l : Addr} {W : WX} {pos : Pos}
theorem r_pts_nil : PTs X [] (liftT X.K dk l W tYes') := ⟨fun pins s σ H Q J ⟨I, env, z, e, w, q⟩ => pts_nil.run pins s σ H Q J (q I H Ext.refl w)⟩
theorem r_pts_one {c : Expr} {m : En → M Bool} (h : PT X c (liftT X.K dk l W m)) : PTs X [c] (liftT X.K dk l W m) := pts_one h
theorem fresh_off {I1 H1 I H : Hp} {D : Addr} {s : Dk} (x : Ext dk l I1 H1 I H) (w : Wo dk l I H s) (h : H1 D = none) (n1 : D ≠ dk) (n2 : D ≠ l) {vs : List V} (hI : I D = none) (hv : H D = some (.lst vs)) (ws : List V) : Ext dk l I1 H1 I (upd H D (.lst ws)) ∧ Wo dk l I (upd H D (.lst ws)) s := by
  refine ⟨⟨x.grow, fun a o e m1 m2 => ?_, x.fresh⟩, ⟨fun b o e => ?_, ?_, ?_, w.idk, w.il⟩⟩
  · rw [upd_ne (ne_of_none e h)]
    exact x.keep a o e m1 m2
  · have : b ≠ D := fun z => by rw [z, hI] at e; cases e
    rw [upd_ne this]
    exact w.sub b o e
  · rw [upd_ne n1.symm]; exact w.dko
  · rw [upd_ne n2.symm]; exact w.lft
/-- no own slot stands at D -/
def Apart (D : Addr) (env : En) (σ : L2.St) : Prop := ∀ (i : Nat) (u : OD), env[i]? = some (.own u) → σ[i]? ≠ some (some (.ref D))
theorem wipeE_own {env : En} {i : Nat} {u : OD} : ∀ {vs : List Nat}, (wipeE env vs)[i]? = some (.own u) → env[i]? = some (.own u) ∧ i ∉ vs
  | [], h => ⟨h, by simp⟩
  | v :: vs, h => by
    unfold wipeE at h
    by_cases hv : v = i
    · subst hv
      by_cases hl : v < (wipeE env vs).length
      · rw [List.getElem?_set_self hl] at h; cases h
      · rw [List.getElem?_eq_none (by rw [List.length_set]; omega)] at h; cases h
    · rw [List.getElem?_set_ne hv] at h
      obtain ⟨h1, h2⟩ := wipeE_own h
      exact ⟨h1, fun z => (List.mem_cons.mp z).elim (fun e => hv e.symm) h2⟩
theorem Apart.wipe {D : Addr} {env : En} {σ : L2.St} (a : Apart D env σ) (vs : List Nat) : Apart D (wipeE env vs) (L2.wipe σ vs) := fun i u h z => by
  obtain ⟨h1, h2⟩ := wipeE_own h
  rw [wipe_out h2] at z
  exact a i u h1 z
theorem Apart.chg {D : Addr} {ss : List Nat} {env env' : En} {σ σ' : L2.St} (a : Apart D env σ) (c : Chg ss env env' σ σ') : Apart D env' σ' := fun i u h z => by
  obtain ⟨h1, h2⟩ := c.own i u h
  rw [c.out i h2] at z
  exact a i u h1 z
/-- one clause -/
theorem lc_read {own : List (Str × Nat)} {mi : En → M (List D)} {p : Pat} {mt : En → M Bool} {me : En → M D} (hp : ∀ i ∈ p.ix, i ∈ own.map (·.2)) (σ : L2.St) (H : Hp) (Q : VK) (h : liftO X.K dk l W (eLc mi p (own.map (·.2)) mt me) σ H Q) :
    tLc (liftB X.K dk l W mi) (gPat X.K p) (liftT X.K dk l W0 mt) (lift X.K dk l W0 me) (own.map (·.2)) σ H Q := by
  obtain ⟨I, env, s, k, w, q⟩ := h
  refine ⟨I, env, s, k, w, q.bind.mono (fun ds s1 q J B I1 H1 x1 w1 b1 b4 b2 b3 wk => ?_) fun _ _ _ h => h⟩
  by_cases hz : ds.length ≤ size7
  · rw [if_pos hz] at q
    intro D hD
    have n1 : D ≠ dk := (ne_of_none w1.dko hD).symm
    have n2 : D ≠ l := (ne_of_none w1.lft hD).symm
    have k1 := k.ext x1
    have hHD : H D = none := by
      cases r : H D with
      | none => rfl
      | some u => rw [x1.keep D u r n1 n2] at hD; cases hD
    refine ⟨fun i m H2 => m = ds.length - i ∧ i ≤ ds.length ∧ ∃ I2 s2 acc vs, H2 D = some (.lst vs) ∧ RepL X.K I2 dk acc vs ∧ acc.length ≤ i ∧ Ext dk l I1 H1 I2 H2 ∧ Wo dk l I2 H2 s2 ∧ I2 D = none ∧
        Post (lcM p mt me (wipeE env (own.map (·.2))) (ds.drop i) s2) (fun ys s' => ∀ p I' H', Ext dk l I H I' H' → Wo dk l I' H' s' → H p = none → OwnAt X.K I' H' dk p (.lst (acc ++ ys)) → p ≠ dk → p ≠ l → I' p = none → Q (.ref p) H') (exQ X.K dk l W I H σ),
      ⟨ds.length, by simp, Nat.zero_le _, I1, s1, [], [], upd_same, rfl, Nat.le_refl _, Ext.off w1 hD, w1.off (w1.sub.none hD) n1 n2, w1.sub.none hD, q.bind.mono (fun ys s' q => by rw [List.nil_append]; exact q) fun _ _ _ h => h⟩, ?_⟩
    rintro i m H2 ⟨rfl, hle, I2, s2, acc, vs, hv, hr, hal, x2, w2, hI, q2⟩
    have bb : Sm B H2 := fun a o e => x2.keep a o (b1 a o e) (fun z => by rw [z, b2] at e; cases e) (fun z => by rw [z, b3] at e; cases e)
    by_cases hlt : i < ds.length
    · obtain ⟨d, hd⟩ : ∃ d, ds[i]? = some d := ⟨ds[i], by simp [hlt]⟩
      have hdr : ds.drop i = d :: ds.drop (i + 1) := by
        have e1 := List.drop_eq_getElem_cons hlt
        rw [List.getElem?_eq_getElem hlt] at hd
        rw [e1, Option.some.inj hd]
      rw [hdr] at q2
      simp only [lcM] at q2
      refine .inr ⟨wk.go I2 H2 s2 i x2.grow bb w2 hlt, fun H' => ∃ I2 s2 acc vs, H' D = some (.lst vs) ∧ RepL X.K I2 dk acc vs ∧ acc.length ≤ i + 1 ∧ Ext dk l I1 H1 I2 H' ∧ Wo dk l I2 H' s2 ∧ I2 D = none ∧
          Post (lcM p mt me (wipeE env (own.map (·.2))) (ds.drop (i + 1)) s2) (fun ys s' => ∀ p I' H', Ext dk l I H I' H' → Wo dk l I' H' s' → H p = none → OwnAt X.K I' H' dk p (.lst (acc ++ ys)) → p ≠ dk → p ≠ l → I' p = none → Q (.ref p) H') (exQ X.K dk l W I H σ),
        fun H' h => ⟨_, by omega, rfl, hlt, h⟩, fun x H3 y => ?_⟩
      obtain ⟨I3, x3, w3, r3⟩ := wk.yld I2 H2 s2 i x H3 d x2.grow bb w2 y hd
      obtain ⟨e1, eb, q3⟩ := q2.bind.opt
      have x23 := x2.trans x3 w3
      have k3 : EnvOk X.K dk l I3 H3 (wipeE env (own.map (·.2))) (wipe σ (own.map (·.2))) := (k1.ext x23).wipe _
      have hv3 : H3 D = some (.lst vs) := x3.keep D _ hv n1 n2
      have hI3 : I3 D = none := by
        cases r : I3 D with
        | none => rfl
        | some u => exact ((x3.fresh D u r hI).lst hv).elim
      refine gpat_ok w3.sub p d x _ e1 _ _ k3 r3 eb fun σ4 k4 c4 => ⟨by rw [wipe_chg hp (by rw [c4.len]) fun j hj => c4.out j hj, wipe_idem], ?_⟩
      refine ⟨I3, e1, s2, k4, w3, noX_post (q3.bind.mono (fun c s5 q5 I5 H5 x5 w5 => ?_) fun _ _ _ h => h)⟩
      have hv5 : H5 D = some (.lst vs) := x5.keep D _ hv3 n1 n2
      have hI5 : I5 D = none := by
        cases r : I5 D with
        | none => rfl
        | some u => exact ((x5.fresh D u r hI3).lst hv3).elim
      cases c with
      | false => exact ⟨I5, s5, acc, vs, hv5, RepL.mono (x3.grow.trans x5.grow) _ _ hr, by omega, x23.trans x5 w5, w5, hI5, q5⟩
      | true =>
        refine ⟨I5, e1, s5, k4.ext x5, w5, noX_post ((show Post (andThen _ _ s5) _ _ from q5).bind.mono (fun y s6 q6 u I6 H6 x6 w6 r6 => ?_) fun _ _ _ h => h)⟩
        have hv6 : H6 D = some (.lst vs) := x6.keep D _ hv5 n1 n2
        have hI6 : I6 D = none := by
          cases r : I6 D with
          | none => rfl
          | some u => exact ((x6.fresh D u r hI5).lst hv5).elim
        have x16 := (x23.trans x5 w5).trans x6 w6
        obtain ⟨x7, w7⟩ := fresh_off x16 w6 hD n1 n2 hI6 hv6 (vs ++ [u])
        refine ⟨vs, hv6, by rw [← hr.length]; exact Nat.lt_of_le_of_lt hal (Nat.lt_of_lt_of_le hlt (size7_le hz)), I6, s6, acc ++ [y], vs ++ [u], upd_same, ?_, by rw [List.length_append]; exact Nat.succ_le_succ hal, x7, w7, hI6, q6.bind.mono (fun ys s' q => by rw [List.append_assoc]; exact q) fun _ _ _ h => h⟩
        exact (RepL.mono ((x3.grow.trans x5.grow).trans x6.grow) _ _ hr).append (RepL.one r6)
    · have hdr : ds.drop i = [] := List.drop_eq_nil_of_le (by omega)
      rw [hdr] at q2
      refine .inl ⟨wk.stop I2 H2 s2 i x2.grow bb w2 (by omega), ?_⟩
      have q3 := (show Post (ret ([] : List PV.D) s2) _ _ from q2)
      exact q3 D I2 H2 (x1.trans x2 w2) w2 hHD (by rw [List.append_nil]; exact ⟨vs, hv, hr⟩) n1 n2 hI
  · rw [if_neg hz] at q; exact q.elim
theorem r_lc {elt tg iter : Expr} {ifs : List Expr} {scope : Scope} {own : List (Str × Nat)} {mi : En → M (List D)} {p : Pat} {mt : En → M Bool} {me : En → M D} (hc : X.calm = true) (hN : X.N.Nodup) (hi : PI X tg iter (liftB X.K dk l W mi)) (ok : BlkOk X.N X.env.scope scope own)
    (hg : ∀ (s : Shared) (H : Hp) (C : Addr) (cl : List (Str × Addr)) (fp : List Addr), PG (X.blk s H scope (compEnvC scope cl C X.env) fp) tg (gPat X.K p)) (ht : ∀ (s : Shared) (H : Hp) (C : Addr) (cl : List (Str × Addr)) (fp : List Addr), PTs (X.blk s H scope (compEnvC scope cl C X.env) fp) ifs (liftT X.K dk l W0 mt))
    (he : ∀ (s : Shared) (H : Hp) (C : Addr) (cl : List (Str × Addr)) (fp : List Addr), PE (X.blk s H scope (compEnvC scope cl C X.env) fp) elt (lift X.K dk l W0 me)) (hp : ∀ i ∈ p.ix, i ∈ own.map (·.2)) (hs : ∀ x, foldedSetIterable iter X.env x = pure x := by intro _; rfl) :
    PE X (.ListComp elt [⟨tg, iter, ifs, 0⟩] scope pos) (liftO X.K dk l W (eLc mi p (own.map (·.2)) mt me)) := PE_imp (pe_lc hc hN hi ok hg ht he hs) (lc_read hp)
end
end PV

end

section
set_option maxRecDepth 100000
namespace PV
open PySem PySem.Spec PyProof.Rows L2
section
variable {X : Cx} {dk l : Addr} {W : WX} {pos : Pos}
theorem hold_lst {I H I' H' : Hp} {D : Addr} {vs : List V} (x : Ext dk l I H I' H') (hv : H D = some (.lst vs)) (hI : I D = none) (n1 : D ≠ dk) (n2 : D ≠ l) : H' D = some (.lst vs) ∧ I' D = none := by
  refine ⟨x.keep D _ hv n1 n2, ?_⟩
  cases r : I' D with
  | none => rfl
  | some u => exact ((x.fresh D u r hI).lst hv).elim
theorem EnvOk.updOff {I H : Hp} {env : En} {σ : L2.St} {D : Addr} {o : HO} (e : EnvOk X.K dk l I H env σ) (a : Apart D env σ) : EnvOk X.K dk l I (upd H D o) env σ where
  len := e.len
  val := e.val
  own := fun i u h => by
    obtain ⟨p, h1, h2, h3, h4, h5⟩ := e.own i u h
    have hp : p ≠ D := fun z => a i u h (by rw [h1, z])
    exact ⟨p, h1, h2.move (Sm.refl I) fun w z => by rw [upd_ne hp]; exact z, h3, h4, h5⟩
  sep := e.sep
theorem size6 {i j n : Nat} (h1 : n ≤ 1000 * i + j) (h2 : i < 1000) (h3 : j < 1000) : n < sizeLine := by
  have e : sizeLine = 16777216 := sizeLine_eq
  omega
theorem lc2_read {own : List (Str × Nat)} {vs1 : List Nat} {mi mi1 : En → M (List D)} {p p1 : Pat} {mt mt1 : En → M Bool} {me : En → M D} (hvs : ∀ i ∈ vs1, i ∈ own.map (·.2)) (hp : ∀ i ∈ p.ix, i ∈ own.map (·.2)) (hp1 : ∀ i ∈ p1.ix, i ∈ vs1) (σ : L2.St) (H : Hp) (Q : VK) (h : liftO X.K dk l W (eLc2 mi p (own.map (·.2)) mt mi1 vs1 p1 mt1 me) σ H Q) :
    tLc2 (liftB X.K dk l W mi) (gPat X.K p) (liftT X.K dk l W0 mt) (liftB X.K dk l W0 mi1) (gPat X.K p1) (liftT X.K dk l W0 mt1) (lift X.K dk l W0 me) (own.map (·.2)) vs1 σ H Q := by
  obtain ⟨I, env, s, k, w, q⟩ := h
  refine ⟨I, env, s, k, w, q.bind.mono (fun ds s1 q J B I1 H1 x1 w1 b1 b4 b2 b3 wk => ?_) fun _ _ _ h => h⟩
  by_cases hz : ds.length ≤ 1000
  · rw [if_pos hz] at q
    intro D hD
    have n1 : D ≠ dk := (ne_of_none w1.dko hD).symm
    have n2 : D ≠ l := (ne_of_none w1.lft hD).symm
    have k1 := k.ext x1
    have hHD : H D = none := by
      cases r : H D with
      | none => rfl
      | some u => rw [x1.keep D u r n1 n2] at hD; cases hD
    have ap0 : Apart D env σ := fun j u h => ownAp (H1 := H1) k hHD j u h
    generalize hF : (fun (ys : List PV.D) (s' : Dk) => ∀ p I' H', Ext dk l I H I' H' → Wo dk l I' H' s' → H p = none → OwnAt X.K I' H' dk p (.lst ys) → p ≠ dk → p ≠ l → I' p = none → Q (.ref p) H') = F
    have hFq : ∀ ys s', F ys s' → ∀ p I' H', Ext dk l I H I' H' → Wo dk l I' H' s' → H p = none → OwnAt X.K I' H' dk p (.lst ys) → p ≠ dk → p ≠ l → I' p = none → Q (.ref p) H' := fun ys s' h => by
      rw [← hF] at h
      exact h
    have q0 : Post (lc2M p mt mi1 vs1 p1 mt1 me (wipeE env (own.map (·.2))) ds s1) (fun ys s' => F ([] ++ ys) s') (exQ X.K dk l W I H σ) := q.bind.mono (fun ys s' q => by rw [← hF, List.nil_append]; exact q) fun _ _ _ h => h
    refine ⟨fun i m H2 => m = ds.length - i ∧ i ≤ ds.length ∧ ∃ I2 s2 acc vs, H2 D = some (.lst vs) ∧ RepL X.K I2 dk acc vs ∧ acc.length ≤ 1000 * i ∧ Ext dk l I1 H1 I2 H2 ∧ Wo dk l I2 H2 s2 ∧ I2 D = none ∧
        Post (lc2M p mt mi1 vs1 p1 mt1 me (wipeE env (own.map (·.2))) (ds.drop i) s2) (fun ys s' => F (acc ++ ys) s') (exQ X.K dk l W I H σ),
      ⟨ds.length, by simp, Nat.zero_le _, I1, s1, [], [], upd_same, rfl, Nat.le_refl _, Ext.off w1 hD, w1.off (w1.sub.none hD) n1 n2, w1.sub.none hD, q0⟩, ?_⟩
    rintro i m H2 ⟨rfl, hle, I2, s2, acc, vs, hv, hr, hal, x2, w2, hI, q2⟩
    have bb : Sm B H2 := fun a o e => x2.keep a o (b1 a o e) (fun z => by rw [z, b2] at e; cases e) (fun z => by rw [z, b3] at e; cases e)
    by_cases hlt : i < ds.length
    · obtain ⟨d, hd⟩ : ∃ d, ds[i]? = some d := ⟨ds[i], by simp [hlt]⟩
      have hdr : ds.drop i = d :: ds.drop (i + 1) := by
        have e1 := List.drop_eq_getElem_cons hlt
        rw [List.getElem?_eq_getElem hlt] at hd
        rw [e1, Option.some.inj hd]
      rw [hdr] at q2
      simp only [lc2M] at q2
      refine .inr ⟨wk.go I2 H2 s2 i x2.grow bb w2 hlt, fun H' => ∃ I2 s2 acc vs, H' D = some (.lst vs) ∧ RepL X.K I2 dk acc vs ∧ acc.length ≤ 1000 * (i + 1) ∧ Ext dk l I1 H1 I2 H' ∧ Wo dk l I2 H' s2 ∧ I2 D = none ∧
          Post (lc2M p mt mi1 vs1 p1 mt1 me (wipeE env (own.map (·.2))) (ds.drop (i + 1)) s2) (fun ys s' => F (acc ++ ys) s') (exQ X.K dk l W I H σ),
        fun H' h => ⟨_, by omega, rfl, hlt, h⟩, fun x H3 y => ?_⟩
      obtain ⟨I3, x3, w3, r3⟩ := wk.yld I2 H2 s2 i x H3 d x2.grow bb w2 y hd
      obtain ⟨e1, eb, q3⟩ := q2.bind.opt
      have x23 := x2.trans x3 w3
      have k3 : EnvOk X.K dk l I3 H3 (wipeE env (own.map (·.2))) (wipe σ (own.map (·.2))) := (k1.ext x23).wipe _
      obtain ⟨hv3, hI3⟩ := hold_lst x3 hv hI n1 n2
      refine gpat_ok w3.sub p d x _ e1 _ _ k3 r3 eb fun σ4 k4 c4 => ⟨by rw [wipe_chg hp (by rw [c4.len]) fun j hj => c4.out j hj, wipe_idem], ?_⟩
      have ap4 : Apart D e1 σ4 := (ap0.wipe _).chg c4
      refine ⟨I3, e1, s2, k4, w3, noX_post (q3.bind.mono (fun c s5 q5 I5 H5 x5 w5 => ?_) fun _ _ _ h => h)⟩
      obtain ⟨hv5, hI5⟩ := hold_lst x5 hv3 hI3 n1 n2
      have x25 := x23.trans x5 w5
      have hr5 := RepL.mono (x3.grow.trans x5.grow) _ _ hr
      cases c with
      | false => exact ⟨I5, s5, acc, vs, hv5, hr5, by omega, x25, w5, hI5, q5⟩
      | true =>
        have k5 := k4.ext x5
        refine ⟨I5, e1, s5, k5, w5, noX_post ((show Post (andThen _ _ s5) _ _ from q5).bind.mono (fun ds1 s6 q6 J1 B1 I6 H6 x6 w6 c1 c4 c2 c3 wk1 => ?_) fun _ _ _ h => h)⟩
        obtain ⟨hv6, hI6⟩ := hold_lst x6 hv5 hI5 n1 n2
        have x26 := x25.trans x6 w6
        have k6 := k5.ext x6
        by_cases hz1 : ds1.length ≤ 1000
        · rw [if_pos hz1] at q6
          have q7 : Post (lcM p1 mt1 me (wipeE e1 vs1) ds1 s6) (fun ys s' => Post (lc2M p mt mi1 vs1 p1 mt1 me (wipeE env (own.map (·.2))) (ds.drop (i + 1)) s') (fun zs s'' => F (acc ++ (ys ++ zs)) s'') (exQ X.K dk l W I H σ)) (exQ X.K dk l W I H σ) :=
            q6.bind.mono (fun ys s' q => q.bind.mono (fun zs s'' q => q) fun _ _ _ h => h) fun _ _ _ h => h
          have bD : B1 D = none := by
            cases r : B1 D with
            | none => rfl
            | some o =>
              rcases c4 D o r with z | ⟨i', u, z1, z2⟩
              · rw [hI6] at z; cases z
              · exact absurd z2 (ap4 i' u z1)
          let Iv : Nat → Hp → Prop := fun j H7 => ∃ I7 s7 acc7 vs7, H7 D = some (.lst vs7) ∧ RepL X.K I7 dk acc7 vs7 ∧ acc7.length ≤ 1000 * i + j ∧ Ext dk l I1 H1 I7 H7 ∧ Sm I6 I7 ∧ Sm B1 H7 ∧ EnvOk X.K dk l I7 H7 e1 σ4 ∧ Wo dk l I7 H7 s7 ∧ I7 D = none ∧
              Post (lcM p1 mt1 me (wipeE e1 vs1) (ds1.drop j) s7) (fun ys s' => Post (lc2M p mt mi1 vs1 p1 mt1 me (wipeE env (own.map (·.2))) (ds.drop (i + 1)) s') (fun zs s'' => F (acc7 ++ (ys ++ zs)) s'') (exQ X.K dk l W I H σ)) (exQ X.K dk l W I H σ)
          refine ⟨fun j m H7 => m = ds1.length - j ∧ j ≤ ds1.length ∧ Iv j H7,
            ⟨ds1.length, by simp, Nat.zero_le _, I6, s6, acc, vs, hv6, RepL.mono x6.grow _ _ hr5, hal, x26, Sm.refl _, c1, k6, w6, hI6, q7⟩, ?_⟩
          rintro j m H7 ⟨rfl, hle1, I7, s7, acc7, vs7, hv7, hr7, hal7, x17, g7, bb1, k7, w7, hI7, q8⟩
          by_cases hlt1 : j < ds1.length
          · obtain ⟨d1, hd1⟩ : ∃ d1, ds1[j]? = some d1 := ⟨ds1[j], by simp [hlt1]⟩
            have hdr1 : ds1.drop j = d1 :: ds1.drop (j + 1) := by
              have e1 := List.drop_eq_getElem_cons hlt1
              rw [List.getElem?_eq_getElem hlt1] at hd1
              rw [e1, Option.some.inj hd1]
            rw [hdr1] at q8
            simp only [lcM] at q8
            refine .inr ⟨wk1.go I7 H7 s7 j g7 bb1 w7 hlt1, fun H' => Iv (j + 1) H', fun H' h => ⟨_, by omega, rfl, hlt1, h⟩, fun x H8 y => ?_⟩
            obtain ⟨I8, x8, w8, r8⟩ := wk1.yld I7 H7 s7 j x H8 d1 g7 bb1 w7 y hd1
            obtain ⟨e2, eb2, q9⟩ := q8.bind.opt
            obtain ⟨hv8, hI8⟩ := hold_lst x8 hv7 hI7 n1 n2
            refine gpat_ok w8.sub p1 d1 x _ e2 _ _ ((k7.ext x8).wipe vs1) r8 eb2 fun σ9 k9 c9 => ⟨by rw [wipe_chg hp1 (by rw [c9.len]) fun j hj => c9.out j hj, wipe_idem], ?_⟩
            refine ⟨I8, e2, s7, k9, w8, noX_post (q9.bind.mono (fun c s10 q10 I10 H10 x10 w10 => ?_) fun _ _ _ h => h)⟩
            obtain ⟨hv10, hI10⟩ := hold_lst x10 hv8 hI8 n1 n2
            have hr10 := RepL.mono (x8.grow.trans x10.grow) _ _ hr7
            have x710 := x8.trans x10 w10
            have b10 : Sm B1 H10 := fun a o e => x710.keep a o (bb1 a o e) (fun z => by rw [z, c2] at e; cases e) (fun z => by rw [z, c3] at e; cases e)
            cases c with
            | false => exact ⟨I10, s10, acc7, vs7, hv10, hr10, by omega, x17.trans x710 w10, g7.trans x710.grow, b10, k7.ext x710, w10, hI10, q10⟩
            | true =>
              refine ⟨I10, e2, s10, k9.ext x10, w10, noX_post ((show Post (andThen _ _ s10) _ _ from q10).bind.mono (fun y s11 q11 u I11 H11 x11 w11 r11 => ?_) fun _ _ _ h => h)⟩
              obtain ⟨hv11, hI11⟩ := hold_lst x11 hv10 hI10 n1 n2
              have x711 := x710.trans x11 w11
              obtain ⟨x12, w12⟩ := fresh_off (x17.trans x711 w11) w11 hD n1 n2 hI11 hv11 (vs7 ++ [u])
              refine ⟨vs7, hv11, by rw [← hr7.length]; exact size6 hal7 (by omega) (by omega), I11, s11, acc7 ++ [y], vs7 ++ [u], upd_same, (RepL.mono x11.grow _ _ hr10).append (RepL.one r11), by rw [List.length_append, List.length_singleton]; omega, x12, g7.trans x711.grow, ?_, (k7.ext x711).updOff ap4, w12, hI11, q11.bind.mono (fun ys s' q => ?_) fun _ _ _ h => h⟩
              · intro a o e
                have ha : a ≠ D := fun z => by rw [z, bD] at e; cases e
                rw [upd_ne ha]
                exact x711.keep a o (bb1 a o e) (fun z => by rw [z, c2] at e; cases e) (fun z => by rw [z, c3] at e; cases e)
              · exact Post.mono (show Post _ _ _ from q) (fun zs s'' h => by
                  rw [List.append_assoc]
                  exact h) fun _ _ _ h => h
          · have hdr1 : ds1.drop j = [] := List.drop_eq_nil_of_le (by omega)
            rw [hdr1] at q8
            refine .inl ⟨wk1.stop I7 H7 s7 j g7 bb1 w7 (by omega), ?_⟩
            have q9 := (show Post (ret ([] : List PV.D) s7) _ _ from q8)
            exact ⟨I7, s7, acc7, vs7, hv7, hr7, by omega, x17, w7, hI7, q9⟩
        · rw [if_neg hz1] at q6; exact q6.elim
    · have hdr : ds.drop i = [] := List.drop_eq_nil_of_le (by omega)
      rw [hdr] at q2
      refine .inl ⟨wk.stop I2 H2 s2 i x2.grow bb w2 (by omega), ?_⟩
      have q3 := (show Post (ret ([] : List PV.D) s2) _ _ from q2)
      have q3 : F (acc ++ []) s2 := q3
      rw [List.append_nil] at q3
      exact hFq _ _ q3 D I2 H2 (x1.trans x2 w2) w2 hHD ⟨vs, hv, hr⟩ n1 n2 hI
  · rw [if_neg hz] at q; exact q.elim
theorem r_lc2 {elt tg iter tg1 iter1 : Expr} {ifs ifs1 : List Expr} {scope : Scope} {own : List (Str × Nat)} {vs1 : List Nat} {mi mi1 : En → M (List D)} {p p1 : Pat} {mt mt1 : En → M Bool} {me : En → M D} (hc : X.calm = true) (hN : X.N.Nodup) (hi : PI X tg iter (liftB X.K dk l W mi)) (ok : BlkOk X.N X.env.scope scope own) (hvs : ∀ i ∈ vs1, i ∈ own.map (·.2))
    (hg : ∀ (s : Shared) (H : Hp) (C : Addr) (cl : List (Str × Addr)) (fp : List Addr), PG (X.blk s H scope (compEnvC scope cl C X.env) fp) tg (gPat X.K p)) (ht : ∀ (s : Shared) (H : Hp) (C : Addr) (cl : List (Str × Addr)) (fp : List Addr), PTs (X.blk s H scope (compEnvC scope cl C X.env) fp) ifs (liftT X.K dk l W0 mt))
    (hi1 : ∀ (s : Shared) (H : Hp) (C : Addr) (cl : List (Str × Addr)) (fp : List Addr), PI (X.blk s H scope (compEnvC scope cl C X.env) fp) tg1 iter1 (liftB X.K dk l W0 mi1))
    (hg1 : ∀ (s : Shared) (H : Hp) (C : Addr) (cl : List (Str × Addr)) (fp : List Addr), PG (X.blk s H scope (compEnvC scope cl C X.env) fp) tg1 (gPat X.K p1)) (ht1 : ∀ (s : Shared) (H : Hp) (C : Addr) (cl : List (Str × Addr)) (fp : List Addr), PTs (X.blk s H scope (compEnvC scope cl C X.env) fp) ifs1 (liftT X.K dk l W0 mt1))
    (he : ∀ (s : Shared) (H : Hp) (C : Addr) (cl : List (Str × Addr)) (fp : List Addr), PE (X.blk s H scope (compEnvC scope cl C X.env) fp) elt (lift X.K dk l W0 me)) (hp : ∀ i ∈ p.ix, i ∈ own.map (·.2)) (hp1 : ∀ i ∈ p1.ix, i ∈ vs1)
    (hs : ∀ x, foldedSetIterable iter X.env x = pure x := by intro _; rfl) (hs1 : ∀ env x, foldedSetIterable iter1 env x = pure x := by intro _ _; rfl) :
    PE X (.ListComp elt [⟨tg, iter, ifs, 0⟩, ⟨tg1, iter1, ifs1, 0⟩] scope pos) (liftO X.K dk l W (eLc2 mi p (own.map (·.2)) mt mi1 vs1 p1 mt1 me)) := PE_imp (pe_lc2 hc hN hi ok hvs hg ht hi1 hg1 ht1 he hs hs1) (lc2_read hvs hp hp1)
end
end PV

end

section
set_option maxRecDepth 100000
namespace PV
open PySem PySem.Spec PyProof.Rows L2

/-! ### defs that keep a promise where no repr runs around them -/
structure FnG (P : Program) (w : World) (K : PySem.W.Frag) (mg : Str → Option Value) (base : Heap) (k : Nat) (f : Addr) (fd : FuncData) (ps : List Str) (sp : Sp) : Prop where
  len : ∀ vs H Q E, sp vs H Q E → vs.length = ps.length
  run : ∀ (A : Around) (outer : List Env) (z : Shared) (H : Hp) (args : Args) (us : List Value) (vs : List V) (Q : VK) (E : XK), A.guards = some [] → Room k A → Env0 P w K mg base A outer z H → BindsTo z fd args (ps.zip us) → Vals vs us → sp vs H Q E →
    codeAny (model P w) A (.call (.ref f) args) (CR (L2.CX P w) outer P w H z Q E) z
theorem FnG.mono {P : Program} {w : World} {K : PySem.W.Frag} {mg : Str → Option Value} {base : Heap} {j k : Nat} {f : Addr} {fd : FuncData} {ps : List Str} {sp : Sp} (F : FnG P w K mg base j f fd ps sp) (h : j ≤ k) :
    FnG P w K mg base k f fd ps sp := ⟨F.len, fun A o z H args us vs Q E hg hr => F.run A o z H args us vs Q E hg (hr.mono h)⟩
theorem FnG.imp {P : Program} {w : World} {K : PySem.W.Frag} {mg : Str → Option Value} {base : Heap} {k : Nat} {f : Addr} {fd : FuncData} {ps : List Str} {sp sp' : Sp} (F : FnG P w K mg base k f fd ps sp)
    (h : ∀ vs H Q E, sp' vs H Q E → sp vs H Q E) : FnG P w K mg base k f fd ps sp' :=
  ⟨fun vs H Q E q => F.len vs H Q E (h _ _ _ _ q), fun A o z H args us vs Q E hg hr he hb hv hs => F.run A o z H args us vs Q E hg hr he hb hv (h _ _ _ _ hs)⟩
section
variable {P : Program} {w : World} {K : PySem.W.Frag} {mg : Str → Option Value} {base : Heap}
/-- a def by its body -/
theorem fng_of {x qual : Str} {st : Stmt} {f : Addr} {fd : FuncData} {N ps : List Str} {k : Nat} {sp : Sp} (F : Fun K x qual st f fd) (S : FnScope N ps (defScope st)) (len : ∀ vs H Q E, sp vs H Q E → vs.length = ps.length)
    (body : ∀ (cdv : Value) (A : Around) (outer : List Env) (z : Shared) (H : Hp) (vs : List V) (Q : VK) (E : XK), A.guards = some [] → Room k (A.deeper (envOfC qual (defScope st) z.heap.objs.size f cdv)) → sp vs H Q E →
      ∃ t, PSs (cxOf (L2.CX P w) P w K mg base N qual (defScope st) f cdv A outer z H E) (defBody st) t ∧ t { nx := fun _ H' => Q .non H', rt := Q } (L2.start N vs) H) : FnG P w K mg base (k + 1) f fd ps sp := by
  obtain ⟨oc, od, kV, doc, pm, an, cdv, ct, osl, rfl, lk, hcd⟩ := F.ex
  refine ⟨len, fun A o z H args us vs Q E hg hr e0 hb rv hsp => ?_⟩
  have nl := len _ _ _ _ hsp
  have kin : K.In z.heap := e0.mod.kin.keeps fun b u e => (e0.bs b u e).1
  have nol : z.heap.NoLimit := e0.mod.nolimit.keeps fun b u e => (e0.bs b u e).1
  have kinds : ∀ y ∈ ps.zip us, (defScope st).names.lookup y.1 = some .local ∨ ((defScope st).names.lookup y.1 = some .cell ∧ ((cellsFrom (z.heap.objs.size + 1) (defScope st).names []).lookup y.1).isSome = true) := by
    rintro ⟨n, v⟩ hy
    rcases S.par n (List.of_mem_zip hy).1 with y | y
    · exact .inl y
    · exact .inr ⟨y, PySem.W.cellsFrom_some _ _ _ (.inl y)⟩
  refine codeAny_call_function hr.depth (kin _ _ lk) rfl S.co S.gen rfl (PySem.W.codeRec_of kin hcd) (hb _ _ _ _ ?_)
  refine wpAny_newFunctionEnv_cells S.kind kinds fun env he z1 c => ?_
  subst he
  refine ⟨nol.keeps c.toInCall.keep, codeAny_func ?_⟩
  obtain ⟨t, ht, y⟩ := body cdv A o z H vs Q E hg (hr.deeper _) hsp
  have J := inv_start (CX := L2.CX P w) (K := K) (mg := mg) (base := base) (E := E) S hr.hd e0 nl rv c
  refine wpAny_mono (ht.run [] z1 (L2.start N vs) H _ J y) (fun fl z2 r => ?_) fun e z2 r => r
  cases fl with
  | ret u =>
    obtain ⟨v, σ', H', J', rv', y'⟩ := r
    exact ⟨v, H', J'.os, J'.bare, J'.base, J'.hok, rv', y'⟩
  | next =>
    obtain ⟨σ', H', J', y'⟩ := r
    exact ⟨.non, H', J'.os, J'.bare, J'.base, J'.hok, rfl, y'⟩
  | brk =>
    obtain ⟨_, _, _, y'⟩ := r
    exact y'.elim
  | cont =>
    obtain ⟨_, _, _, y'⟩ := r
    exact y'.elim
end

/-! ### a promise by the mirror -/
def spF (K : PySem.W.Frag) (n : Nat) (F : List D → M D) : Sp := fun vs H Q E => ∃ dk l I s ds, Wo dk l I H s ∧ RepL K I dk ds vs ∧ ds.length = n ∧
  Post (F ds s) (fun d s' => ∀ v I' H', Ext dk l I H I' H' → Wo dk l I' H' s' → Rep K I' dk d v → Q v H') (fun c d s' => ∀ cls dd I' H', Ext dk l I H I' H' → Wo dk l I' H' s' → RepX K dk I' c d cls dd → E cls dd H')
def env0 (n : Nat) (ds : List D) : En := ds.map Slot.val ++ List.replicate (n - ds.length) Slot.no
def endF : Fl → M D
  | .rt d => ret d
  | .nx _ => ret .non
  | _ => bad
def runF (n : Nat) (B : En → M Fl) (ds : List D) : M D := andThen (B (env0 n ds)) endF
theorem env0_no {n : Nat} {ds : List D} (i : Nat) (o : OD) : (env0 n ds)[i]? ≠ some (.own o) := fun h => by
  unfold env0 at h
  by_cases hi : i < ds.length
  · rw [List.getElem?_append_left (by rw [List.length_map]; exact hi), List.getElem?_map] at h
    cases z : ds[i]? with
    | none => rw [z] at h; cases h
    | some d => rw [z] at h; cases h
  · rw [List.getElem?_append_right (by rw [List.length_map]; omega), List.getElem?_replicate] at h
    split at h <;> cases h
theorem env0_ok {K : PySem.W.Frag} {dk l : Addr} {I H : Hp} {ds : List D} {vs : List V} {N : List Str} (r : RepL K I dk ds vs) : EnvOk K dk l I H (env0 N.length ds) (L2.start N vs) := by
  have e := r.length
  refine ⟨by unfold env0 L2.start; simp [e], fun i d h => ?_, fun i o h => absurd h (env0_no i o), fun i j o u p h => absurd h (env0_no i o)⟩
  unfold env0 at h
  by_cases hi : i < ds.length
  · rw [List.getElem?_append_left (by rw [List.length_map]; exact hi), List.getElem?_map] at h
    cases z : ds[i]? with
    | none => rw [z] at h; cases h
    | some d' =>
      rw [z] at h
      have h' := Option.some.inj h
      injection h' with h'
      subst h'
      obtain ⟨v, hv, rv⟩ := r.get z
      refine ⟨v, ?_, rv⟩
      unfold L2.start
      rw [List.getElem?_append_left (by rw [List.length_map]; omega), List.getElem?_map, hv]
      rfl
  · rw [List.getElem?_append_right (by rw [List.length_map]; omega), List.getElem?_replicate] at h
    split at h <;> cases h
/-- what a def's body wants of exceptions -/
abbrev WF (E : XK) : WX := fun cls d _ H => E cls d H
section
variable {P : Program} {w : World} {K : PySem.W.Frag} {mg : Str → Option Value} {base : Heap}
theorem def_rule {x qual : Str} {st : Stmt} {f : Addr} {fd : FuncData} {N ps : List Str} {k : Nat} {B : En → M Fl} (F : Fun K x qual st f fd) (S : FnScope N ps (defScope st))
    (body : ∀ (cdv : Value) (A : Around) (outer : List Env) (z : Shared) (H0 : Hp) (E : XK) (dk l : Addr) (I0 : Hp), A.guards = some [] → Room k (A.deeper (envOfC qual (defScope st) z.heap.objs.size f cdv)) →
      PSs (cxOf (L2.CX P w) P w K mg base N qual (defScope st) f cdv A outer z H0 E) (defBody st) (liftS K dk l (WF E) I0 H0 B)) :
    FnG P w K mg base (k + 1) f fd ps (spF K ps.length (runF N.length B)) := by
  refine fng_of F S (fun vs H Q E h => ?_) fun cdv A outer z H vs Q E hg hr h => ?_
  · obtain ⟨dk, l, I, s, ds, w, r, n, q⟩ := h
    rw [← r.length]
    exact n
  · obtain ⟨dk, l, I, s, ds, w1, r, n, q⟩ := h
    refine ⟨_, body cdv A outer z H E dk l I hg hr, I, env0 N.length ds, s, ⟨env0_ok r, w1, Ext.refl, fun i o p h1 _ => ?_⟩, ?_⟩
    · exact absurd h1 (env0_no i o)
    · refine q.bind.mono (fun f s1 q => ?_) fun c d s1 q σ' cls dd I' H' x2 w2 r2 => q cls dd I' H' x2 w2 r2
      cases f with
      | nx e => exact fun σ' I' H' g k' => q .non I' H' k'.ext k'.wo rfl
      | rt d => exact q
      | bk e => exact q.elim
      | ct e => exact q.elim
end

/-! ### calls of defs -/
def permL {α : Type} (π : List Nat) (xs : List α) : List α := π.filterMap fun i => xs[i]?
def eCallK (F : List D → M D) (π : List Nat) (a : En → M (List D)) : En → M D := fun env => andThen (a env) fun xs => F (permL π xs)
theorem permL_vals {π : List Nat} {xs : List V} {us : List Value} (r : Vals xs us) : Vals (permL π xs) (permL π us) := by
  unfold permL
  induction π with
  | nil => exact .nil
  | cons i π ih =>
    rw [List.filterMap_cons, List.filterMap_cons]
    cases h : xs[i]? with
    | none =>
      rw [r.none_of h]
      exact ih
    | some x =>
      obtain ⟨u, hu, ru⟩ := r.get h
      rw [hu]
      exact .cons ru ih
theorem permL_rep {K : PySem.W.Frag} {I : Hp} {dk : Addr} {π : List Nat} {ds : List D} {xs : List V} (r : RepL K I dk ds xs) : RepL K I dk (permL π ds) (permL π xs) := by
  unfold permL
  induction π with
  | nil => rfl
  | cons i π ih =>
    rw [List.filterMap_cons, List.filterMap_cons]
    cases h : ds[i]? with
    | none =>
      have : xs[i]? = none := List.getElem?_eq_none_iff.mpr (by rw [← r.length]; exact List.getElem?_eq_none_iff.mp h)
      rw [this]
      exact ih
    | some d =>
      obtain ⟨v, hv, rv⟩ := r.get h
      rw [hv]
      exact ⟨v, _, rfl, rv, ih⟩
section
variable {X : Cx} {dk l : Addr} {W : WX} {k n : Nat} {f : Addr} {fd : FuncData} {ps : List Str} {F : List D → M D} {x : Str} {p pos : Pos} {e : Expr} {es : List Expr}
theorem spF_of {I H : Hp} {s : Dk} {σ : L2.St} {ds : List D} {vs : List V} {Q : VK} (w : Wo dk l I H s) (r : RepL X.K I dk ds vs) (hn : ds.length = n)
    (q : Post (F ds s) (fun d s' => ∀ v I' H', Ext dk l I H I' H' → Wo dk l I' H' s' → Rep X.K I' dk d v → Q v H') (exQ X.K dk l W I H σ)) : spF X.K n F vs H Q (fun c d H => W c d σ H) :=
  ⟨dk, l, I, s, ds, w, r, hn, q.mono (fun _ _ h => h) fun _ _ _ h => h⟩
theorem run_def {pins : List (Addr × Obj)} {σ : L2.St} {H : Hp} {z : Shared} {Q : VK} {us : List Value} {vs : List V} {E : XK} {sp : Sp} {args : Args} (G : FnG X.prog X.w X.K X.mg X.base k f fd ps sp) (hG : X.A.guards = some []) (hr : Room k X.A) (hb : BindsTo z fd args (ps.zip us)) (hx : PassesAt (L2.CX X.prog X.w) X σ E)
    (J : Inv X pins σ H z) (r : Vals vs us) (h : sp vs H Q E) : codeAny (model X.prog X.w) X.A (.call (.ref f) args) (fun rr z' => match rr with | .ok (.ret u) => EP X pins σ Q u z' | .ok _ => False | .error e => X.xe e z') z := by
  refine codeAny_mono (G.run X.A X.stack z H args us vs Q E hG hr J.env0 hb r h) fun rr z' y => ?_
  cases rr with
  | error e => exact hx pins H z e z' J y
  | ok fl =>
    cases fl with
    | ret u => exact J.after y
    | next => exact y.elim
    | brk => exact y.elim
    | cont => exact y.elim
/-- f(e, ..) -/
theorem r_call {N : En → M (List D)} (G : FnG X.prog X.w X.K X.mg X.base k f fd ps (spF X.K n F)) (hG : X.A.guards = some []) (hr : Room k X.A) (hg : Gl X x) (hm : X.mg x = some (.ref f)) (hk : PySem.W.keepIn X.K (.ref f) = true) (hb : Binds X.K fd ps []) (hx : ∀ σ, PassesAt (L2.CX X.prog X.w) X σ (fun c d H => W c d σ H))
    (ha : PA X (e :: es) (liftA X.K dk l W N)) (hn : (e :: es).length = n) (hdb : (x == ("__debug__" : Str)) = false := by decide) (he : starEach (e :: es) X.env = (false, eval e X.env) :: starEach es X.env := by rfl) (hpl : (backTo pos (starEach es X.env)).any (·.1) = false := by rfl) :
    PE X (.Call (.Name x p) (e :: es) [] pos) (lift X.K dk l W (eCall (fun ds => if ds.length = n then F ds else bad) N)) := by
  refine ⟨fun pins z σ H Q J h => ?_⟩
  obtain ⟨I, env, s, k1, w1, q⟩ := h
  refine wpAny_Call_Name_kw (ld_glob J hg hm ?_ hdb)
  have rd : liftA X.K dk l W N σ H (fun vs H1 => spF X.K n F vs H1 Q (fun c d H => W c d σ H)) := by
    refine ⟨I, env, s, k1, w1, q.bind.mono (fun ds s1 q vs I1 H1 x1 w2 r1 => ?_) fun _ _ _ h => h⟩
    by_cases hl : ds.length = n
    · simp only [hl, if_true] at q
      exact spF_of w2 r1 hl (q.mono (fun d s2 h v I2 H2 x2 w3 r2 => h v I2 H2 (x1.trans x2 w3) w3 r2) fun _ _ _ h => h.shift x1)
    · simp only [hl, if_false] at q
      exact q.elim
  refine PySem.W.callWith_K (h₀ := X.base) J.ok.mod.kin hk (thn (ha.run pos pins z σ H _ J rd) fun us z1 ⟨vs, H1, J1, r, y⟩ => ⟨J1.kIn, ?_⟩) he hpl
  have hl : us.length = ps.length := by rw [← r.length]; exact G.len _ _ _ _ y
  have b := hb z1 us J1.kIn (by rw [List.append_nil]; exact hl)
  rw [List.append_nil] at b
  show wpAny _ _ (call (.ref f) us) _ _ _
  refine wpAny_call (codeAny_mono (run_def G hG hr b (hx σ) J1 r y) fun rr z2 t => ?_)
  cases rr with
  | error e => exact t
  | ok fl =>
    cases fl with
    | ret u => exact t
    | next => exact t.elim
    | brk => exact t.elim
    | cont => exact t.elim
/-- keywords' values, by the mirror -/
theorem r_knil : PK X [] (liftA X.K dk l W eAnil) := ⟨fun pos pins z σ H Q J ⟨I, env, s, k1, w1, q⟩ => pk_nil.run pos pins z σ H Q J (q [] I H Ext.refl w1 rfl)⟩
theorem r_kcons {a : Expr} {kpos : Pos} {kws : List Keyword} {nm : Option Str} {m : En → M D} {N : En → M (List D)} (h : PE X a (lift X.K dk l W m)) (h2 : PK X kws (liftA X.K dk l W N)) : PK X (⟨nm, a, kpos⟩ :: kws) (liftA X.K dk l W (eAcons m N)) :=
  ⟨fun pos pins z σ H Q J ⟨I, env, s, k1, w1, q⟩ => (pk_cons h h2).run pos pins z σ H Q J (by
    refine ⟨I, env, s, k1, w1, q.bind.mono (fun d s1 q v I1 H1 x1 w2 r1 => ?_) fun _ _ _ h => h⟩
    refine ⟨I1, env, s1, k1.ext x1, w2, q.bind.mono (fun ds s2 q vs I2 H2 x2 w3 r2 => ?_) fun _ _ _ h => h.shift x1⟩
    exact q (v :: vs) I2 H2 (x1.trans x2 w3) w3 ⟨v, vs, rfl, Rep.mono x2.grow d v r1, r2⟩)⟩
/-- f(k = e, ..), by keywords alone -/
theorem r_callK {N : En → M (List D)} {kws : List Keyword} {ks : List Str} (π : List Nat) (G : FnG X.prog X.w X.K X.mg X.base k f fd ps (spF X.K n F)) (hG : X.A.guards = some []) (hr : Room k X.A) (hg : Gl X x) (hm : X.mg x = some (.ref f)) (hk : PySem.W.keepIn X.K (.ref f) = true)
    (hb : ∀ ws : List Value, (permL π ws).length = ps.length → bindArgs fd ⟨[], ks.zip ws⟩ = pure (ps.zip (permL π ws))) (hx : ∀ σ, PassesAt (L2.CX X.prog X.w) X σ (fun c d H => W c d σ H))
    (ha : PK X kws (liftA X.K dk l W N)) (hall : (backToKw pos (keywordEach kws X.env)).all (·.1.isSome) = true := by rfl) (hks : (backToKw pos (keywordEach kws X.env)).filterMap (·.1) = ks := by rfl) (hdb : (x == ("__debug__" : Str)) = false := by decide)
    (hpl : ((backTo pos (starEach [] X.env)).any (·.1) || (backToKw pos (keywordEach kws X.env)).any (·.1.isNone)) = false := by rfl) :
    PE X (.Call (.Name x p) [] kws pos) (lift X.K dk l W (eCallK (fun ds => if ds.length = n then F ds else bad) π N)) := by
  refine ⟨fun pins z σ H Q J h => ?_⟩
  obtain ⟨I, env, s, k1, w1, q⟩ := h
  refine wpAny_Call_Name_kw (ld_glob J hg hm ?_ hdb)
  have rd : liftA X.K dk l W N σ H (fun vs H1 => spF X.K n F (permL π vs) H1 Q (fun c d H => W c d σ H)) := by
    refine ⟨I, env, s, k1, w1, q.bind.mono (fun ds s1 q vs I1 H1 x1 w2 r1 => ?_) fun _ _ _ h => h⟩
    by_cases hl : (permL π ds).length = n
    · simp only [hl, if_true] at q
      exact spF_of w2 (permL_rep r1) hl (q.mono (fun d s2 h v I2 H2 x2 w3 r2 => h v I2 H2 (x1.trans x2 w3) w3 r2) fun _ _ _ h => h.shift x1)
    · simp only [hl, if_false] at q
      exact q.elim
  refine PySem.W.callWith_KW0 (h₀ := X.base) J.ok.mod.kin hk hall (thn (ha.run pos pins z σ H _ J rd) fun ws z1 ⟨vs, H1, J1, r, y⟩ => ⟨J1.kIn, ?_⟩) hpl
  have r2 := permL_vals (π := π) r
  have hl : (permL π ws).length = ps.length := by rw [← r2.length]; exact G.len _ _ _ _ y
  rw [hks]
  show wpAny _ _ (call (.ref f) [] (ks.zip ws)) _ _ _
  refine wpAny_call (codeAny_mono (run_def G hG hr (.of_eq (hb ws hl)) (hx σ) J1 r2 y) fun rr z2 t => ?_)
  cases rr with
  | error e => exact t
  | ok fl =>
    cases fl with
    | ret u => exact t
    | next => exact t.elim
    | brk => exact t.elim
    | cont => exact t.elim
theorem pass0' (σ : L2.St) : PassesAt (L2.CX X.prog X.w) X σ (fun c d H => W0 c d σ H) := fun _ _ _ _ _ _ c => by
  obtain ⟨_, _, _, _, _, _, _, _, _, _, _, _, y⟩ := c
  exact y.elim
end
end PV

end

section
set_option maxRecDepth 100000
namespace PV
open PySem PySem.Spec PyProof.Rows L2

theorem PE_or {X : Cx} {e : Expr} {t t' : TE} (h : PE X e t) (h' : PE X e t') : PE X e (fun σ H Q => t σ H Q ∨ t' σ H Q) := ⟨fun pins s σ H Q J q => q.elim (h.run pins s σ H Q J) (h'.run pins s σ H Q J)⟩
/-! ### subscripts -/
def valD {κ : Type} [DecidableEq κ] (kvs : List (κ × D)) (k : κ) : Option D := (kvs.find? fun kv => decide (kv.1 = k)).map (·.2)
def keyD : D → Option Key
  | .int i => some (.inl i)
  | .str x => some (.inr x)
  | _ => none
def keysD : List D → Option (List Key)
  | [] => some []
  | d :: ds => match keyD d, keysD ds with
    | some k, some ks => some (k :: ks)
    | _, _ => none
def ixD : D → D → Option D
  | .tup ds, .int i => atI ds i
  | .lst ds, .int i => atI ds i
  | .dK kvs, y => (keyD y).bind (valD kvs)
  | .dT kvs, .tup ks => (keysD ks).bind (valD kvs)
  | _, _ => none
section
variable {K : PySem.W.Frag} {I : Hp} {dk : Addr}
theorem atI_rep {ds : List D} {vs : List V} {i : Int} {d : D} (r : RepL K I dk ds vs) (h : atI ds i = some d) : ∃ v, atI vs i = some v ∧ Rep K I dk d v := by
  unfold atI at h ⊢
  rw [← r.length]
  cases e : ixN ds.length i with
  | none => rw [e] at h; cases h
  | some j =>
    rw [e] at h
    exact r.get h
theorem valK_rep : ∀ {kvs : List (Key × D)} {ws : List (Key × V)} {k : Key} {d : D}, RepK K I dk kvs ws → valD kvs k = some d → ∃ v, valV ws k = some v ∧ Rep K I dk d v
  | [], _, k, d, _, h => by cases h
  | (a, d') :: r, _, k, d, ⟨v, ws, e, h1, h2⟩, h => by
    subst e
    unfold valD at h
    unfold valV
    rw [List.find?_cons] at h ⊢
    by_cases hk : a = k
    · simp only [hk, decide_true, Option.map_some] at h ⊢
      cases h
      exact ⟨v, rfl, h1⟩
    · simp only [hk, decide_false] at h ⊢
      exact valK_rep h2 h
theorem valT_rep : ∀ {kvs : List (List Key × D)} {ws : List (List Key × V)} {k : List Key} {d : D}, RepT K I dk kvs ws → valD kvs k = some d → ∃ v, valV ws k = some v ∧ Rep K I dk d v
  | [], _, k, d, _, h => by cases h
  | (a, d') :: r, _, k, d, ⟨v, ws, e, h1, h2⟩, h => by
    subst e
    unfold valD at h
    unfold valV
    rw [List.find?_cons] at h ⊢
    by_cases hk : a = k
    · simp only [hk, decide_true, Option.map_some] at h ⊢
      cases h
      exact ⟨v, rfl, h1⟩
    · simp only [hk, decide_false] at h ⊢
      exact valT_rep h2 h
theorem keyD_rep {d : D} {v : V} {k : Key} (r : Rep K I dk d v) (h : keyD d = some k) : v = kV k := by
  cases d with
  | int i => cases h; exact r
  | str x => cases h; exact r
  | _ => cases h
theorem keysD_rep : ∀ {ds : List D} {vs : List V} {ks : List Key}, RepL K I dk ds vs → keysD ds = some ks → vs = ks.map kV
  | [], vs, ks, r, h => by cases h; exact r
  | d :: ds, _, ks, ⟨v, ws, e, h1, h2⟩, h => by
    subst e
    simp only [keysD] at h
    cases z : keyD d with
    | none => rw [z] at h; cases h
    | some k =>
      cases z2 : keysD ds with
      | none => rw [z, z2] at h; cases h
      | some ks' =>
        rw [z, z2] at h
        cases h
        rw [keyD_rep h1 z, keysD_rep h2 z2]
        rfl
end
section
variable {X : Cx} {dk l : Addr} {W : WX} {pos : Pos}
theorem r_ix {a b : Expr} {ma mb : En → M D} (hu : X.A.units + 1 < cLine) (ha : PE X a (lift X.K dk l W ma)) (hb : PE X b (lift X.K dk l W mb)) (hs : PlainIx b) : PE X (.Subscript a b pos) (lift X.K dk l W (eOp ixD ma mb)) := PE_imp (PE_or (pe_ix ix_seq ha hb hs) (pe_dget hu ha hb hs)) fun σ H Q ⟨I, env, s, k, w, q⟩ => by
  have q1 := q.bind
  cases z : ma env s with
  | bad => rw [z] at q1; exact q1.elim
  | exc c d s1 =>
    rw [z] at q1
    exact .inl ⟨I, env, s, k, w, by rw [z]; exact q1⟩
  | ok x s1 =>
    rw [z] at q1
    have q2 := (show Post (andThen (mb env) (fun y => opt (ixD x y)) s1) _ _ from q1).bind
    have seq : ∀ (t : Bool) (ds : List D), (∀ y d, ixD x y = some d → ∃ i, y = .int i ∧ atI ds i = some d ∧ ∀ I v, Rep X.K I dk x v → ∃ a vs, v = .ref a ∧ SqA X.K t I a vs ∧ RepL X.K I dk ds vs) → tOp (rIx X.K) (lift X.K dk l W ma) (lift X.K dk l W mb) σ H Q := fun t ds e1 => by
      refine ⟨I, env, s, k, w, ?_⟩
      rw [z]
      intro v I1 H1 x1 w1 r1
      refine ⟨I1, env, s1, k.ext x1, w1, q2.mono (fun y s2 q u I2 H2 x2 w2 r2 => ?_) fun _ _ _ h => h.shift x1⟩
      obtain ⟨d, e4, q3⟩ := q.opt
      obtain ⟨i, rfl, e5, e3⟩ := e1 y d e4
      obtain ⟨a', vs, rfl, h1, h2⟩ := e3 I1 v r1
      obtain ⟨v', h3, h4⟩ := atI_rep h2 e5
      have fin := q3 v' I2 H2 (x1.trans x2 w2) w2 (Rep.mono x2.grow d v' h4)
      have h5 := (h1.mono x2.grow).mono w2.sub
      cases t with
      | true => exact .inr (.inl ⟨a', vs, i, v', rfl, r2, h5, h3, fin⟩)
      | false => exact .inl ⟨a', vs, i, v', rfl, r2, h5, h3, fin⟩
    have dict : (∀ I1 H1 s1 v, Wo dk l I1 H1 s1 → Rep X.K I1 dk x v → ∃ a, v = .ref a ∧ ∀ I2 H2 s2 y d u, Sm I1 I2 → Wo dk l I2 H2 s2 → Rep X.K I2 dk y u → ixD x y = some d → ∃ o, DGet H2 a u (some o) ∧ Rep X.K I2 dk d o) → tDGet (lift X.K dk l W ma) (lift X.K dk l W mb) σ H Q := fun e1 => by
      refine ⟨I, env, s, k, w, ?_⟩
      rw [z]
      intro v I1 H1 x1 w1 r1
      obtain ⟨a', ea, e2⟩ := e1 I1 H1 s1 v w1 r1
      refine ⟨I1, env, s1, k.ext x1, w1, q2.mono (fun y s2 q u I2 H2 x2 w2 r2 => ?_) fun _ _ _ h => h.shift x1⟩
      obtain ⟨d, e4, q3⟩ := q.opt
      obtain ⟨o, g, r3⟩ := e2 I2 H2 s2 y d u x2.grow w2 r2 e4
      exact ⟨a', o, ea, g, q3 o I2 H2 (x1.trans x2 w2) w2 r3⟩
    cases x with
    | tup ds => exact .inl (seq true ds fun y d h => by
        cases y <;> first | (simp only [ixD] at h; cases h; done) | exact ⟨_, rfl, h, fun I v ⟨a, vs, e1, e2, e3⟩ => ⟨a, vs, e1, SqT.of e2, e3⟩⟩)
    | lst ds => exact .inl (seq false ds fun y d h => by
        cases y <;> first | (simp only [ixD] at h; cases h; done) | exact ⟨_, rfl, h, fun I v ⟨a, vs, e1, e2, e3⟩ => ⟨a, vs, e1, SqL.of e2, e3⟩⟩)
    | dK kvs => exact .inr (dict fun I1 H1 s1 v w1 r => by
        obtain ⟨a, ws, e1, e2, e3⟩ := r
        refine ⟨a, e1, fun I2 H2 s2 y d u g w2 ry h => ?_⟩
        simp only [ixD] at h
        cases zk : keyD y with
        | none => rw [zk] at h; cases h
        | some ky =>
          rw [zk] at h
          obtain ⟨o, h1, h2⟩ := valK_rep e3 h
          rw [keyD_rep ry zk]
          exact ⟨o, h1 ▸ DGet.k (w2.sub _ _ (g _ _ e2)), Rep.mono g _ _ h2⟩)
    | dT kvs => exact .inr (dict fun I1 H1 s1 v w1 r => by
        obtain ⟨a, ws, e1, e2, e3⟩ := r
        refine ⟨a, e1, fun I2 H2 s2 y d u g w2 ry h => ?_⟩
        cases y with
        | tup ks =>
          simp only [ixD] at h
          cases zk : keysD ks with
          | none => rw [zk] at h; cases h
          | some ky =>
            rw [zk] at h
            obtain ⟨o, h1, h2⟩ := valT_rep e3 h
            obtain ⟨b', vs, rfl, f1, f2⟩ := ry
            rw [keysD_rep f2 zk] at f1
            exact ⟨o, h1 ▸ DGet.t (w2.sub _ _ (g _ _ e2)) (w2.sub _ _ f1), Rep.mono g _ _ h2⟩
        | _ => simp only [ixD] at h; cases h)
    | _ => exact .inl (seq true [] fun y d h => by simp only [ixD] at h; cases h)
/-! ### slices -/
def cutL (xs : List D) (lo hi : Option Int) : List D := (xs.drop (HT.sIx xs.length 0 lo)).take (HT.sIx xs.length xs.length hi - HT.sIx xs.length 0 lo)
theorem cut_rep {K : PySem.W.Frag} {I : Hp} {ds : List D} {vs : List V} (r : RepL K I dk ds vs) (lo hi : Option Int) : RepL K I dk (cutL ds lo hi) (cutV vs lo hi) := by
  unfold cutL cutV
  rw [r.length]
  exact (r.drop _).take _
def cutD : D → Option Int → Option Int → Option D
  | .tup ds, lo, hi => some (.tup (cutL ds lo hi))
  | .lst ds, lo, hi => some (.lst (cutL ds lo hi))
  | _, _, _ => none
def eNoPart : En → M (Option Int) := fun _ => ret none
def ePart (m : En → M D) : En → M (Option Int) := fun env => andThen (m env) fun d => match d with
  | .int i => ret (some i)
  | _ => bad
def eSlice (m : En → M D) (a b : En → M (Option Int)) : En → M D := fun env => andThen (m env) fun d => andThen (a env) fun lo => andThen (b env) fun hi => opt (cutD d lo hi)
def liftP (K : PySem.W.Frag) (dk l : Addr) (W : WX) (m : En → M (Option Int)) : TO := fun σ H Q => ∃ I env s, EnvOk K dk l I H env σ ∧ Wo dk l I H s ∧ Post (m env s) (fun o s' => ∀ I' H', Ext dk l I H I' H' → Wo dk l I' H' s' → Q o H') (exQ K dk l W I H σ)
theorem r_pno : PO X none (liftP X.K dk l W eNoPart) := ⟨fun pins z σ H Q J ⟨I, env, s, k, w, q⟩ => po_none.run pins z σ H Q J (q I H Ext.refl w)⟩
theorem r_psome {e : Expr} {m : En → M D} (h : PE X e (lift X.K dk l W m)) : PO X (some e) (liftP X.K dk l W (ePart m)) := ⟨fun pins z σ H Q J ⟨I, env, s, k, w, q⟩ => (po_some h).run pins z σ H Q J (by
  refine ⟨I, env, s, k, w, q.bind.mono (fun d s1 q v I1 H1 x1 w1 r1 => ?_) fun _ _ _ h => h⟩
  cases d with
  | int i => exact ⟨i, r1, q I1 H1 x1 w1⟩
  | _ => exact q.elim)⟩
theorem r_slice {e : Expr} {lo hi : Option Expr} {p2 : Pos} {m : En → M D} {ma mb : En → M (Option Int)} (he : PE X e (lift X.K dk l W m)) (hl : PO X lo (liftP X.K dk l W ma)) (hh : PO X hi (liftP X.K dk l W mb)) : PE X (.Subscript e (.Slice lo hi none p2) pos) (lift X.K dk l W (eSlice m ma mb)) := PE_imp (pe_slice (SlR.or sl_tupA sl_list) he hl hh) fun σ H Q ⟨I, env, s, k, w, q⟩ => by
  refine ⟨I, env, s, k, w, q.bind.mono (fun d s1 q v I1 H1 x1 w1 r1 => ?_) fun _ _ _ h => h⟩
  refine ⟨I1, env, s1, k.ext x1, w1, q.bind.mono (fun a s2 q I2 H2 x2 w2 => ?_) fun _ _ _ h => h.shift x1⟩
  refine ⟨I2, env, s2, (k.ext x1).ext x2, w2, q.bind.mono (fun b s3 q I3 H3 x3 w3 => ?_) fun _ _ _ h => h.shift (x1.trans x2 w2)⟩
  obtain ⟨d', e1, q⟩ := q.opt
  have x13 := (x1.trans x2 w2).trans x3 w3
  have r3 := Rep.mono (x2.grow.trans x3.grow) d v r1
  cases d with
  | tup ds =>
    cases e1
    obtain ⟨p, vs, rfl, h1, h2⟩ := r3
    refine .inl ⟨p, vs, rfl, SqT.of (w3.sub _ _ h1), fun z => q _ I3 H3 x13 w3 ⟨p, vs, rfl, h1, ?_⟩, fun z t ht => q _ _ _ (x13.trans (Ext.new w3 ht) (w3.new ht)) (w3.new ht) ⟨t, _, rfl, upd_same, RepL.mono (Sm.upd (w3.sub.none ht)) _ _ (cut_rep h2 a b)⟩⟩
    have e : cutL ds a b = ds := by
      unfold cutL
      rw [h2.length, z.1, z.2]
      simp [← h2.length]
    rw [e]
    exact h2
  | lst ds =>
    cases e1
    obtain ⟨p, vs, rfl, h1, h2⟩ := r3
    exact .inr ⟨p, vs, rfl, SqL.of (w3.sub _ _ h1), fun t ht => q _ _ _ (x13.trans (Ext.new w3 ht) (w3.new ht)) (w3.new ht) ⟨t, _, rfl, upd_same, RepL.mono (Sm.upd (w3.sub.none ht)) _ _ (cut_rep h2 a b)⟩⟩
  | _ => cases e1
/-! ### stars -/
def eAstar (a : En → M D) (r : En → M (List D)) : En → M (List D) := fun env => andThen (a env) fun x => andThen (opt (seqOf x)) fun ds => andThen (r env) fun xs => ret (ds ++ xs)
theorem r_astar {a : Expr} {es : List Expr} {p : Pos} {m : En → M D} {n : En → M (List D)} (h : PE X a (lift X.K dk l W m)) (h2 : PA X es (liftA X.K dk l W n)) (hs : starEach (.Starred a p :: es) X.env = (true, eval a X.env) :: starEach es X.env := by rfl) : PA X (.Starred a p :: es) (liftA X.K dk l W (eAstar m n)) := PA_imp (StX.pa_star h h2 hs) fun σ H Q ⟨I, env, s, k, w, q⟩ => by
  refine ⟨I, env, s, k, w, q.bind.mono (fun x s1 q v I1 H1 x1 w1 r1 => ?_) fun _ _ _ h => h⟩
  obtain ⟨ds, zs, q⟩ := q.bind.opt
  obtain ⟨t, a', vs, rfl, h3, h4⟩ := seq_at w1 r1 zs
  refine ⟨a', vs, rfl, ?_, I1, env, s1, k.ext x1, w1, q.bind.mono (fun xs s2 q ws I2 H2 x2 w2 r2 => ?_) fun _ _ _ h => h.shift x1⟩
  · cases t with
    | true => exact .inl (h3.mono w1.sub)
    | false => exact .inr (h3.mono w1.sub)
  · exact q _ I2 H2 (x1.trans x2 w2) w2 ((RepL.mono x2.grow _ _ h4).append r2)
end
end PV

end

section
set_option maxRecDepth 100000
namespace PV
open PySem PySem.Spec PyProof.Rows L2

/-! ### built-ins -/
def CallD (X : Cx) (dk l : Addr) (f : Value) (g : List D → Option D) : Prop := ∃ r, CallR X f r ∧ ∀ I H s ds vs d Q, Wo dk l I H s → RepL X.K I dk ds vs → g ds = some d → (∀ w I' H', Ext dk l I H I' H' → Wo dk l I' H' s → Rep X.K I' dk d w → Q w H') → r vs H Q
def CallO (X : Cx) (dk l : Addr) (f : Value) (g : List D → Option OD) : Prop := ∃ r, CallR X f r ∧ ∀ I H s ds vs d Q, Wo dk l I H s → RepL X.K I dk ds vs → g ds = some d → (∀ p I' H', Ext dk l I H I' H' → Wo dk l I' H' s → H p = none → OwnAt X.K I' H' dk p d → p ≠ dk → p ≠ l → I' p = none → Q (.ref p) H') → r vs H Q
section
variable {X : Cx} {dk l : Addr} {W : WX} {pos : Pos}
theorem r_callB {x : Str} {p : Pos} {e : Expr} {es : List Expr} {id : String} {g : List D → Option D} {n : En → M (List D)} (c : CallD X dk l (.builtin id) g) (hg : Gl X x) (hm : X.mg x = none) (hv : bootBuiltins x = some (.builtin id)) (ha : PA X (e :: es) (liftA X.K dk l W n))
    (hn : x ≠ "__name__" := by decide) (hdb : (x == ("__debug__" : Str)) = false := by decide) (he : starEach (e :: es) X.env = (false, eval e X.env) :: starEach es X.env := by rfl) (hpl : (backTo pos (starEach es X.env)).any (·.1) = false := by rfl) :
    PE X (.Call (.Name x p) (e :: es) [] pos) (lift X.K dk l W (eMapA g n)) := by
  obtain ⟨r, hr, h⟩ := c
  exact PE_imp (pe_callB hr hg hm hv ha hn hdb he hpl) fun σ H Q ⟨I, env, s, k, w, q⟩ => by
    refine ⟨I, env, s, k, w, q.bind.mono (fun ds s1 q vs I1 H1 x1 w1 r1 => ?_) fun _ _ _ h => h⟩
    obtain ⟨d, e2, q⟩ := q.opt
    exact h I1 H1 s1 ds vs d Q w1 r1 e2 fun v I2 H2 x2 w2 r2 => q v I2 H2 (x1.trans x2 w2) w2 r2
theorem r_callT {x : Str} {p : Pos} {e : Expr} {es : List Expr} {T : String} {g : List D → Option D} {n : En → M (List D)} (c : CallD X dk l (.type T) g) (hg : Gl X x) (hm : X.mg x = none) (hv : bootBuiltins x = some (.type T)) (ha : PA X (e :: es) (liftA X.K dk l W n))
    (hn : x ≠ "__name__" := by decide) (hdb : (x == ("__debug__" : Str)) = false := by decide) (he : starEach (e :: es) X.env = (false, eval e X.env) :: starEach es X.env := by rfl) (hpl : (backTo pos (starEach es X.env)).any (·.1) = false := by rfl) :
    PE X (.Call (.Name x p) (e :: es) [] pos) (lift X.K dk l W (eMapA g n)) := by
  obtain ⟨r, hr, h⟩ := c
  exact PE_imp (pe_callTy hr hg hm hv ha hn hdb he hpl) fun σ H Q ⟨I, env, s, k, w, q⟩ => by
    refine ⟨I, env, s, k, w, q.bind.mono (fun ds s1 q vs I1 H1 x1 w1 r1 => ?_) fun _ _ _ h => h⟩
    obtain ⟨d, e2, q⟩ := q.opt
    exact h I1 H1 s1 ds vs d Q w1 r1 e2 fun v I2 H2 x2 w2 r2 => q v I2 H2 (x1.trans x2 w2) w2 r2
theorem own_back {I H I1 H1 I2 H2 : Hp} {s1 : Dk} {p : Addr} (x1 : Ext dk l I H I1 H1) (hp : H1 p = none) (n1 : p ≠ dk) (n2 : p ≠ l) : H p = none := by
  cases r : H p with
  | none => rfl
  | some u => rw [x1.keep p u r n1 n2] at hp; cases hp
theorem r_callBO {x : Str} {p : Pos} {e : Expr} {es : List Expr} {id : String} {g : List D → Option OD} {n : En → M (List D)} (c : CallO X dk l (.builtin id) g) (hg : Gl X x) (hm : X.mg x = none) (hv : bootBuiltins x = some (.builtin id)) (ha : PA X (e :: es) (liftA X.K dk l W n))
    (hn : x ≠ "__name__" := by decide) (hdb : (x == ("__debug__" : Str)) = false := by decide) (he : starEach (e :: es) X.env = (false, eval e X.env) :: starEach es X.env := by rfl) (hpl : (backTo pos (starEach es X.env)).any (·.1) = false := by rfl) :
    PE X (.Call (.Name x p) (e :: es) [] pos) (liftO X.K dk l W (eMapO g n)) := by
  obtain ⟨r, hr, h⟩ := c
  exact PE_imp (pe_callB hr hg hm hv ha hn hdb he hpl) fun σ H Q ⟨I, env, s, k, w, q⟩ => by
    refine ⟨I, env, s, k, w, q.bind.mono (fun ds s1 q vs I1 H1 x1 w1 r1 => ?_) fun _ _ _ h => h⟩
    obtain ⟨d, e2, q⟩ := q.opt
    exact h I1 H1 s1 ds vs d Q w1 r1 e2 fun v I2 H2 x2 w2 hp ho n1 n2 n3 => q v I2 H2 (x1.trans x2 w2) w2 (own_back (I2 := I2) (H2 := H2) (s1 := s1) x1 hp n1 n2) ho n1 n2 n3
theorem r_callTO {x : Str} {p : Pos} {e : Expr} {es : List Expr} {T : String} {g : List D → Option OD} {n : En → M (List D)} (c : CallO X dk l (.type T) g) (hg : Gl X x) (hm : X.mg x = none) (hv : bootBuiltins x = some (.type T)) (ha : PA X (e :: es) (liftA X.K dk l W n))
    (hn : x ≠ "__name__" := by decide) (hdb : (x == ("__debug__" : Str)) = false := by decide) (he : starEach (e :: es) X.env = (false, eval e X.env) :: starEach es X.env := by rfl) (hpl : (backTo pos (starEach es X.env)).any (·.1) = false := by rfl) :
    PE X (.Call (.Name x p) (e :: es) [] pos) (liftO X.K dk l W (eMapO g n)) := by
  obtain ⟨r, hr, h⟩ := c
  exact PE_imp (pe_callTy hr hg hm hv ha hn hdb he hpl) fun σ H Q ⟨I, env, s, k, w, q⟩ => by
    refine ⟨I, env, s, k, w, q.bind.mono (fun ds s1 q vs I1 H1 x1 w1 r1 => ?_) fun _ _ _ h => h⟩
    obtain ⟨d, e2, q⟩ := q.opt
    exact h I1 H1 s1 ds vs d Q w1 r1 e2 fun v I2 H2 x2 w2 hp ho n1 n2 n3 => q v I2 H2 (x1.trans x2 w2) w2 (own_back (I2 := I2) (H2 := H2) (s1 := s1) x1 hp n1 n2) ho n1 n2 n3
/-! one argument -/
def g1 (f : D → Option D) : List D → Option D
  | [d] => f d
  | _ => none
def g1O (f : D → Option OD) : List D → Option OD
  | [d] => f d
  | _ => none
theorem callD1 {f : Value} {r : List V → Hp → VK → Prop} {g : D → Option D} (hr : CallR X f r) (h : ∀ I H s x v d Q, Wo dk l I H s → Rep X.K I dk x v → g x = some d → (∀ w I' H', Ext dk l I H I' H' → Wo dk l I' H' s → Rep X.K I' dk d w → Q w H') → r [v] H Q) : CallD X dk l f (g1 g) := by
  refine ⟨r, hr, fun I H s ds vs d Q w rs e q => ?_⟩
  rcases ds with _ | ⟨x, _ | ⟨y, t⟩⟩
  · cases e
  · obtain ⟨v, r', rfl, h1, h2⟩ := rs
    have h3 : r' = [] := h2
    subst h3
    exact h I H s x v d Q w h1 e q
  · cases e
theorem callO1 {f : Value} {r : List V → Hp → VK → Prop} {g : D → Option OD} (hr : CallR X f r) (h : ∀ I H s x v d Q, Wo dk l I H s → Rep X.K I dk x v → g x = some d → (∀ p I' H', Ext dk l I H I' H' → Wo dk l I' H' s → H p = none → OwnAt X.K I' H' dk p d → p ≠ dk → p ≠ l → I' p = none → Q (.ref p) H') → r [v] H Q) : CallO X dk l f (g1O g) := by
  refine ⟨r, hr, fun I H s ds vs d Q w rs e q => ?_⟩
  rcases ds with _ | ⟨x, _ | ⟨y, t⟩⟩
  · cases e
  · obtain ⟨v, r', rfl, h1, h2⟩ := rs
    have h3 : r' = [] := h2
    subst h3
    exact h I H s x v d Q w h1 e q
  · cases e
/-- a new list of one's own -/
theorem own_new {I H : Hp} {s : Dk} {ds : List D} {vs : List V} {Q : VK} (w : Wo dk l I H s) (r : RepL X.K I dk ds vs) (q : ∀ p I' H', Ext dk l I H I' H' → Wo dk l I' H' s → H p = none → OwnAt X.K I' H' dk p (.lst ds) → p ≠ dk → p ≠ l → I' p = none → Q (.ref p) H') : ∀ t, H t = none → Q (.ref t) (upd H t (.lst vs)) := fun t ht => by
  have n1 : t ≠ dk := (ne_of_none w.dko ht).symm
  have n2 : t ≠ l := (ne_of_none w.lft ht).symm
  have n3 : I t = none := w.sub.none ht
  exact q t I _ (Ext.off w ht) (w.off n3 n1 n2) ht ⟨vs, upd_same, r⟩ n1 n2 n3
theorem tup_new {I H : Hp} {s : Dk} {ds : List D} {vs : List V} {Q : VK} (w : Wo dk l I H s) (r : RepL X.K I dk ds vs) (q : ∀ v I' H', Ext dk l I H I' H' → Wo dk l I' H' s → Rep X.K I' dk (.tup ds) v → Q v H') : ∀ t, H t = none → Q (.ref t) (upd H t (.tup vs)) := fun t ht =>
  q _ _ _ (Ext.new w ht) (w.new ht) ⟨t, vs, rfl, upd_same, RepL.mono (Sm.upd (w.sub.none ht)) _ _ r⟩
def lenD : D → Option D
  | .tup ds => some (.int ds.length)
  | .lst ds => some (.int ds.length)
  | _ => none
theorem c_len : CallD X dk l (.builtin "len") (g1 lenD) := callD1 call_len_seq fun I H s x v d Q w r e q => by
  cases x with
  | tup ds =>
    cases e
    obtain ⟨a, vs, rfl, h1, h2⟩ := r
    exact ⟨a, vs, rfl, .inr (.of (w.sub _ _ h1)), by rw [← h2.length]; exact q _ I H Ext.refl w rfl⟩
  | lst ds =>
    cases e
    obtain ⟨a, vs, rfl, h1, h2⟩ := r
    exact ⟨a, vs, rfl, .inl (.of (w.sub _ _ h1)), by rw [← h2.length]; exact q _ I H Ext.refl w rfl⟩
  | _ => cases e
def tupleD : D → Option D
  | .tup ds => some (.tup ds)
  | .lst ds => some (.tup ds)
  | _ => none
theorem c_tuple : CallD X dk l (.type "tuple") (g1 tupleD) := callD1 call_tuple_of fun I H s x v d Q w r e q => by
  cases x with
  | tup ds =>
    cases e
    obtain ⟨a, vs, rfl, h1, h2⟩ := r
    exact ⟨a, vs, rfl, .inr ⟨.of (w.sub _ _ h1), q _ I H Ext.refl w ⟨a, vs, rfl, h1, h2⟩⟩⟩
  | lst ds =>
    cases e
    obtain ⟨a, vs, rfl, h1, h2⟩ := r
    exact ⟨a, vs, rfl, .inl ⟨.of (w.sub _ _ h1), tup_new w h2 q⟩⟩
  | _ => cases e
def listD : D → Option OD := fun d => (seqOf d).map OD.lst
theorem c_list : CallO X dk l (.type "list") (g1O listD) := callO1 call_list_of fun I H s x v d Q w r e q => by
  cases x with
  | tup ds =>
    cases e
    obtain ⟨a, vs, rfl, h1, h2⟩ := r
    exact ⟨a, vs, rfl, .inr (.of (w.sub _ _ h1)), own_new w h2 q⟩
  | lst ds =>
    cases e
    obtain ⟨a, vs, rfl, h1, h2⟩ := r
    exact ⟨a, vs, rfl, .inl (.of (w.sub _ _ h1)), own_new w h2 q⟩
  | _ => cases e
def intD : D → Option D
  | .int i => some (.int i)
  | .bl b => some (.int (if b then 1 else 0))
  | _ => none
theorem c_int : CallD X dk l (.type "int") (g1 intD) := callD1 call_int1 fun I H s x v d Q w r e q => by
  cases x with
  | int i =>
    cases e
    exact .inl ⟨i, by rw [show v = _ from r], q _ I H Ext.refl w rfl⟩
  | bl b =>
    cases e
    exact .inr ⟨b, by rw [show v = _ from r], q _ I H Ext.refl w rfl⟩
  | _ => cases e
def bls? : List D → Option (List Bool)
  | [] => some []
  | .bl b :: r => (bls? r).map (b :: ·)
  | _ :: _ => none
theorem bls_of {I : Hp} : ∀ {ds : List D} {bs : List Bool} {vs : List V}, bls? ds = some bs → RepL X.K I dk ds vs → vs = bs.map V.bl
  | [], bs, vs, h, r => by cases h; exact r
  | d :: ds, bs, vs, h, r => by
    obtain ⟨v, t, rfl, h1, h2⟩ := r
    cases d with
    | bl b =>
      simp only [bls?] at h
      cases z : bls? ds with
      | none => rw [z] at h; cases h
      | some cs =>
        rw [z] at h
        cases h
        rw [show v = _ from h1, bls_of z h2]
        rfl
    | _ => simp only [bls?] at h; cases h
def allD : D → Option D
  | .lst ds => (bls? ds).map fun bs => .bl (bs.all id)
  | _ => none
def anyD : D → Option D
  | .lst ds => (bls? ds).map fun bs => .bl (bs.any id)
  | _ => none
theorem c_all (hc : X.calm = true) : CallD X dk l (.builtin "all") (g1 allD) := callD1 (cr_all hc) fun I H s x v d Q w r e q => by
  cases x with
  | lst ds =>
    simp only [allD] at e
    cases z : bls? ds with
    | none => rw [z] at e; cases e
    | some bs =>
      rw [z] at e
      cases e
      obtain ⟨a, vs, rfl, h1, h2⟩ := r
      rw [bls_of z h2] at h1
      exact ⟨a, bs, rfl, .of (w.sub _ _ h1), q _ I H Ext.refl w rfl⟩
  | _ => cases e
theorem c_any (hc : X.calm = true) : CallD X dk l (.builtin "any") (g1 anyD) := callD1 (cr_any hc) fun I H s x v d Q w r e q => by
  cases x with
  | lst ds =>
    simp only [anyD] at e
    cases z : bls? ds with
    | none => rw [z] at e; cases e
    | some bs =>
      rw [z] at e
      cases e
      obtain ⟨a, vs, rfl, h1, h2⟩ := r
      rw [bls_of z h2] at h1
      exact ⟨a, bs, rfl, .of (w.sub _ _ h1), q _ I H Ext.refl w rfl⟩
  | _ => cases e
def sumD : D → Option D
  | .lst ds => (ints? ds).map fun ns => .int ns.sum
  | _ => none
theorem c_sum (hc : X.calm = true) : CallD X dk l (.builtin "sum") (g1 sumD) := callD1 (cr_sum hc) fun I H s x v d Q w r e q => by
  cases x with
  | lst ds =>
    simp only [sumD] at e
    cases z : ints? ds with
    | none => rw [z] at e; cases e
    | some ns =>
      rw [z] at e
      cases e
      obtain ⟨a, vs, rfl, h1, h2⟩ := r
      rw [ints?_eq z] at h2
      rw [h2.ints_of] at h1
      exact ⟨a, ns, rfl, .of (w.sub _ _ h1), q _ I H Ext.refl w rfl⟩
  | _ => cases e
/-- sorted(..) of ints -/
def sortI (ns : List Int) : List Int := ns.mergeSort fun a b => decide (a ≤ b)
theorem sortI_perm (ns : List Int) : (sortI ns).Perm ns := List.mergeSort_perm ..
theorem sortI_sorted (ns : List Int) : (sortI ns).Pairwise (· ≤ ·) := by
  have h := List.pairwise_mergeSort (le := fun a b : Int => decide (a ≤ b)) (fun a b c h1 h2 => by
    have := of_decide_eq_true h1
    have := of_decide_eq_true h2
    exact decide_eq_true (by omega)) (fun a b => by
    by_cases h : a ≤ b
    · simp [h]
    · simp [h]; omega) ns
  exact h.imp fun h => of_decide_eq_true h
def sortedD : D → Option OD
  | .lst ds => (ints? ds).map fun ns => .lst ((sortI ns).map D.int)
  | _ => none
theorem c_sortedI : CallO X dk l (.builtin "sorted") (g1O sortedD) := callO1 cr_sortedI fun I H s x v d Q w r e q => by
  cases x with
  | lst ds =>
    simp only [sortedD] at e
    cases z : ints? ds with
    | none => rw [z] at e; cases e
    | some ns =>
      rw [z] at e
      cases e
      obtain ⟨a, vs, rfl, h1, h2⟩ := r
      rw [ints?_eq z] at h2
      rw [h2.ints_of] at h1
      refine ⟨a, ns, rfl, .of (w.sub _ _ h1), fun ns' p hp hs hn => ?_⟩
      have e2 : ns' = sortI ns := PySem.W.ksm_same (hp.trans (sortI_perm ns).symm) hs (sortI_sorted ns)
      rw [e2]
      exact own_new w (RepL.ints _) q p hn
  | _ => cases e
/-- max(a, b) -/
def gMax : List D → Option D
  | [.int i, .int j] => some (.int (if j > i then j else i))
  | _ => none
theorem c_max (hc : X.calm = true) : CallD X dk l (.builtin "max") gMax := by
  refine ⟨_, call_max2 hc, fun I H s ds vs d Q w rs e q => ?_⟩
  rcases ds with _ | ⟨x, _ | ⟨y, _ | ⟨z, t⟩⟩⟩
  · cases e
  · cases x <;> cases e
  · cases x <;> cases y <;> first | cases e | skip
    obtain ⟨v, r', rfl, h1, v2, r2, rfl, h2, h3⟩ := rs
    have h4 : r2 = [] := h3
    subst h4
    exact ⟨_, _, by rw [show v = _ from h1, show v2 = _ from h2], q _ I H Ext.refl w rfl⟩
  · cases x <;> cases y <;> cases e
/-! repr -/
def reprD (d : D) : Option D := d.toP.bind fun p => if p.showable && SeqAt.shaped p && decide (p.shown.length ≤ size7) then some (.str p.shown) else none
theorem call_reprD (hG : X.A.guards = some []) (hu : X.A.units + 128 < cLine) : CallR X (.builtin "repr") (fun xs H Q => ∃ (x : V) (p : PyData), xs = [x] ∧ Dp X.K H x p ∧ p.showable = true ∧ SeqAt.shaped p = true ∧ p.shown.length ≤ size7 ∧ Q (.str p.shown) H) := by
  intro pins z σ H xs us Q J r h
  obtain ⟨x, p, rfl, hd, hs, hsh, hz, q⟩ := h
  obtain ⟨u, rfl, ru⟩ := vals1 r
  obtain ⟨as, rd⟩ := Dp.reads J p x u hd ru
  have hnd : p.hasDict = false := PyData.hasDict_of_canLay p (SeqAt.canLay_of_shaped hsh)
  have hdep := SeqAt.depth_of_shaped hsh
  cases hd with
  | non =>
    cases (show u = Value.none from ru)
    exact PySem.P.repr_of_none ⟨.str _, H, J.tok _, ⟨_, rfl⟩, by simpa only [PyData.shown] using q⟩
  | bl b =>
    cases (show u = Value.bool b from ru)
    exact PySem.P.repr_of_bool ⟨.str _, H, J.tok _, ⟨_, rfl⟩, by simpa only [PyData.shown] using q⟩
  | int i =>
    obtain ⟨t, rfl⟩ := (show ∃ t, u = Value.int i t from ru)
    simp only [PyData.showable] at hs
    exact PySem.P.repr_of_int (of_decide_eq_true hs) ⟨.str _, H, J.tok _, ⟨_, rfl⟩, by simpa only [PyData.shown] using q⟩
  | str y =>
    obtain ⟨t, rfl⟩ := (show ∃ t, u = Value.str y t from ru)
    simp only [PyData.shown] at hz q
    exact PySem.P.repr_of_str ⟨.str _, H, J.tok _, ⟨_, rfl⟩, q⟩ (size7_le hz)
  | @lst a ys ds h1 h2 =>
    cases (show u = Value.ref a from ru)
    exact repr_of_reads' rd hs (fun h => by rw [hnd] at h; cases h) hG (by omega) (fun _ _ e => e) (fun h' t tk kp => ⟨.str _, H, J.kept kp, ⟨t, rfl⟩, q⟩) (size7_le hz)
  | @tup a ys ds h1 h2 =>
    cases (show u = Value.ref a from ru)
    exact repr_of_reads' rd hs (fun h => by rw [hnd] at h; cases h) hG (by omega) (fun _ _ e => e) (fun h' t tk kp => ⟨.str _, H, J.kept kp, ⟨t, rfl⟩, q⟩) (size7_le hz)
theorem c_repr (hG : X.A.guards = some []) (hu : X.A.units + 128 < cLine) : CallD X dk l (.builtin "repr") (g1 reprD) := callD1 (call_reprD hG hu) fun I H s x v d Q w r e q => by
  unfold reprD at e
  cases z : x.toP with
  | none => rw [z] at e; cases e
  | some p =>
    rw [z] at e
    by_cases h : (p.showable && SeqAt.shaped p && decide (p.shown.length ≤ size7)) = true
    · have e2 : some (D.str p.shown) = some d := by rw [← e]; exact (if_pos h).symm
      cases e2
      rw [Bool.and_eq_true, Bool.and_eq_true] at h
      exact ⟨v, p, rfl, dp_of w.sub x v p r z, h.1.1, h.1.2, of_decide_eq_true h.2, q _ I H Ext.refl w rfl⟩
    · have e2 : none = some d := by rw [← e]; exact (if_neg h).symm
      cases e2
/-! tuple(range(..)), list(range(..)) -/
def gTupR (g : List D → Option (List D)) : List D → Option D := fun ds => (g ds).bind fun es => if es.length ≤ size7 then some (.tup es) else none
def gLstR (g : List D → Option (List D)) : List D → Option OD := fun ds => (g ds).bind fun es => if es.length ≤ size7 then some (.lst es) else none
theorem rg_rep {I : Hp} (a b : Int) : RepL X.K I dk (rangeD a b) (rgV a b) := by
  unfold rangeD rgV
  generalize List.range (b - a).toNat = L
  induction L with
  | nil => rfl
  | cons i L ih => exact ⟨_, _, rfl, rfl, ih⟩
theorem rg_ok {a b : Int} (h1 : small62 a = true) (h2 : small62 b = true) (h : (rangeD a b).length ≤ size7) : RgOk a b := by
  obtain ⟨a1, a2⟩ := small62_ok h1
  obtain ⟨b1, b2⟩ := small62_ok h2
  refine ⟨a1, a2, b1, b2, ?_⟩
  have : (rangeD a b).length = (b - a).toNat := by simp [rangeD]
  rw [this] at h
  exact Nat.le_trans h (by decide)
theorem r_tupRange1 {a : Expr} {m : En → M D} {p p2 pos2 : Pos} (hc : X.calm = true) (hg : Gl X "tuple") (hm : X.mg "tuple" = none) (hg2 : Gl X "range") (hm2 : X.mg "range" = none) (ha : PE X a (lift X.K dk l W m))
    (na : starEach [a] X.env = (false, eval a X.env) :: starEach [] X.env := by rfl) (nb : starEach [Expr.Call (.Name "range" p2) [a] [] pos2] X.env = (false, eval (Expr.Call (.Name "range" p2) [a] [] pos2) X.env) :: starEach [] X.env := by rfl) :
    PE X (.Call (.Name "tuple" p) [.Call (.Name "range" p2) [a] [] pos2] [] pos) (lift X.K dk l W (eMapA (gTupR gRange1) (eAcons m eAnil))) := PE_imp (pe_tupRg hc hg hm (prg_1 hg2 hm2 ha na) nb) fun σ H Q ⟨I, env, s, k, w, q⟩ => by
  have q0 : Post (m env s) (fun x s1 => Post (opt (gTupR gRange1 [x]) s1) (fun d s' => ∀ v I' H', Ext dk l I H I' H' → Wo dk l I' H' s' → Rep X.K I' dk d v → Q v H') (exQ X.K dk l W I H σ)) (exQ X.K dk l W I H σ) := by
    have h := q.bind
    exact (Post.bind (m := m env) h).mono (fun x s1 h => h) fun _ _ _ h => h
  refine ⟨I, env, s, k, w, q0.mono (fun x s1 q v I1 H1 x1 w1 r1 => ?_) fun _ _ _ h => h⟩
  obtain ⟨d, e, q9⟩ := q.opt
  unfold gTupR at e
  cases z : gRange1 [x] with
  | none => rw [z] at e; cases e
  | some es =>
    rw [z] at e
    by_cases hl : es.length ≤ size7
    · have e2 : some (D.tup es) = some d := by rw [← e]; exact (if_pos hl).symm
      cases e2
      obtain ⟨j, ej, z9⟩ := gRange1_inv z
      cases ej
      by_cases hj : small62 j = true
      · rw [if_pos hj] at z9
        cases z9
        exact ⟨j, r1, rg_ok (by decide) hj hl, tup_new w1 (rg_rep 0 j) fun v I' H' x2 w2 r2 => q9 v I' H' (x1.trans x2 w2) w2 r2⟩
      · rw [if_neg hj] at z9; cases z9
    · have e2 : none = some d := by rw [← e]; exact (if_neg hl).symm
      cases e2
theorem r_lstRange1 {a : Expr} {m : En → M D} {p p2 pos2 : Pos} (hc : X.calm = true) (hg : Gl X "list") (hm : X.mg "list" = none) (hg2 : Gl X "range") (hm2 : X.mg "range" = none) (ha : PE X a (lift X.K dk l W m))
    (na : starEach [a] X.env = (false, eval a X.env) :: starEach [] X.env := by rfl) (nb : starEach [Expr.Call (.Name "range" p2) [a] [] pos2] X.env = (false, eval (Expr.Call (.Name "range" p2) [a] [] pos2) X.env) :: starEach [] X.env := by rfl) :
    PE X (.Call (.Name "list" p) [.Call (.Name "range" p2) [a] [] pos2] [] pos) (liftO X.K dk l W (eMapO (gLstR gRange1) (eAcons m eAnil))) := PE_imp (pe_listRg hc hg hm (prg_1 hg2 hm2 ha na) nb) fun σ H Q ⟨I, env, s, k, w, q⟩ => by
  have q0 : Post (m env s) (fun x s1 => Post (opt (gLstR gRange1 [x]) s1) (fun o s' => ∀ p I' H', Ext dk l I H I' H' → Wo dk l I' H' s' → H p = none → OwnAt X.K I' H' dk p o → p ≠ dk → p ≠ l → I' p = none → Q (.ref p) H') (exQ X.K dk l W I H σ)) (exQ X.K dk l W I H σ) := by
    have h := q.bind
    exact (Post.bind (m := m env) h).mono (fun x s1 h => h) fun _ _ _ h => h
  refine ⟨I, env, s, k, w, q0.mono (fun x s1 q v I1 H1 x1 w1 r1 => ?_) fun _ _ _ h => h⟩
  obtain ⟨d, e, q9⟩ := q.opt
  unfold gLstR at e
  cases z : gRange1 [x] with
  | none => rw [z] at e; cases e
  | some es =>
    rw [z] at e
    by_cases hl : es.length ≤ size7
    · have e2 : some (OD.lst es) = some d := by rw [← e]; exact (if_pos hl).symm
      cases e2
      obtain ⟨j, ej, z9⟩ := gRange1_inv z
      cases ej
      by_cases hj : small62 j = true
      · rw [if_pos hj] at z9
        cases z9
        exact ⟨j, r1, rg_ok (by decide) hj hl, own_new w1 (rg_rep 0 j) fun p I' H' x2 w2 hp ho n1 n2 n3 => q9 p I' H' (x1.trans x2 w2) w2 (own_back (I2 := I') (H2 := H') (s1 := s1) x1 hp n1 n2) ho n1 n2 n3⟩
      · rw [if_neg hj] at z9; cases z9
    · have e2 : none = some d := by rw [← e]; exact (if_neg hl).symm
      cases e2
end
end PV

end

section
set_option maxRecDepth 100000
namespace PV
open PySem PySem.Spec PyProof.Rows L2

/-! ### objects of one's own are written -/
section
variable {K : PySem.W.Frag} {dk l : Addr} {I H I0 H0 : Hp} {env : En} {σ : L2.St} {s : Dk}
theorem EnvOk.put {i : Nat} {p : Addr} {o u : OD} {w : HO} (e : EnvOk K dk l I H env σ) (hi : env[i]? = some (.own o)) (hp : σ[i]? = some (some (.ref p))) (n1 : p ≠ dk) (n2 : p ≠ l) (n3 : I p = none) (ho : OwnAt K I (upd H p w) dk p u) : EnvOk K dk l I (upd H p w) (env.set i (.own u)) σ := by
  have hil : i < env.length := (List.getElem?_eq_some_iff.mp hi).1
  refine ⟨by rw [List.length_set]; exact e.len, fun j d h => ?_, fun j u' h => ?_, fun j m u1 u2 q h1 h2 h3 h4 => ?_⟩
  · by_cases hj : i = j
    · subst hj
      rw [List.getElem?_set_self hil] at h; cases h
    · rw [List.getElem?_set_ne hj] at h
      exact e.val j d h
  · by_cases hj : i = j
    · subst hj
      rw [List.getElem?_set_self hil] at h
      cases h
      exact ⟨p, hp, ho, n1, n2, n3⟩
    · rw [List.getElem?_set_ne hj] at h
      obtain ⟨q, a1, a2, a3, a4, a5⟩ := e.own j u' h
      have hq : q ≠ p := fun z => by
        subst z
        exact hj (e.sep i j o u' q hi h hp a1)
      exact ⟨q, a1, a2.move (Sm.refl I) fun w z => by rw [upd_ne hq]; exact z, a3, a4, a5⟩
  · have old : ∀ (j : Nat) (v : OD), (env.set i (.own u))[j]? = some (.own v) → ∃ v', env[j]? = some (.own v') := fun j v h => by
      by_cases hj : i = j
      · subst hj; exact ⟨o, hi⟩
      · rw [List.getElem?_set_ne hj] at h; exact ⟨v, h⟩
    obtain ⟨v1, b1⟩ := old j u1 h1
    obtain ⟨v2, b2⟩ := old m u2 h2
    exact e.sep j m v1 v2 q b1 b2 h3 h4
theorem SOk.put {i : Nat} {p : Addr} {o u : OD} {w : HO} (k : SOk K dk l I0 H0 I H env σ s) (hi : env[i]? = some (.own o)) (hp : σ[i]? = some (some (.ref p))) (n1 : p ≠ dk) (n2 : p ≠ l) (n3 : I p = none) (ho : OwnAt K I (upd H p w) dk p u) : SOk K dk l I0 H0 I (upd H p w) (env.set i (.own u)) σ s := by
  have hil : i < env.length := (List.getElem?_eq_some_iff.mp hi).1
  have hn := k.new i o p hi hp
  refine ⟨k.eok.put hi hp n1 n2 n3 ho, k.wo.off n3 n1 n2, ⟨k.ext.grow, fun a x h m1 m2 => ?_, k.ext.fresh⟩, fun j v q h1 h2 => ?_⟩
  · rw [upd_ne (ne_of_none h hn)]
    exact k.ext.keep a x h m1 m2
  · by_cases hj : i = j
    · subst hj
      exact k.new i o q hi h2
    · rw [List.getElem?_set_ne hj] at h1
      exact k.new j v q h1 h2
end
/-! ### append, extend, stores -/
def ownL (env : En) (i : Nat) : Option (List D) := match env[i]? with
  | some (.own (.lst ds)) => some ds
  | _ => none
theorem ownL_eq {env : En} {i : Nat} {ds : List D} (h : ownL env i = some ds) : env[i]? = some (.own (.lst ds)) := by
  unfold ownL at h
  cases z : env[i]? with
  | none => rw [z] at h; cases h
  | some y =>
    rw [z] at h
    cases y with
    | no => cases h
    | val d => cases h
    | own o => cases o with
      | lst es => cases h; rfl
      | dK _ => cases h
      | dT _ => cases h
def sAppend (i : Nat) (m : En → M D) : En → M Fl := fun env => andThen (opt (ownL env i)) fun ds => andThen (m env) fun d => if ds.length < size7 then ret (.nx (env.set i (.own (.lst (ds ++ [d]))))) else bad
def sExtend (i : Nat) (m : En → M OD) : En → M Fl := fun env => andThen (opt (ownL env i)) fun ds => andThen (m env) fun o => match o with
  | .lst es => if ds.length + es.length ≤ size7 then ret (.nx (env.set i (.own (.lst (ds ++ es))))) else bad
  | _ => bad
def sStore (i : Nat) (mi mv : En → M D) : En → M Fl := fun env => andThen (opt (ownL env i)) fun ds => andThen (mv env) fun d => andThen (mi env) fun x => match x with
  | .int k => match ixN ds.length k with
    | some j => ret (.nx (env.set i (.own (.lst (ds.set j d)))))
    | none => bad
  | _ => bad
/-- x.append(y.pop(e)) -/
def sAppendPop (i j : Nat) (m : En → M D) : En → M Fl := fun env => andThen (opt (ownL env i)) fun ds => andThen (opt (ownL env j)) fun es => andThen (m env) fun x => match x with
  | .int k => match ixN es.length k with
    | some n => match es[n]? with
      | some d => if ds.length < size7 ∧ i ≠ j ∧ es.length ≤ size7 then ret (.nx ((env.set j (.own (.lst (es.eraseIdx n)))).set i (.own (.lst (ds ++ [d]))))) else bad
      | none => bad
    | none => bad
  | _ => bad
theorem RepL.eraseIdx {K : PySem.W.Frag} {I : Hp} {dk : Addr} : ∀ {ds : List D} {vs : List V} (i : Nat), RepL K I dk ds vs → RepL K I dk (ds.eraseIdx i) (vs.eraseIdx i)
  | [], _, i, h => by rw [show _ = [] from h]; rfl
  | d :: ds, _, 0, h => by
    obtain ⟨v, r, rfl, e2, e3⟩ := h
    exact e3
  | d :: ds, _, i + 1, h => by
    obtain ⟨v, r, rfl, e2, e3⟩ := h
    exact ⟨v, _, rfl, e2, RepL.eraseIdx i e3⟩
section
variable {X : Cx} {dk l : Addr} {W : WX} {pos : Pos} {I0 H0 : Hp} {o e : Expr} {apos cpos : Pos} {i : Nat}
theorem p_append {m : En → M D} (ho : PE X o (tVar i)) (he : PE X e (lift X.K dk l W m))
    (hbase : attributeBase o "append" X.env (eval o X.env) = eval o X.env := by rfl)
    (hfew : ((backTo cpos (starEach [e] X.env)).all (fun x => !x.1) && (backToKw cpos (keywordEach [] X.env)).all (fun x => x.1.isSome)
      && decide ([e].length + ([] : List Keyword).length + (if ([] : List Keyword).isEmpty then 0 else 1) < 30)) = true := by rfl)
    (hline : (apos.endLine == cpos.line) = true := by rfl) (hs : starEach [e] X.env = (false, eval e X.env) :: starEach [] X.env := by rfl) (hplain : (backTo cpos (starEach [] X.env)).any (·.1) = false := by rfl)
    (hsw : swapsWith (.Call (.Attribute o "append" apos) [e] [] cpos) none pos.line X.env = pure false := by rfl) :
    PS X (.Expr (.Call (.Attribute o "append" apos) [e] [] cpos) pos) (liftS X.K dk l W I0 H0 (sAppend i m)) := PS_imp (ps_expr (pe_bm PySem.F.plainAttrs_list PySem.F.slot_list_append PySem.F.type_list_append mt_append ho (pa_cons he pa_nil hs) hbase hfew hline hs hplain) hsw) fun D σ H ⟨I, env, s, k, q⟩ => by
  obtain ⟨ds, hd, q⟩ := q.bind.opt
  have hd := ownL_eq hd
  obtain ⟨p, h1, ⟨vs, h2, h3⟩, n1, n2, n3⟩ := k.eok.own i _ hd
  refine ⟨.ref p, h1, .inl ⟨rfl, vs, .of h2⟩, I, env, s, k.eok, k.wo, q.bind.mono (fun d s1 q v I1 H1 x1 w1 r1 => ?_) fun _ _ _ h => k.exq h⟩
  by_cases hz : ds.length < size7
  · simp only [hz, if_true] at q
    have k1 := k.grow x1 w1
    obtain ⟨p', g1, ⟨ws, g2, g3⟩, m1, m2, m3⟩ := k1.eok.own i _ hd
    rw [h1] at g1
    cases g1
    refine ⟨p, ws, v, rfl, rfl, g2, by rw [← g3.length]; exact Nat.lt_of_lt_of_le hz (by decide), ?_⟩
    exact q σ I1 _ x1.grow (k1.put hd h1 m1 m2 m3 ⟨_, upd_same, g3.append (RepL.one r1)⟩)
  · simp only [hz, if_false] at q
    exact q.elim
theorem p_extend {m : En → M OD} (ho : PE X o (tVar i)) (he : PE X e (liftO X.K dk l W m))
    (hbase : attributeBase o "extend" X.env (eval o X.env) = eval o X.env := by rfl)
    (hfew : ((backTo cpos (starEach [e] X.env)).all (fun x => !x.1) && (backToKw cpos (keywordEach [] X.env)).all (fun x => x.1.isSome)
      && decide ([e].length + ([] : List Keyword).length + (if ([] : List Keyword).isEmpty then 0 else 1) < 30)) = true := by rfl)
    (hline : (apos.endLine == cpos.line) = true := by rfl) (hs : starEach [e] X.env = (false, eval e X.env) :: starEach [] X.env := by rfl) (hplain : (backTo cpos (starEach [] X.env)).any (·.1) = false := by rfl)
    (hsw : swapsWith (.Call (.Attribute o "extend" apos) [e] [] cpos) none pos.line X.env = pure false := by rfl) :
    PS X (.Expr (.Call (.Attribute o "extend" apos) [e] [] cpos) pos) (liftS X.K dk l W I0 H0 (sExtend i m)) := PS_imp (ps_expr (pe_bm PySem.F.plainAttrs_list PySem.F.slot_list_extend PySem.F.type_list_extend mt_extend ho (pa_cons he pa_nil hs) hbase hfew hline hs hplain) hsw) fun D σ H ⟨I, env, s, k, q⟩ => by
  obtain ⟨ds, hd, q⟩ := q.bind.opt
  have hd := ownL_eq hd
  obtain ⟨p, h1, ⟨vs, h2, h3⟩, n1, n2, n3⟩ := k.eok.own i _ hd
  refine ⟨.ref p, h1, .inl ⟨rfl, vs, .of h2⟩, I, env, s, k.eok, k.wo, q.bind.mono (fun o s1 q b I1 H1 x1 w1 hb hob b1 b2 b3 => ?_) fun _ _ _ h => k.exq h⟩
  cases o with
  | lst es =>
    by_cases hz : ds.length + es.length ≤ size7
    · simp only [hz, if_true] at q
      have k1 := k.grow x1 w1
      obtain ⟨p', g1, ⟨ws, g2, g3⟩, m1, m2, m3⟩ := k1.eok.own i _ hd
      rw [h1] at g1
      cases g1
      obtain ⟨us, f1, f2⟩ := hob
      refine ⟨p, b, ws, us, rfl, rfl, g2, f1, by rw [← g3.length, ← f2.length]; exact Nat.le_trans hz (by decide), ?_⟩
      exact q σ I1 _ x1.grow (k1.put hd h1 m1 m2 m3 ⟨_, upd_same, g3.append f2⟩)
    · simp only [hz, if_false] at q
      exact q.elim
  | dK _ => exact q.elim
  | dT _ => exact q.elim
theorem p_store {ie : Expr} {spos : Pos} {mi mv : En → M D} (ho : PE X o (tVar i)) (hi : PE X ie (lift X.K dk l W mi)) (he : PE X e (lift X.K dk l W mv))
    (hg : PG X (.Subscript o ie spos) (gSub (tVar i) (lift X.K dk l W mi) rSetL)) (hs : swapsWithSole [.Subscript o ie spos] e pos.line X.env = pure false := by rfl) (hw : swappedStores [.Subscript o ie spos] e X.env = pure none := by rfl)
    (h1 : (assignEach [.Subscript o ie spos] X.env).map (·.2) = [assign (.Subscript o ie spos) X.env] := by rfl) :
    PS X (.Assign [.Subscript o ie spos] e pos) (liftS X.K dk l W I0 H0 (sStore i mi mv)) := PS_imp (ps_asg he hg hs hw h1) fun D σ H ⟨I, env, s, k, q⟩ => by
  obtain ⟨ds, hd, q⟩ := q.bind.opt
  have hd := ownL_eq hd
  refine ⟨I, env, s, k.eok, k.wo, q.bind.mono (fun d s1 q v I1 H1 x1 w1 r1 => ?_) fun _ _ _ h => k.exq h⟩
  have k1 := k.grow x1 w1
  obtain ⟨p, g1, ⟨ws, g2, g3⟩, m1, m2, m3⟩ := k1.eok.own i _ hd
  refine ⟨.ref p, g1, I1, env, s1, k1.eok, w1, q.bind.mono (fun x s2 q u I2 H2 x2 w2 r2 => ?_) fun _ _ _ h => k1.exq h⟩
  have k2 := k1.grow x2 w2
  cases x with
  | int j =>
    simp only at q
    cases hz : ixN ds.length j with
    | none => rw [hz] at q; exact q.elim
    | some n =>
      rw [hz] at q
      obtain ⟨p', g1', ⟨us, f1, f2⟩, c1, c2, c3⟩ := k2.eok.own i _ hd
      rw [g1] at g1'
      cases g1'
      refine ⟨p, us, j, n, rfl, r2, f1, by rw [← f2.length]; exact hz, ?_⟩
      exact q σ I2 _ (x1.grow.trans x2.grow) (k2.put hd g1 c1 c2 c3 ⟨_, upd_same, f2.set n (Rep.mono x2.grow _ _ r1)⟩)
  | _ => exact q.elim
end
end PV

end

section
set_option maxRecDepth 100000
namespace PV
open PySem PySem.Spec PyProof.Rows L2
section
variable {X : Cx} {dk l : Addr} {W : WX} {pos : Pos} {I0 H0 : Hp} {o e : Expr} {apos cpos : Pos} {i : Nat}
/-! ### x.append(y.pop(e)) -/
theorem p_appendPop {o2 : Expr} {j : Nat} {apos2 cpos2 : Pos} {m : En → M D} (ho : PE X o (tVar i)) (ho2 : PE X o2 (tVar j)) (he : PE X e (lift X.K dk l W m))
    (hbase : attributeBase o "append" X.env (eval o X.env) = eval o X.env := by rfl)
    (hfew : ((backTo cpos (starEach [Expr.Call (.Attribute o2 "pop" apos2) [e] [] cpos2] X.env)).all (fun x => !x.1) && (backToKw cpos (keywordEach [] X.env)).all (fun x => x.1.isSome)
      && decide ([Expr.Call (.Attribute o2 "pop" apos2) [e] [] cpos2].length + ([] : List Keyword).length + (if ([] : List Keyword).isEmpty then 0 else 1) < 30)) = true := by rfl)
    (hline : (apos.endLine == cpos.line) = true := by rfl) (hs : starEach [Expr.Call (.Attribute o2 "pop" apos2) [e] [] cpos2] X.env = (false, eval (Expr.Call (.Attribute o2 "pop" apos2) [e] [] cpos2) X.env) :: starEach [] X.env := by rfl) (hplain : (backTo cpos (starEach [] X.env)).any (·.1) = false := by rfl)
    (hbase2 : attributeBase o2 "pop" X.env (eval o2 X.env) = eval o2 X.env := by rfl)
    (hfew2 : ((backTo cpos2 (starEach [e] X.env)).all (fun x => !x.1) && (backToKw cpos2 (keywordEach [] X.env)).all (fun x => x.1.isSome)
      && decide ([e].length + ([] : List Keyword).length + (if ([] : List Keyword).isEmpty then 0 else 1) < 30)) = true := by rfl)
    (hline2 : (apos2.endLine == cpos2.line) = true := by rfl) (hs2 : starEach [e] X.env = (false, eval e X.env) :: starEach [] X.env := by rfl) (hplain2 : (backTo cpos2 (starEach [] X.env)).any (·.1) = false := by rfl)
    (hsw : swapsWith (.Call (.Attribute o "append" apos) [.Call (.Attribute o2 "pop" apos2) [e] [] cpos2] [] cpos) none pos.line X.env = pure false := by rfl) :
    PS X (.Expr (.Call (.Attribute o "append" apos) [.Call (.Attribute o2 "pop" apos2) [e] [] cpos2] [] cpos) pos) (liftS X.K dk l W I0 H0 (sAppendPop i j m)) :=
  PS_imp (ps_expr (pe_bm PySem.F.plainAttrs_list PySem.F.slot_list_append PySem.F.type_list_append mt_append ho (pa_cons (pe_bm PySem.F.plainAttrs_list PySem.F.slot_list_pop PySem.F.type_list_pop mt_popAt ho2 (pa_cons he pa_nil hs2) hbase2 hfew2 hline2 hs2 hplain2) pa_nil hs) hbase hfew hline hs hplain) hsw) fun D σ H ⟨I, env, s, k, q⟩ => by
  obtain ⟨ds, hd, q⟩ := q.bind.opt
  obtain ⟨es, hd2, q⟩ := q.bind.opt
  have hd := ownL_eq hd
  have hd2 := ownL_eq hd2
  obtain ⟨p, h1, ⟨vs, h2, h3⟩, n1, n2, n3⟩ := k.eok.own i _ hd
  obtain ⟨p2, h12, ⟨vs2, h22, h32⟩, n12, n22, n32⟩ := k.eok.own j _ hd2
  refine ⟨.ref p, h1, .inl ⟨rfl, vs, .of h2⟩, .ref p2, h12, .inl ⟨rfl, vs2, .of h22⟩, I, env, s, k.eok, k.wo, q.bind.mono (fun x s1 q v I1 H1 x1 w1 r1 => ?_) fun _ _ _ h => k.exq h⟩
  cases x with
  | int z =>
    simp only at q
    cases hz : ixN es.length z with
    | none => rw [hz] at q; exact q.elim
    | some n =>
      rw [hz] at q
      simp only at q
      cases hg : es[n]? with
      | none => rw [hg] at q; exact q.elim
      | some d =>
        rw [hg] at q
        simp only at q
        by_cases hc : ds.length < size7 ∧ i ≠ j ∧ es.length ≤ size7
        · rw [if_pos hc] at q
          have k1 := k.grow x1 w1
          obtain ⟨p', g1, ⟨ws, g2, g3⟩, m1, m2, m3⟩ := k1.eok.own i _ hd
          rw [h1] at g1
          cases g1
          obtain ⟨p2', g12, ⟨ws2, g22, g32⟩, m12, m22, m32⟩ := k1.eok.own j _ hd2
          rw [h12] at g12
          cases g12
          obtain ⟨y, hy, ry⟩ := g32.get hg
          obtain ⟨b1, b2, b3, b4⟩ := ixN_seq (n := es.length) hz
          have hzl : ws2.length = es.length := g32.length.symm
          have k2 := k1.put (w := .lst (ws2.eraseIdx n)) hd2 h12 m12 m22 m32 (u := .lst (es.eraseIdx n)) ⟨_, upd_same, g32.eraseIdx n⟩
          have hd' : (env.set j (.own (.lst (es.eraseIdx n))))[i]? = some (.own (.lst ds)) := by rw [List.getElem?_set_ne (Ne.symm hc.2.1)]; exact hd
          obtain ⟨p', g1', ⟨ws', g2', g3'⟩, m1', m2', m3'⟩ := k2.eok.own i _ hd'
          rw [h1] at g1'
          cases g1'
          have hpp : p ≠ p2 := fun z => by
            subst z
            exact hc.2.1 (k.eok.sep i j _ _ p hd hd2 h1 h12)
          have gp : upd H1 p2 (.lst (ws2.eraseIdx n)) p = some (.lst ws) := by rw [upd_ne hpp]; exact g2
          have e5 : ws = ws' := by
            rw [gp] at g2'
            cases g2'
            rfl
          subst e5
          refine ⟨p2, ws2, z, n, y, rfl, by rw [show v = _ from r1], g22, ?_, ?_, ?_, hy, ?_⟩
          · have : size7 = 10000000 := rfl
            omega
          · have : size7 = 10000000 := rfl
            omega
          · rw [hzl]; exact b1
          · refine ⟨p, ws, y, rfl, rfl, gp, by rw [← g3.length]; exact Nat.lt_of_lt_of_le hc.1 (by decide), ?_⟩
            exact q σ I1 _ x1.grow (k2.put hd' h1 m1' m2' m3' ⟨_, upd_same, g3'.append (RepL.one ry)⟩)
        · rw [if_neg hc] at q; exact q.elim
  | _ => exact q.elim

/-! ### a, b = e1, e2: values and objects of one's own -/
inductive It2 where
  | val (d : PV.D) | own (o : OD)
def Rep2 (K : PySem.W.Frag) (dk l : Addr) (I H : Hp) : List It2 → List V → Prop
  | [], vs => vs = []
  | .val d :: r, vs => ∃ v ws, vs = v :: ws ∧ Rep K I dk d v ∧ Rep2 K dk l I H r ws
  | .own o :: r, vs => ∃ p ws, vs = .ref p :: ws ∧ OwnAt K I H dk p o ∧ p ≠ dk ∧ p ≠ l ∧ I p = none ∧ V.ref p ∉ ws ∧ Rep2 K dk l I H r ws
def New2 (H : Hp) : List It2 → List V → Prop
  | .own _ :: r, .ref p :: ws => H p = none ∧ New2 H r ws
  | .val _ :: r, _ :: ws => New2 H r ws
  | _, _ => True
def lift2 (K : PySem.W.Frag) (dk l : Addr) (W : WX) (m : En → M (List It2)) : TA := fun σ H Q => ∃ I env s, EnvOk K dk l I H env σ ∧ Wo dk l I H s ∧ Post (m env s) (fun xs s' => ∀ vs I' H', Ext dk l I H I' H' → Wo dk l I' H' s' → Rep2 K dk l I' H' xs vs → New2 H xs vs → Q vs H') (exQ K dk l W I H σ)
def e2nil : En → M (List It2) := fun _ => ret []
def e2val (m : En → M PV.D) (r : En → M (List It2)) : En → M (List It2) := fun env => andThen (m env) fun d => andThen (r env) fun xs => ret (.val d :: xs)
def e2own (m : En → M OD) (r : En → M (List It2)) : En → M (List It2) := fun env => andThen (m env) fun o => andThen (r env) fun xs => ret (.own o :: xs)
theorem r_2nil : PA X [] (lift2 X.K dk l W e2nil) := PA_imp pa_nil fun σ H Q ⟨I, env, s, e, w, q⟩ => q [] I H Ext.refl w rfl trivial
theorem New2.back {I H I1 H1 : Hp} (x : Ext dk l I H I1 H1) {K : PySem.W.Frag} {I2 H2 : Hp} : ∀ {xs : List It2} {vs : List V}, Rep2 K dk l I2 H2 xs vs → New2 H1 xs vs → New2 H xs vs
  | [], vs, _, _ => by cases vs <;> trivial
  | .val d :: r, _, ⟨v, ws, rfl, _, h2⟩, n => by
    show New2 H r ws
    exact New2.back x h2 (show New2 H1 r ws from n)
  | .own o :: r, _, ⟨p, ws, rfl, h1, n1, n2, h3, h4, h5⟩, n => by
    refine ⟨?_, New2.back x h5 n.2⟩
    cases z : H p with
    | none => rfl
    | some u => have := x.keep p u z n1 n2; rw [n.1] at this; cases this
theorem r_2val {a : Expr} {es : List Expr} {m : En → M PV.D} {r : En → M (List It2)} (h : PE X a (lift X.K dk l W m)) (h2 : PA X es (lift2 X.K dk l W r)) (hs : starEach (a :: es) X.env = (false, eval a X.env) :: starEach es X.env := by rfl) : PA X (a :: es) (lift2 X.K dk l W (e2val m r)) := PA_imp (pa_cons h h2 hs) fun σ H Q ⟨I, env, s, e, w, q⟩ => by
  refine ⟨I, env, s, e, w, q.bind.mono (fun d s1 q v I1 H1 x1 w1 r1 => ?_) fun _ _ _ h => h⟩
  refine ⟨I1, env, s1, e.ext x1, w1, q.bind.mono (fun ds s2 q vs I2 H2 x2 w2 r2 n2 => ?_) fun _ _ _ h => h.shift x1⟩
  exact q (v :: vs) I2 H2 (x1.trans x2 w2) w2 ⟨v, vs, rfl, Rep.mono x2.grow d v r1, r2⟩ (show New2 H ds vs from New2.back x1 r2 n2)
theorem New2.mem {K : PySem.W.Frag} {H1 I2 H2 : Hp} : ∀ {xs : List It2} {vs : List V} {p : Addr} {u : HO}, Rep2 K dk l I2 H2 xs vs → New2 H1 xs vs → H1 p = some u → I2 p = none → p ≠ dk → V.ref p ∉ vs
  | [], _, p, u, h, _, _, _, _, z => by rw [show _ = [] from h] at z; cases z
  | .val d :: r, _, p, u, ⟨v, ws, e, h1, h2⟩, n, hu, hi, hk, z => by
    subst e
    rcases List.mem_cons.mp z with z | z
    · subst z
      cases d with
      | tup ds => obtain ⟨a, vs, e1, e2, _⟩ := h1; cases e1; rw [hi] at e2; cases e2
      | lst ds => obtain ⟨a, vs, e1, e2, _⟩ := h1; cases e1; rw [hi] at e2; cases e2
      | dK ds => obtain ⟨a, vs, e1, e2, _⟩ := h1; cases e1; rw [hi] at e2; cases e2
      | dT ds => obtain ⟨a, vs, e1, e2, _⟩ := h1; cases e1; rw [hi] at e2; cases e2
      | deck => exact hk (by injection h1)
      | fK ds => obtain ⟨a, vs, o, e1, e2, _⟩ := h1; cases e1; rw [hi] at e2; cases e2
      | exc c d => obtain ⟨a, C, dx, w, e1, _, e3, _⟩ := h1; cases e1; rw [hi] at e3; cases e3
      | _ => cases h1
    · exact New2.mem h2 n hu hi hk z
  | .own o :: r, _, p, u, ⟨q, ws, e, h1, n1, n2, h3, h4, h5⟩, n, hu, hi, hk, z => by
    subst e
    rcases List.mem_cons.mp z with z | z
    · cases z
      rw [n.1] at hu; cases hu
    · exact New2.mem h5 n.2 hu hi hk z
theorem r_2own {a : Expr} {es : List Expr} {m : En → M OD} {r : En → M (List It2)} (h : PE X a (liftO X.K dk l W m)) (h2 : PA X es (lift2 X.K dk l W r)) (hs : starEach (a :: es) X.env = (false, eval a X.env) :: starEach es X.env := by rfl) : PA X (a :: es) (lift2 X.K dk l W (e2own m r)) := PA_imp (pa_cons h h2 hs) fun σ H Q ⟨I, env, s, e, w, q⟩ => by
  refine ⟨I, env, s, e, w, q.bind.mono (fun o s1 q p I1 H1 x1 w1 hp ho b1 b2 b3 => ?_) fun _ _ _ h => h⟩
  refine ⟨I1, env, s1, e.ext x1, w1, q.bind.mono (fun ds s2 q vs I2 H2 x2 w2 r2 n2 => ?_) fun _ _ _ h => h.shift x1⟩
  obtain ⟨u, hu⟩ := ho.ho
  have hi2 : I2 p = none := by
    cases z : I2 p with
    | none => rfl
    | some y => exact (ho.noT (x2.fresh p y z b3)).elim
  exact q (.ref p :: vs) I2 H2 (x1.trans x2 w2) w2 ⟨p, vs, rfl, ho.move x2.grow fun w z => x2.keep p w z b1 b2, b1, b2, hi2, New2.mem r2 n2 hu hi2 b1, r2⟩ ⟨hp, New2.back x1 r2 n2⟩
/-- the names take what is told -/
def bind2 : List Nat → List It2 → En → Option En
  | [], [], env => some env
  | i :: is, .val d :: r, env => bind2 is r (env.set i (.val d))
  | i :: is, .own o :: r, env => bind2 is r (env.set i (.own o))
  | _, _, _ => none
def gNms (K : PySem.W.Frag) : List Nat → TGs
  | [] => gNil
  | i :: is => gCons (gName i) (gNms K is)
def sAsg2 (is : List Nat) (m : En → M (List It2)) : En → M Fl := fun env => andThen (m env) fun xs => if xs.length ≤ 1000 then andThen (opt (bind2 is xs env)) fun e => ret (.nx e) else bad
theorem bind2_len : ∀ {is : List Nat} {xs : List It2} {env env' : En}, bind2 is xs env = some env' → is.length = xs.length
  | [], [], _, _, _ => rfl
  | i :: is, .val d :: r, _, _, h => by simp only [bind2] at h; simp [bind2_len h]
  | i :: is, .own d :: r, _, _, h => by simp only [bind2] at h; simp [bind2_len h]
  | [], _ :: _, _, _, h => by simp [bind2] at h
  | _ :: _, [], _, _, h => by simp [bind2] at h
theorem Rep2.len {K : PySem.W.Frag} {I H : Hp} : ∀ {xs : List It2} {vs : List V}, Rep2 K dk l I H xs vs → xs.length = vs.length
  | [], _, h => by rw [show _ = [] from h]; rfl
  | .val d :: r, _, ⟨v, ws, e, h1, h2⟩ => by subst e; simp [Rep2.len h2]
  | .own d :: r, _, ⟨p, ws, e, _, _, _, _, _, h2⟩ => by subst e; simp [Rep2.len h2]
theorem Rep2.off {K : PySem.W.Frag} {I H : Hp} {T : Addr} {u : HO} (hT : H T = none) : ∀ {xs : List It2} {vs : List V}, Rep2 K dk l I H xs vs → Rep2 K dk l I (upd H T u) xs vs
  | [], _, h => h
  | .val d :: r, _, ⟨v, ws, e, h1, h2⟩ => ⟨v, ws, e, h1, Rep2.off hT h2⟩
  | .own o :: r, _, ⟨p, ws, e, h1, n1, n2, n3, n4, h2⟩ => ⟨p, ws, e, h1.move (Sm.refl I) fun w z => by rw [upd_ne (ne_of_none z hT)]; exact z, n1, n2, n3, n4, Rep2.off hT h2⟩
theorem bind2_ok {I H : Hp} {s : Dk} : ∀ (is : List Nat) (xs : List It2) (vs : List V) (env env' : En) (σ : L2.St) (Q : L2.St → Hp → Prop), SOk X.K dk l I0 H0 I H env σ s → Rep2 X.K dk l I H xs vs → New2 H0 xs vs → bind2 is xs env = some env' →
    (∀ p, V.ref p ∈ vs → I p = none → ∀ (j : Nat) (u : OD), env[j]? = some (.own u) → σ[j]? ≠ some (some (.ref p))) → (∀ σ', SOk X.K dk l I0 H0 I H env' σ' s → Q σ' H) → gNms X.K is vs σ H Q
  | [], xs, vs, env, env', σ, Q, k, r, n, b, ap, q => by
    cases xs with
    | nil =>
      simp only [bind2] at b
      cases b
      exact ⟨r, q σ k⟩
    | cons _ _ => simp [bind2] at b
  | i :: is, [], vs, env, env', σ, Q, k, r, n, b, ap, q => by simp [bind2] at b
  | i :: is, .val d :: xs, _, env, env', σ, Q, k, ⟨v, ws, e, h1, h2⟩, n, b, ap, q => by
    subst e
    simp only [bind2] at b
    refine ⟨v, ws, rfl, ?_⟩
    have c := Chg.one (i := i) (d := d) (v := v) k.eok.len
    refine bind2_ok is xs ws _ env' _ Q (k.chg (k.eok.set h1) c) h2 n b (fun p hp hi j u h3 => ?_) q
    obtain ⟨h4, h5⟩ := c.own j u h3
    rw [c.out j h5]
    exact ap p (List.mem_cons_of_mem _ hp) hi j u h4
  | i :: is, .own o :: xs, _, env, env', σ, Q, k, ⟨p, ws, e, h1, n1, n2, n3, n4, h2⟩, n, b, ap, q => by
    subst e
    simp only [bind2] at b
    refine ⟨.ref p, ws, rfl, ?_⟩
    have ke := k.eok.setOwn (i := i) h1 n1 n2 n3 (fun _ _ _ h => h) fun j u _ h => ap p List.mem_cons_self n3 j u h
    refine bind2_ok is xs ws _ env' _ Q ⟨ke, k.wo, k.ext, fun j u q' h3 h4 => ?_⟩ h2 n.2 b (fun p' hp hi j u h3 => ?_) q
    · by_cases hj : i = j
      · subst hj
        by_cases hl : i < σ.length
        · rw [List.getElem?_set_self hl] at h4
          injection h4 with z
          injection z with z
          injection z with z
          subst z
          exact n.1
        · rw [List.getElem?_eq_none (by rw [List.length_set]; omega)] at h4; cases h4
      · rw [List.getElem?_set_ne hj] at h3 h4
        exact k.new j u q' h3 h4
    · by_cases hj : i = j
      · subst hj
        intro h4
        by_cases hl : i < σ.length
        · rw [List.getElem?_set_self hl] at h4
          injection h4 with z
          injection z with z
          injection z with z
          subst z
          exact n4 hp
        · rw [List.getElem?_eq_none (by rw [List.length_set]; omega)] at h4; cases h4
      · rw [List.getElem?_set_ne hj] at h3 ⊢
        exact ap p' (List.mem_cons_of_mem _ hp) hi j u h3
theorem New2.ap {I H I1 H1 : Hp} {env : En} {σ : L2.St} (k : EnvOk X.K dk l I H env σ) : ∀ {xs : List It2} {vs : List V}, Rep2 X.K dk l I1 H1 xs vs → New2 H xs vs → ∀ p, V.ref p ∈ vs → I1 p = none → p ≠ dk → ∀ (j : Nat) (u : OD), env[j]? = some (.own u) → σ[j]? ≠ some (some (.ref p)) := fun r n p hp hi hk j u h z => by
  obtain ⟨p', h1, h2, _⟩ := k.own j u h
  rw [z] at h1
  cases h1
  obtain ⟨w, hw⟩ := h2.ho
  exact New2.mem r n hw hi hk hp
theorem New2.old {H H0 : Hp} {I : Hp} {K : PySem.W.Frag} {I1 H1 : Hp} (x : Ext dk l I H0 I1 H) {I2 H2 : Hp} {xs : List It2} {vs : List V} (r : Rep2 K dk l I2 H2 xs vs) (n : New2 H xs vs) : New2 H0 xs vs := New2.back x r n
/-- names = (e1, ..) -/
theorem p_asg2 {ts es : List Expr} {x1 x2 : Nat} {pt pv : Pos} {is : List Nat} {m : En → M (List It2)} (h : PA X es (lift2 X.K dk l W m)) (hg : PG X (.Tuple ts x1 pt) (gTup X.K is.length (gNms X.K is))) (hs : swapsWithSole [.Tuple ts x1 pt] (.Tuple es x2 pv) pos.line X.env = pure false := by rfl) (hw : swappedStores [.Tuple ts x1 pt] (.Tuple es x2 pv) X.env = pure none := by rfl)
    (h1 : (assignEach [.Tuple ts x1 pt] X.env).map (·.2) = [assign (.Tuple ts x1 pt) X.env] := by rfl) : PS X (.Assign [.Tuple ts x1 pt] (.Tuple es x2 pv) pos) (liftS X.K dk l W I0 H0 (sAsg2 is m)) := PS_imp (ps_asg (pe_tup h) hg hs hw h1) fun D σ H ⟨I, env, s, k, q⟩ => by
  refine ⟨I, env, s, k.eok, k.wo, q.bind.mono (fun xs s1 q vs I1 H1 x1 w1 r1 nw => ?_) fun _ _ _ h => k.exq h⟩
  by_cases hl : xs.length ≤ 1000
  · simp only [hl, if_true] at q
    obtain ⟨e2, e3, q⟩ := q.bind.opt
    refine ⟨by rw [← r1.len]; exact Nat.le_trans hl (by decide), fun T hT => ?_⟩
    have t1 : T ≠ dk := (ne_of_none w1.dko hT).symm
    have t2 : T ≠ l := (ne_of_none w1.lft hT).symm
    have t3 : I1 T = none := w1.sub.none hT
    have xT := Ext.off (o := .tup vs) w1 hT
    have wT := w1.off (o := .tup vs) t3 t1 t2
    have kT := (k.grow x1 w1).grow xT wT
    refine ⟨T, vs, rfl, SqT.of upd_same, by rw [← r1.len]; exact (bind2_len e3).symm, ?_⟩
    refine bind2_ok is xs vs env e2 σ _ kT (Rep2.off hT r1) (New2.back k.ext r1 nw) e3 (fun p hp hi j u h => ?_) fun σ' k' => q σ' I1 _ x1.grow k'
    by_cases hk : p = dk
    · intro z
      obtain ⟨p', g1, g2, g3, _⟩ := k.eok.own j u h
      rw [z] at g1
      cases g1
      exact g3 hk
    · exact New2.ap k.eok r1 nw p hp hi hk j u h
  · simp only [hl, if_false] at q
    exact q.elim
end
end PV

end

section
set_option maxRecDepth 100000
namespace PV
open PySem PySem.Spec PyProof.Rows L2
section
variable {X : Cx} {dk l : Addr} {W : WX} {pos : Pos} {I0 H0 : Hp}
/-! ### while -/
theorem p_while {c : Expr} {body : List Stmt} {t : En → M Bool} {b : En → M Fl} (n : Nat) (hp : PassesOwn (model X.prog X.w) X.A X.env X.xe) (hc : PT X c (liftT X.K dk l W t)) (hb : PSs X body (liftS X.K dk l W I0 H0 b)) : PS X (.While c body [] pos) (liftS X.K dk l W I0 H0 (sWhile n t b)) := PS_imp (ps_while hp hc hb) fun D σ H ⟨I, env, s, k, q⟩ => by
  refine ⟨fun m σ H => ∃ I' env s, SOk X.K dk l I0 H0 I' H env σ s ∧ Sm I I' ∧ Post (whileM t b m env s) (flP X.K dk l I0 H0 I' D) (exS X.K dk l W I0 H0), ⟨n, I, env, s, k, Sm.refl I, q⟩, ?_⟩
  rintro m σ2 H2 ⟨I2, env2, s2, k2, g2, q2⟩
  cases m with
  | zero => exact q2.elim
  | succ m =>
    refine ⟨I2, env2, s2, k2.eok, k2.wo, q2.bind.mono (fun c s3 q3 I3 H3 x3 w3 => ?_) fun _ _ _ h => k2.exq h⟩
    cases c with
    | true =>
      rw [if_pos rfl]
      refine ⟨fun σ' H' => ∃ I' env s, SOk X.K dk l I0 H0 I' H' env σ' s ∧ Sm I I' ∧ Post (whileM t b m env s) (flP X.K dk l I0 H0 I' D) (exS X.K dk l W I0 H0), fun σ' H' h => ⟨m, Nat.lt_succ_self m, h⟩, I3, env2, s3, k2.grow x3 w3, ?_⟩
      refine (show Post (andThen (b env2) _ s3) _ _ from q3).bind.mono (fun f s4 q4 => ?_) fun _ _ _ h => h
      cases f with
      | nx e => exact fun σ' I' H' g' k' => ⟨I', e, s4, k', (g2.trans x3.grow).trans g', q4.mono (fun _ _ h => h.shift (x3.grow.trans g')) fun _ _ _ h => h⟩
      | ct e => exact fun σ' I' H' g' k' => ⟨I', e, s4, k', (g2.trans x3.grow).trans g', q4.mono (fun _ _ h => h.shift (x3.grow.trans g')) fun _ _ _ h => h⟩
      | bk e => exact fun σ' I' H' g' k' => q4 σ' I' H' (x3.grow.trans g') k'
      | rt d => exact q4
    | false =>
      rw [if_neg Bool.false_ne_true]
      exact (show Post (ret (Fl.nx env2) s3) _ _ from q3) σ2 I3 H3 x3.grow (k2.grow x3 w3)
/-! ### what is one's own, lent -/
def tBor (is : List Nat) (t : En → M Bool) : En → M Bool := fun env => noX (t (frzAll is env))
def flatD : PV.D → Bool
  | .non => true
  | .bl _ => true
  | .int _ => true
  | .str _ => true
  | _ => false
def eBor (is : List Nat) (m : En → M PV.D) : En → M PV.D := fun env => andThen (noX (m (frzAll is env))) fun d => if flatD d = true then ret d else bad
theorem lend {I H : Hp} {env : En} {σ : L2.St} {s : Dk} (is : List Nat) (e : EnvOk X.K dk l I H env σ) (w : Wo dk l I H s) : ∃ I1, EnvOk X.K dk l I1 H (frzAll is env) σ ∧ Wo dk l I1 H s ∧ Sm I I1 := by
  have k : SOk X.K dk l (fun _ => none) (fun _ => none) I H env σ s := ⟨e, w, ⟨fun _ _ h => (by cases h), fun _ _ h => (by cases h), fun _ _ _ _ => .inl rfl⟩, fun _ _ _ _ _ => rfl⟩
  obtain ⟨I1, k1, g⟩ := frzAll_ok is k
  exact ⟨I1, k1.eok, k1.wo, g⟩
theorem lend_back {I I1 H I2 H2 : Hp} {s s2 : Dk} (w : Wo dk l I H s) (x : Ext dk l I1 H I2 H2) (w2 : Wo dk l I2 H2 s2) : Ext dk l I H I H2 ∧ Wo dk l I H2 s2 :=
  ⟨⟨Sm.refl I, x.keep, fun a o h n => by rw [h] at n; cases n⟩, ⟨fun a o h => x.keep a o (w.sub a o h) (fun z => by rw [z, w.idk] at h; cases h) (fun z => by rw [z, w.il] at h; cases h), w2.dko, w2.lft, w.idk, w.il⟩⟩
theorem r_tbor {c : Expr} {t : En → M Bool} (is : List Nat) (h : PT X c (liftT X.K dk l W t)) : PT X c (liftT X.K dk l W (tBor is t)) := PT_imp h fun σ H Q ⟨I, env, s, e, w, q⟩ => by
  obtain ⟨I1, e1, w1, g⟩ := lend is e w
  refine ⟨I1, _, s, e1, w1, noX_post (Post.mono (show Post (noX (t (frzAll is env)) s) _ _ from q) (fun b s2 q I2 H2 x2 w2 => ?_) fun _ _ _ h => h)⟩
  obtain ⟨x3, w3⟩ := lend_back w x2 w2
  exact q I H2 x3 w3
theorem r_ebor {c : Expr} {m : En → M PV.D} (is : List Nat) (h : PE X c (lift X.K dk l W m)) : PE X c (lift X.K dk l W (eBor is m)) := PE_imp h fun σ H Q ⟨I, env, s, e, w, q⟩ => by
  obtain ⟨I1, e1, w1, g⟩ := lend is e w
  refine ⟨I1, _, s, e1, w1, noX_post (q.bind.mono (fun d s2 q v I2 H2 x2 w2 r => ?_) fun _ _ _ h => h)⟩
  obtain ⟨x3, w3⟩ := lend_back w x2 w2
  by_cases hf : flatD d = true
  · rw [if_pos hf] at q
    refine q v I H2 x3 w3 ?_
    cases d <;> first | exact r | cases hf
  · rw [if_neg hf] at q; exact q.elim
def eOwnLen (i : Nat) : En → M PV.D := fun env => andThen (opt (ownL env i)) fun ds => ret (.int ds.length)
theorem r_ownLen {x y : Str} {p p2 : Pos} (i : Nat) (hg : Gl X "len") (hm : X.mg "len" = none) (h : PE X (.Name y p2) (tVar i)) (he : starEach [.Name y p2] X.env = (false, eval (.Name y p2) X.env) :: starEach [] X.env := by rfl) (hpl : (backTo pos (starEach [] X.env)).any (·.1) = false := by rfl) :
    PE X (.Call (.Name "len" p) [.Name y p2] [] pos) (lift X.K dk l W (eOwnLen i)) := PE_imp (pe_callB call_len_seq hg hm PySem.boot_len (pa_cons h pa_nil he) (by decide) (by decide) he hpl) fun σ H Q ⟨I, env, s, e, w, q⟩ => by
  obtain ⟨ds, hd, q⟩ := q.bind.opt
  have hd := ownL_eq hd
  obtain ⟨p, h1, ⟨vs, h2, h3⟩, _⟩ := e.own i _ hd
  exact ⟨_, h1, p, vs, rfl, .inl (.of h2), by rw [← h3.length]; exact q _ I H Ext.refl w rfl⟩
/-! ### and, or, not as values; chains -/
def eAndV (a b : En → M PV.D) : En → M PV.D := fun env => andThen (a env) fun x => match x with
  | .bl true => b env
  | .bl false => ret (.bl false)
  | _ => bad
def eOrV (a b : En → M PV.D) : En → M PV.D := fun env => andThen (a env) fun x => match x with
  | .bl true => ret (.bl true)
  | .bl false => b env
  | _ => bad
def eNotV (a : En → M PV.D) : En → M PV.D := fun env => andThen (a env) fun x => match x with
  | .bl b => ret (.bl (!b))
  | _ => bad
theorem r_one {op} {a : Expr} {m : En → M PV.D} (h : PE X a (lift X.K dk l W m)) : PE X (.BoolOp op [a] pos) (lift X.K dk l W m) := pe_one h
theorem r_andV {a b : Expr} {rest : List Expr} {m n : En → M PV.D} (h : PE X a (lift X.K dk l W m)) (h2 : PE X (.BoolOp .And (b :: rest) pos) (lift X.K dk l W n)) : PE X (.BoolOp .And (a :: b :: rest) pos) (lift X.K dk l W (eAndV m n)) := PE_imp (pe_and h h2) fun σ H Q ⟨I, env, s, e, w, q⟩ => by
  refine ⟨I, env, s, e, w, q.bind.mono (fun x s1 q v I1 H1 x1 w1 r1 => ?_) fun _ _ _ h => h⟩
  cases x with
  | bl c =>
    refine ⟨c, r1, ?_⟩
    cases c with
    | true =>
      rw [if_pos rfl]
      exact ⟨I1, env, s1, e.ext x1, w1, (show Post (n env s1) _ _ from q).mono (fun b s2 q v I2 H2 x2 w2 => q v I2 H2 (x1.trans x2 w2) w2) fun _ _ _ h => h.shift x1⟩
    | false =>
      rw [if_neg Bool.false_ne_true]
      exact (show Post (ret _ s1) _ _ from q) _ I1 H1 x1 w1 rfl
  | _ => exact q.elim
theorem r_orV {a b : Expr} {rest : List Expr} {m n : En → M PV.D} (h : PE X a (lift X.K dk l W m)) (h2 : PE X (.BoolOp .Or (b :: rest) pos) (lift X.K dk l W n)) : PE X (.BoolOp .Or (a :: b :: rest) pos) (lift X.K dk l W (eOrV m n)) := PE_imp (pe_or h h2) fun σ H Q ⟨I, env, s, e, w, q⟩ => by
  refine ⟨I, env, s, e, w, q.bind.mono (fun x s1 q v I1 H1 x1 w1 r1 => ?_) fun _ _ _ h => h⟩
  cases x with
  | bl c =>
    refine ⟨c, r1, ?_⟩
    cases c with
    | false =>
      rw [if_neg Bool.false_ne_true]
      exact ⟨I1, env, s1, e.ext x1, w1, (show Post (n env s1) _ _ from q).mono (fun b s2 q v I2 H2 x2 w2 => q v I2 H2 (x1.trans x2 w2) w2) fun _ _ _ h => h.shift x1⟩
    | true =>
      rw [if_pos rfl]
      exact (show Post (ret _ s1) _ _ from q) _ I1 H1 x1 w1 rfl
  | _ => exact q.elim
theorem r_notV {a : Expr} {m : En → M PV.D} (h : PE X a (lift X.K dk l W m)) : PE X (.UnaryOp .Not a pos) (lift X.K dk l W (eNotV m)) := PE_imp (pe_not h) fun σ H Q ⟨I, env, s, e, w, q⟩ => by
  refine ⟨I, env, s, e, w, q.bind.mono (fun x s1 q v I1 H1 x1 w1 r1 => ?_) fun _ _ _ h => h⟩
  cases x with
  | bl c => exact ⟨c, r1, (show Post (ret _ s1) _ _ from q) _ I1 H1 x1 w1 rfl⟩
  | _ => exact q.elim
def eChain (g g' : PV.D → PV.D → Option PV.D) (a b c : En → M PV.D) : En → M PV.D := fun env => andThen (a env) fun x => andThen (b env) fun y => andThen (opt (g x y)) fun z => match z with
  | .bl true => andThen (c env) fun w => opt (g' y w)
  | .bl false => ret (.bl false)
  | _ => bad
theorem chain_lift {ma mb mc : En → M PV.D} {g g' : PV.D → PV.D → Option PV.D} {r r' : R2} (hr : ∀ I H s x y v u d Q, Wo dk l I H s → Rep X.K I dk x v → Rep X.K I dk y u → g x y = some d → (∀ w I' H', Ext dk l I H I' H' → Wo dk l I' H' s → Rep X.K I' dk d w → Q w H') → r v u H Q)
    (hr' : ∀ I H s x y v u d Q, Wo dk l I H s → Rep X.K I dk x v → Rep X.K I dk y u → g' x y = some d → (∀ w I' H', Ext dk l I H I' H' → Wo dk l I' H' s → Rep X.K I' dk d w → Q w H') → r' v u H Q)
    (σ : L2.St) (H : Hp) (Q : VK) (h : lift X.K dk l W (eChain g g' ma mb mc) σ H Q) : tChain r r' (lift X.K dk l W ma) (lift X.K dk l W mb) (lift X.K dk l W mc) σ H Q := by
  obtain ⟨I, env, s, e, w, q⟩ := h
  refine ⟨I, env, s, e, w, q.bind.mono (fun x s1 q v I1 H1 x1 w1 r1 => ?_) fun _ _ _ h => h⟩
  refine ⟨I1, env, s1, e.ext x1, w1, q.bind.mono (fun y s2 q u I2 H2 x2 w2 r2 => ?_) fun _ _ _ h => h.shift x1⟩
  obtain ⟨z, e3, q⟩ := q.bind.opt
  have x12 := x1.trans x2 w2
  refine hr I2 H2 s2 x y v u z _ w2 (Rep.mono x2.grow x v r1) r2 e3 fun t I3 H3 x3 w3 r3 => ?_
  cases z with
  | bl c =>
    refine ⟨c, r3, ?_⟩
    cases c with
    | true =>
      rw [if_pos rfl]
      refine ⟨I3, env, s2, (e.ext x12).ext x3, w3, (show Post (andThen (mc env) _ s2) _ _ from q).bind.mono (fun w' s4 q v' I4 H4 x4 w4 r4 => ?_) fun _ _ _ h => h.shift (x12.trans x3 w3)⟩
      obtain ⟨d, e5, q⟩ := q.opt
      exact hr' I4 H4 s4 y w' u v' d Q w4 (Rep.mono (x3.grow.trans x4.grow) y u r2) r4 e5 fun z I5 H5 x5 w5 r5 => q z I5 H5 (((x12.trans x3 w3).trans x4 w4).trans x5 w5) w5 r5
    | false =>
      rw [if_neg Bool.false_ne_true]
      exact (show Post (ret _ s2) _ _ from q) _ I3 H3 (x12.trans x3 w3) w3 rfl
  | _ => exact q.elim
theorem r_chain {a b c : Expr} {op op' : CmpOp} {ma mb mc : En → M PV.D} {g g' : PV.D → PV.D → Option PV.D} (o : OpD X dk l (compareOp op) g) (o' : OpD X dk l (compareOp op') g') (ha : PE X a (lift X.K dk l W ma)) (hb : PE X b (lift X.K dk l W mb)) (hc : PE X c (lift X.K dk l W mc))
    (hm : lastMarks [op, op'] [b, c] = false := by with_unfolding_all rfl) : PE X (.Compare a [op, op'] [b, c] pos) (lift X.K dk l W (eChain g g' ma mb mc)) := by
  obtain ⟨r, ho, hr⟩ := o
  obtain ⟨r', ho', hr'⟩ := o'
  exact PE_imp (pe_chain ho ho' ha hb hc hm) (chain_lift hr hr')
theorem r_tchain {a b c : Expr} {op op' : CmpOp} {ma mb mc : En → M PV.D} {g g' : PV.D → PV.D → Option PV.D} (o : OpD X dk l (compareOp op) g) (o' : OpD X dk l (compareOp op') g') (ha : PE X a (lift X.K dk l W ma)) (hb : PE X b (lift X.K dk l W mb)) (hc : PE X c (lift X.K dk l W mc))
    (hm : lastMarks [op, op'] [b, c] = false := by with_unfolding_all rfl) : PT X (.Compare a [op, op'] [b, c] pos) (liftT X.K dk l W (tVal (eChain g g' ma mb mc))) := by
  obtain ⟨r, ho, hr⟩ := o
  obtain ⟨r', ho', hr'⟩ := o'
  refine PT_imp (pt_chain ho ho' ha hb hc hm) fun σ H Q ⟨I, env, s, e, w, q⟩ => ?_
  refine chain_lift (W := W) (ma := ma) (mb := mb) (mc := mc) hr hr' σ H (fun x H1 => ∃ k, x = .bl k ∧ Q k H1) ⟨I, env, s, e, w, q.bind.mono (fun x s1 q v I1 H1 x1 w1 r1 => ?_) fun _ _ _ h => h⟩
  obtain ⟨b, e2, q⟩ := q.opt
  cases x with
  | bl c =>
    have e3 : c = b := Option.some.inj e2
    subst e3
    exact ⟨c, r1, q I1 H1 x1 w1⟩
  | _ => cases e2
/-! ### isinstance -/
inductive Ty where
  | int | bool | str | tuple | list | dict
def Ty.nm : Ty → String
  | .int => "int"
  | .bool => "bool"
  | .str => "str"
  | .tuple => "tuple"
  | .list => "list"
  | .dict => "dict"
def isT : Ty → PV.D → Option PV.D
  | _, .deck => none
  | _, .exc _ _ => none
  | .int, .int _ => some (.bl true)
  | .int, .bl _ => some (.bl true)
  | .bool, .bl _ => some (.bl true)
  | .str, .str _ => some (.bl true)
  | .tuple, .tup _ => some (.bl true)
  | .list, .lst _ => some (.bl true)
  | .dict, .dK _ => some (.bl true)
  | .dict, .dT _ => some (.bl true)
  | .dict, .fK _ => some (.bl true)
  | _, _ => some (.bl false)
theorem r_isi {a : Expr} {x : Str} {p p2 : Pos} {m : En → M PV.D} (T : Ty) (hg : Gl X "isinstance") (hm : X.mg "isinstance" = none) (hgT : Gl X x) (hmT : X.mg x = none) (hv : bootBuiltins x = some (.type T.nm)) (ha : PE X a (lift X.K dk l W m)) (hb : bootBuiltins "isinstance" = some (.builtin "isinstance"))
    (hn : x ≠ "__name__" := by decide) (hd : (x == ("__debug__" : Str)) = false := by decide) (he : starEach [a, .Name x p2] X.env = (false, eval a X.env) :: starEach [.Name x p2] X.env := by rfl) (he2 : starEach [.Name x p2] X.env = (false, eval (.Name x p2) X.env) :: starEach [] X.env := by rfl) (hpl : (backTo pos (starEach [.Name x p2] X.env)).any (·.1) = false := by rfl) :
    PE X (.Call (.Name "isinstance" p) [a, .Name x p2] [] pos) (lift X.K dk l W (eUn (isT T) m)) := PE_imp (pe_callB call_isi hg hm hb (pa_cons ha (pa_cons (pe_bltn (v := .ty T.nm) hgT hmT hv rfl hn hd) pa_nil he2) he) (by decide) (by decide) he hpl) fun σ H Q ⟨I, env, s, e, w, q⟩ => by
  refine ⟨I, env, s, e, w, q.bind.mono (fun d s1 q v I1 H1 x1 w1 r1 => ?_) fun _ _ _ h => h⟩
  obtain ⟨y, e2, q⟩ := q.opt
  have fin : ∀ (c : String) (b : Bool), TyX X.K H1 v (.type c) → kitB c T.nm = some b → y = .bl b → rIsi X.K [v, .ty T.nm] H1 Q := fun c b t1 t2 t3 => ⟨v, .ty T.nm, .type c, .type T.nm, b, rfl, .ty _, t1, kit_ty t2, q _ I1 H1 x1 w1 (by rw [t3]; rfl)⟩
  cases d with
  | non =>
    have r2 : v = .non := r1
    subst r2
    cases T <;> (cases e2; exact fin "NoneType" false (.base .non) (by decide +kernel) rfl)
  | bl b =>
    have r2 : v = .bl b := r1
    subst r2
    cases T <;> (cases e2; first | exact fin "bool" false (.base (.bl _)) (by decide +kernel) rfl | exact fin "bool" true (.base (.bl _)) (by decide +kernel) rfl)
  | int b =>
    have r2 : v = .int b := r1
    subst r2
    cases T <;> (cases e2; first | exact fin "int" false (.base (.int _)) (by decide +kernel) rfl | exact fin "int" true (.base (.int _)) (by decide +kernel) rfl)
  | str b =>
    have r2 : v = .str b := r1
    subst r2
    cases T <;> (cases e2; first | exact fin "str" false (.base (.str _)) (by decide +kernel) rfl | exact fin "str" true (.base (.str _)) (by decide +kernel) rfl)
  | tup ds =>
    obtain ⟨a', vs, rfl, h1, _⟩ := r1
    cases T <;> (cases e2; first | exact fin "tuple" false (.base (.tup (w1.sub _ _ h1))) (by decide +kernel) rfl | exact fin "tuple" true (.base (.tup (w1.sub _ _ h1))) (by decide +kernel) rfl)
  | lst ds =>
    obtain ⟨a', vs, rfl, h1, _⟩ := r1
    cases T <;> (cases e2; first | exact fin "list" false (.base (.lst (w1.sub _ _ h1))) (by decide +kernel) rfl | exact fin "list" true (.base (.lst (w1.sub _ _ h1))) (by decide +kernel) rfl)
  | dK ds =>
    obtain ⟨a', vs, rfl, h1, _⟩ := r1
    cases T <;> (cases e2; first | exact fin "dict" false (.base (.dK (w1.sub _ _ h1))) (by decide +kernel) rfl | exact fin "dict" true (.base (.dK (w1.sub _ _ h1))) (by decide +kernel) rfl)
  | dT ds =>
    obtain ⟨a', vs, rfl, h1, _⟩ := r1
    cases T <;> (cases e2; first | exact fin "dict" false (.base (.dT (w1.sub _ _ h1))) (by decide +kernel) rfl | exact fin "dict" true (.base (.dT (w1.sub _ _ h1))) (by decide +kernel) rfl)
  | deck => cases T <;> cases e2
  | exc c d => cases T <;> cases e2
  | fK ds =>
    obtain ⟨a', vs, o, rfl, h1, _⟩ := r1
    cases T <;> (cases e2; first | exact fin "dict" false (.fDict (w1.sub _ _ h1)) (by decide +kernel) rfl | exact fin "dict" true (.fDict (w1.sub _ _ h1)) (by decide +kernel) rfl)
end
end PV

end

section
set_option maxRecDepth 100000
namespace PV
open PySem PySem.Spec PyProof.Rows L2

/-! ### zip's next while its last tuple is still out -/
section
variable {prog : Program} {w : World} {A : Around} {E : Value → Shared → Prop} {s : Shared} {z TI TO i1 i2 T : Addr} {f : Bool} {fp1 fp2 : List Addr} {n1 n2 i : Nat} {P1 P2 : Nat → Value → Prop} {St1 St2 : Nat → Heap → Prop}
theorem held_item {oT : Obj} {Q : Value → Shared → Prop} (S : ZipSep2 z TI TO i1 i2 fp1 fp2) (D1 : Draws prog w A i1 fp1 n1 P1 St1) (D2 : Draws prog w A i2 fp2 n2 P2 St2)
    (hz : IsZipHeld s.heap z TI TO T f) (hT : s.heap.get? T = some oT) (hTI : IsTupOf2 s.heap TI (.ref i1) (.ref i2)) (st1 : St1 i s.heap) (st2 : St2 i s.heap) (l1 : i < n1) (l2 : i < n2)
    (hQ : ∀ x1 x2 h' tk, P1 i x1 → P2 i x2 → IsZipHeld h' z TI TO T true → St1 (i + 1) h' → St2 (i + 1) h' → IsTupOf2 h' s.heap.objs.size x1 x2 → h'.objs.size = s.heap.objs.size + 1 →
      (∀ c o, c ≠ z → c ≠ i1 → c ≠ i2 → s.heap.get? c = some o → h'.get? c = some o) → Q (.ref s.heap.objs.size) { s with heap := h', toks := tk }) :
    wpAny (model prog w) A (Builtin.«zip.__next__» ⟨[.ref z], []⟩) (fun fin s' => ∃ v, fin = .done (.ret v) ∧ Q v s') E s := by
  obtain ⟨hp, g, d, tk0, os⟩ := s
  show wpAny _ _ (field (.ref z) 2 >>= _) _ _ _
  refine wpAny_bind (wpAny_field hz rfl (x := .bool false) rfl ?_)
  show wpAny _ _ (field (.ref z) 3 >>= _) _ _ _
  refine wpAny_bind (wpAny_field hz rfl (x := .ref TI) rfl ?_)
  refine wpAny_bind (wpAny_seqItems hTI rfl ?_)
  show wpAny _ _ (Builtin.SmallTypes.ownedTupleIsFree (.ref z) >>= _) _ _ _
  refine wpAny_bind (wpAny_tupleHeld_zip hz hT fun g0 hz0 hs0 => ?_)
  simp only [Bool.false_eq_true, if_false]
  replace hs0 : Heap.SameBut z hp g0 := hs0
  refine wpAny_bind ?_
  rw [← Array.forIn_toList]
  simp only [List.forIn_cons, List.forIn_nil]
  refine wpAny_bind (wpAny_bind (wpAny_holding ?_))
  show wpAny _ _ (Builtin.SmallTypes.nextOf (.ref i1) >>= _) _ _ ⟨g0, g, d, tk0, os⟩
  refine wpAny_bind (D1.item i _ _ _ l1 (D1.over st1 hs0 S.zf1) fun x1 p1 tk1 hx1 sn1 hp1 => wpAny_pure ?_)
  replace hp1 : Heap.SameBut i1 g0 p1 := hp1
  refine wpAny_pure ?_
  refine wpAny_bind (wpAny_bind (wpAny_holding ?_))
  show wpAny _ _ (Builtin.SmallTypes.nextOf (.ref i2) >>= _) _ _ ⟨p1, g, d, tk1, os⟩
  refine wpAny_bind (D2.item i _ _ _ l2 (D2.over (D2.over st2 hs0 S.zf2) hp1 S.sep1_2) fun x2 p2 tk2 hx2 sn2 hp2 => wpAny_pure ?_)
  replace hp2 : Heap.SameBut i2 p1 p2 := hp2
  refine wpAny_pure (wpAny_pure ?_)
  show wpAny _ _ (newTuple [x1, x2] >>= _) _ _ _
  refine wpAny_bind (wpAny_newTuple ?_)
  have hsz : p2.objs.size = hp.objs.size := by rw [hp2.1, hp1.1, hs0.1]
  have hz3 : IsZipHeld p2 z TI TO T true := hp2.extBut _ _ S.zi2 (hp1.extBut _ _ S.zi1 hz0)
  have hk : ∀ c o, c ≠ z → c ≠ i1 → c ≠ i2 → hp.get? c = some o → p2.get? c = some o := fun c o c1 c2 c3 e => hp2.extBut _ _ c3 (hp1.extBut _ _ c2 (hs0.extBut _ _ c1 e))
  have hj1 : St1 (i + 1) p2 := D1.over sn1 hp2 S.sep2_1
  refine wpAny_pure ⟨_, rfl, ?_⟩
  show Q (.ref p2.objs.size) _
  have hp3 : IsTupOf2 (p2.push { cls := .type "tuple", data := .seq #[x1, x2] }) p2.objs.size x1 x2 := Heap.get?_push_size _ rfl
  have hz4 : (p2.push { cls := .type "tuple", data := .seq #[x1, x2] }).objs.size = p2.objs.size + 1 := Heap.size_push ..
  rw [hsz] at hp3 hz4 ⊢
  exact hQ x1 x2 _ tk2 hx1 hx2 (Heap.get?_push_of_some _ hz3) (D1.frame _ _ _ hj1 fun b _ o e => Heap.get?_push_of_some _ e) (D2.frame _ _ _ sn2 fun b _ o e => Heap.get?_push_of_some _ e) hp3 hz4 fun c o c1 c2 c3 e => Heap.get?_push_of_some _ (hk c o c1 c2 c3 e)
theorem held_end {oT : Obj} {Q : Fin → Shared → Prop} (S : ZipSep2 z TI TO i1 i2 fp1 fp2) (D1 : Draws prog w A i1 fp1 n1 P1 St1) (D2 : Draws prog w A i2 fp2 n2 P2 St2)
    (hz : IsZipHeld s.heap z TI TO T f) (hT : s.heap.get? T = some oT) (hTI : IsTupOf2 s.heap TI (.ref i1) (.ref i2)) (st1 : St1 i s.heap) (st2 : St2 i s.heap) (l1 : i ≤ n1) (l2 : i ≤ n2) (hend : i = n1 ∨ i = n2)
    (hE : ∀ h' tk e, (∀ c o, c ≠ z → c ≠ i1 → c ≠ i2 → s.heap.get? c = some o → h'.get? c = some o) → (∃ o, h'.get? e = some o ∧ o.cls = .type "StopIteration") → E (.ref e) { s with heap := h', toks := tk }) :
    wpAny (model prog w) A (Builtin.«zip.__next__» ⟨[.ref z], []⟩) Q E s := by
  obtain ⟨hp, g, d, tk0, os⟩ := s
  show wpAny _ _ (field (.ref z) 2 >>= _) _ _ _
  refine wpAny_bind (wpAny_field hz rfl (x := .bool false) rfl ?_)
  show wpAny _ _ (field (.ref z) 3 >>= _) _ _ _
  refine wpAny_bind (wpAny_field hz rfl (x := .ref TI) rfl ?_)
  refine wpAny_bind (wpAny_seqItems hTI rfl ?_)
  show wpAny _ _ (Builtin.SmallTypes.ownedTupleIsFree (.ref z) >>= _) _ _ _
  refine wpAny_bind (wpAny_tupleHeld_zip hz hT fun g0 hz0 hs0 => ?_)
  simp only [Bool.false_eq_true, if_false]
  replace hs0 : Heap.SameBut z hp g0 := hs0
  refine wpAny_bind ?_
  rw [← Array.forIn_toList]
  simp only [List.forIn_cons, List.forIn_nil]
  refine wpAny_bind (wpAny_bind (wpAny_holding ?_))
  show wpAny _ _ (Builtin.SmallTypes.nextOf (.ref i1) >>= _) _ _ ⟨g0, g, d, tk0, os⟩
  by_cases c1 : i < n1
  · refine wpAny_bind (D1.item i _ _ _ c1 (D1.over st1 hs0 S.zf1) fun x1 p1 tk1 hx1 sn1 hp1 => wpAny_pure ?_)
    replace hp1 : Heap.SameBut i1 g0 p1 := hp1
    refine wpAny_pure ?_
    refine wpAny_bind (wpAny_bind (wpAny_holding ?_))
    show wpAny _ _ (Builtin.SmallTypes.nextOf (.ref i2) >>= _) _ _ ⟨p1, g, d, tk1, os⟩
    have hi2 : i = n2 := by omega
    refine wpAny_bind (D2.done ⟨p1, g, d, tk1, os⟩ _ _ (by rw [← hi2]; exact D2.over (D2.over st2 hs0 S.zf2) hp1 S.sep1_2) fun q e hq he => ?_)
    replace hq : Heap.ExtBut i2 p1 q := hq
    exact hE q tk1 e (fun c o c1 c2 c3 x => hq _ _ c3 (hp1.extBut _ _ c2 (hs0.extBut _ _ c1 x))) he
  · have hi1 : i = n1 := by omega
    refine wpAny_bind (D1.done ⟨g0, g, d, tk0, os⟩ _ _ (by rw [← hi1]; exact D1.over st1 hs0 S.zf1) fun q e hq he => ?_)
    replace hq : Heap.ExtBut i1 g0 q := hq
    exact hE q tk0 e (fun c o c1 c2 c3 x => hq _ _ c2 (hs0.extBut _ _ c1 x)) he
theorem heldN_item {oT : Obj} {Q : Option Value → Shared → Prop} (S : ZipSep2 z TI TO i1 i2 fp1 fp2) (D1 : Draws prog w A.in1 i1 fp1 n1 P1 St1) (D2 : Draws prog w A.in1 i2 fp2 n2 P2 St2)
    (hz : IsZipHeld s.heap z TI TO T f) (hT : s.heap.get? T = some oT) (hTI : IsTupOf2 s.heap TI (.ref i1) (.ref i2)) (st1 : St1 i s.heap) (st2 : St2 i s.heap) (l1 : i < n1) (l2 : i < n2)
    (hQ : ∀ x1 x2 h' tk, P1 i x1 → P2 i x2 → IsZipHeld h' z TI TO T true → St1 (i + 1) h' → St2 (i + 1) h' → IsTupOf2 h' s.heap.objs.size x1 x2 → h'.objs.size = s.heap.objs.size + 1 →
      (∀ c o, c ≠ z → c ≠ i1 → c ≠ i2 → s.heap.get? c = some o → h'.get? c = some o) → Q (some (.ref s.heap.objs.size)) { s with heap := h', toks := tk }) :
    wpAny (model prog w) A (pyNext (.ref z)) Q E s := by
  have hTy : s.TypeIs (.ref z) "zip" := ⟨_, hz, rfl⟩
  unfold pyNext
  exact wpAny_bind (wpAny_attempt (wpAny_callSpecial?_slot (name := Str.ofString "__next__") hTy PySem.F.slot_zip_next
    (wpAny_call_entry PySem.F.slot_zip_next hTy PySem.F.entry_zip_next
      (held_item S D1 D2 hz hT hTI st1 st2 l1 l2 fun x1 x2 h' tk y1 y2 b1 d1 d2 b5 b6 b7 => wpAny_pure (hQ x1 x2 h' tk y1 y2 b1 d1 d2 b5 b6 b7)) (PySem.F.args_zip_next_1 _))))
theorem heldN_end {oT : Obj} {Q : Option Value → Shared → Prop} (S : ZipSep2 z TI TO i1 i2 fp1 fp2) (D1 : Draws prog w A.in1 i1 fp1 n1 P1 St1) (D2 : Draws prog w A.in1 i2 fp2 n2 P2 St2)
    (hz : IsZipHeld s.heap z TI TO T f) (hT : s.heap.get? T = some oT) (hTI : IsTupOf2 s.heap TI (.ref i1) (.ref i2)) (st1 : St1 i s.heap) (st2 : St2 i s.heap) (l1 : i ≤ n1) (l2 : i ≤ n2) (hend : i = n1 ∨ i = n2)
    (hQ : ∀ h' tk, (∀ c o, c ≠ z → c ≠ i1 → c ≠ i2 → s.heap.get? c = some o → h'.get? c = some o) → Q none { s with heap := h', toks := tk }) : wpAny (model prog w) A (pyNext (.ref z)) Q E s := by
  have hTy : s.TypeIs (.ref z) "zip" := ⟨_, hz, rfl⟩
  unfold pyNext
  refine wpAny_bind (wpAny_attempt (wpAny_callSpecial?_slot (name := Str.ofString "__next__") hTy PySem.F.slot_zip_next
    (wpAny_call_entry PySem.F.slot_zip_next hTy PySem.F.entry_zip_next (held_end S D1 D2 hz hT hTI st1 st2 l1 l2 hend fun h' tk e hk he => ?_) (PySem.F.args_zip_next_1 _))))
  obtain ⟨o, ho, hc⟩ := he
  refine wpAny_bind (wpAny_isInstance (T := "StopIteration") (b := true) ⟨o, ho, hc⟩ isSubtype_stop ?_)
  exact wpAny_pure (hQ _ _ hk)
end
theorem zip_no_len : typeLookup (.type "zip") "__len__" = pure none := am_miss_of_fast (by decide +kernel)
theorem zip_no_hint : typeLookup (.type "zip") "__length_hint__" = pure none := am_miss_of_fast (by decide +kernel)
end PV

end

section
set_option maxRecDepth 100000
namespace PV
open PySem PySem.Spec PyProof.Rows L2
/-- a zip's cells between two turns -/
structure ZSt (t u : Bool) (z TI TO i1 i2 a b : Addr) (i : Nat) (H : Hp) (h : Heap) : Prop where
  st : (IsZip h z TI TO .none ∧ ∃ x y, IsTupOf2 h TO x y) ∨ ∃ T f ps, IsZipHeld h z TI TO T f ∧ H T = some (.tup ps)
  ti : IsTupOf2 h TI (.ref i1) (.ref i2)
  to : ∃ o, h.get? TO = some o
  s1 : ItA t h i1 a i
  s2 : ItA u h i2 b i
theorem ZSt.keep {t u : Bool} {z TI TO i1 i2 a b : Addr} {i : Nat} {H H' : Hp} {h h' : Heap} (x : ZSt t u z TI TO i1 i2 a b i H h) (kH : ∀ c ps, H c = some (.tup ps) → H' c = some (.tup ps)) (k : ∀ c ∈ [z, TI, TO, i1, i2], ∀ o, h.get? c = some o → h'.get? c = some o) : ZSt t u z TI TO i1 i2 a b i H' h' where
  st := by
    rcases x.st with ⟨h1, y1, y2, h2⟩ | ⟨T, f, ps, h1, h2⟩
    · exact .inl ⟨k z (by simp) _ h1, y1, y2, k TO (by simp) _ h2⟩
    · exact .inr ⟨T, f, ps, k z (by simp) _ h1, kH _ _ h2⟩
  ti := k TI (by simp) _ x.ti
  to := let ⟨o, e⟩ := x.to; ⟨o, k TO (by simp) o e⟩
  s1 := x.s1.at fun o q => k i1 (by simp) o q
  s2 := x.s2.at fun o q => k i2 (by simp) o q
section
variable {X : Cx} {pins : List (Addr × Obj)} {σ : L2.St}
theorem obj_of {H : Hp} {s : Shared} {T : Addr} {ps : List V} (I : Inv X pins σ H s) (h : H T = some (.tup ps)) : ∃ o, s.heap.get? T = some o := by
  obtain ⟨_, its, _, o, e, _⟩ := (show ObjOk X.prog X.w H s.heap T (.tup ps) from I.hok T _ h)
  exact ⟨o, e⟩
theorem zipAll_next {t u : Bool} {z TI TO i1 i2 a b : Addr} {i : Nat} {H : Hp} {s : Shared} {A : Around} {E : Value → Shared → Prop} {Q : Option Value → Shared → Prop} {xs ys : List V} {x y : V} (hh : A.in1.handled = none) (D : ZipSep2 z TI TO i1 i2 [i1, a] [i2, b]) (n1 : a ≠ i1) (n2 : b ≠ i2)
    (I : Inv X pins σ H s) (hf : ∀ c ∈ [z, TI, TO, i1, i2], FpOk X pins H c) (st : ZSt t u z TI TO i1 i2 a b i H s.heap) (hqx : SqA X.K t H a xs) (hqy : SqA X.K u H b ys) (hx : xs[i]? = some x) (hy : ys[i]? = some y)
    (q : ∀ T s', H T = none → Inv X pins σ (upd H T (.tup [x, y])) s' → (∀ c ∈ [z, TI, TO, i1, i2], FpOk X pins (upd H T (.tup [x, y])) c) → ZSt t u z TI TO i1 i2 a b (i + 1) (upd H T (.tup [x, y])) s'.heap → Q (some (.ref T)) s') :
    wpAny (model X.prog X.w) A (pyNext (.ref z)) Q E s := by
  obtain ⟨its, rv, p, _⟩ := invA I hqx
  obtain ⟨its2, rv2, p2, _⟩ := invA I hqy
  obtain ⟨v1, hv1, r1⟩ := rv.get hx
  obtain ⟨v2, hv2, r2⟩ := rv2.get hy
  have l1 : i < its.toArray.size := by
    have := (List.getElem?_eq_some_iff.mp hv1).1
    simpa using this
  have l2 : i < its2.toArray.size := by
    have := (List.getElem?_eq_some_iff.mp hv2).1
    simpa using this
  have D1 := drawsA (prog := X.prog) (w := X.w) (A := A.in1) t hh i1 a n1 its.toArray
  have D2 := drawsA (prog := X.prog) (w := X.w) (A := A.in1) u hh i2 b n2 its2.toArray
  have fin : ∀ (h' : Heap) (tk : Nat) (w1 w2 : Value), its.toArray[i]? = some w1 → its2.toArray[i]? = some w2 → IsTupOf2 h' s.heap.objs.size w1 w2 → (∀ c o, c ∉ [z, TI, TO, i1, i2] → s.heap.get? c = some o → h'.get? c = some o) →
      (∀ H', H' s.heap.objs.size = some (.tup [x, y]) → (∀ c ps, H c = some (.tup ps) → H' c = some (.tup ps)) → ZSt t u z TI TO i1 i2 a b (i + 1) H' h') → Q (some (.ref s.heap.objs.size)) { s with heap := h', toks := tk } := fun h' tk w1 w2 hw1 hw2 hT kp zs => by
    have e1 : w1 = v1 := by
      have : its[i]? = some w1 := by simpa using hw1
      rw [hv1] at this
      exact (Option.some.inj this).symm
    have e2 : w2 = v2 := by
      have : its2[i]? = some w2 := by simpa using hw2
      rw [hv2] at this
      exact (Option.some.inj this).symm
    subst e1 e2
    have hn : H s.heap.objs.size = none := I.fresh
    have new : ObjOk X.prog X.w (upd H s.heap.objs.size (.tup [x, y])) h' s.heap.objs.size (.tup [x, y]) :=
      ⟨by show 2 ≤ sizeLine; decide, [w1, w2], .cons r1 (.cons r2 .nil), ⟨_, hT, rfl, _, rfl⟩⟩
    have I1 : Inv X pins σ (upd H s.heap.objs.size (.tup [x, y])) { s with heap := h', toks := tk } := I.turnedNew (ch := [z, TI, TO, i1, i2]) (fun c ob hb e => kp c ob hb e) hf (Nat.le_refl _) new
    have lt : ∀ c ∈ [z, TI, TO, i1, i2], c ≠ s.heap.objs.size := fun c hc e => by
      have obj : ∃ o, s.heap.get? c = some o := by
        have e' : c = z ∨ c = TI ∨ c = TO ∨ c = i1 ∨ c = i2 := by simpa using hc
        rcases e' with q | q | q | q | q
        · subst q
          rcases st.st with ⟨h1, _⟩ | ⟨T, f, ps, h1, _⟩
          · exact ⟨_, h1⟩
          · exact ⟨_, h1⟩
        · subst q; exact ⟨_, st.ti⟩
        · subst q; exact st.to
        · subst q; obtain ⟨o, h, _⟩ := st.s1.obj; exact ⟨o, h⟩
        · subst q; obtain ⟨o, h, _⟩ := st.s2.obj; exact ⟨o, h⟩
      obtain ⟨o, ho⟩ := obj
      rw [e] at ho
      exact absurd (Heap.lt_size ho) (Nat.lt_irrefl _)
    refine q _ _ hn I1 (fun c hc => ?_) (zs _ upd_same fun c ps e => by rw [upd_ne (ne_of_none e hn)]; exact e)
    have h := hf c hc
    exact ⟨by rw [upd_ne (lt c hc)]; exact h.1, h.2⟩
  rcases st.st with ⟨hz, y1, y2, hTO⟩ | ⟨T, f, ps, hz, hT⟩
  · refine wpAny_pyNext_zipD2_item D D1 D2 hz st.ti hTO ⟨st.s1, p⟩ ⟨st.s2, p2⟩ l1 l2 fun x1 x2 h' tk g1 g2 b1 b2 d1 d2 b5 b6 hk => ?_
    refine fin h' tk x1 x2 g1 g2 b5 (fun c o hc e => hk c o (fun q => hc (by simp [q])) (fun q => hc (by simp [q])) (fun q => hc (by simp [q])) (fun q => hc (by simp [q])) e) fun H' e1 e2 => ⟨.inr ⟨s.heap.objs.size, false, [x, y], b1, e1⟩, hk _ _ D.TIz D.TITO D.TIi1 D.TIi2 st.ti, ⟨_, b2⟩, d1.1, d2.1⟩
  · obtain ⟨oT, hoT⟩ := obj_of I hT
    refine heldN_item D D1 D2 hz hoT st.ti ⟨st.s1, p⟩ ⟨st.s2, p2⟩ l1 l2 fun x1 x2 h' tk g1 g2 b1 d1 d2 b5 b6 hk => ?_
    refine fin h' tk x1 x2 g1 g2 b5 (fun c o hc e => hk c o (fun q => hc (by simp [q])) (fun q => hc (by simp [q])) (fun q => hc (by simp [q])) e) fun H' e1 e2 => ⟨.inr ⟨T, true, ps, b1, e2 T ps hT⟩, hk _ _ D.TIz D.TIi1 D.TIi2 st.ti, (let ⟨o, e⟩ := st.to; ⟨o, hk _ _ D.TOz D.Ti1 D.Ti2 e⟩), d1.1, d2.1⟩
theorem zipAll_end {t u : Bool} {z TI TO i1 i2 a b : Addr} {i : Nat} {H : Hp} {s : Shared} {A : Around} {E : Value → Shared → Prop} {Q : Option Value → Shared → Prop} {xs ys : List V} (hh : A.in1.handled = none) (D : ZipSep2 z TI TO i1 i2 [i1, a] [i2, b]) (n1 : a ≠ i1) (n2 : b ≠ i2)
    (I : Inv X pins σ H s) (hf : ∀ c ∈ [z, TI, TO, i1, i2], FpOk X pins H c) (st : ZSt t u z TI TO i1 i2 a b i H s.heap) (hqx : SqA X.K t H a xs) (hqy : SqA X.K u H b ys) (hl : min xs.length ys.length = i) (q : ∀ s', Inv X pins σ H s' → Q none s') :
    wpAny (model X.prog X.w) A (pyNext (.ref z)) Q E s := by
  obtain ⟨its, rv, p, _⟩ := invA I hqx
  obtain ⟨its2, rv2, p2, _⟩ := invA I hqy
  have D1 := drawsA (prog := X.prog) (w := X.w) (A := A.in1) t hh i1 a n1 its.toArray
  have D2 := drawsA (prog := X.prog) (w := X.w) (A := A.in1) u hh i2 b n2 its2.toArray
  have e1 : its.toArray.size = xs.length := by rw [List.size_toArray, ← rv.length]
  have e2 : its2.toArray.size = ys.length := by rw [List.size_toArray, ← rv2.length]
  have fin : ∀ (h' : Heap) (tk : Nat), (∀ c o, c ∉ [z, TI, TO, i1, i2] → s.heap.get? c = some o → h'.get? c = some o) → Q none { s with heap := h', toks := tk } := fun h' tk kp => q _ (I.turnedL (ch := [z, TI, TO, i1, i2]) (fun c o hb e => kp c o hb e) hf)
  rcases st.st with ⟨hz, y1, y2, hTO⟩ | ⟨T, f, ps, hz, hT⟩
  · exact wpAny_pyNext_zipD2_end D D1 D2 hz st.ti hTO ⟨st.s1, p⟩ ⟨st.s2, p2⟩ (by omega) (by omega) (by omega) fun h' tk hk => fin h' tk fun c o hc e => hk c o (fun q => hc (by simp [q])) (fun q => hc (by simp [q])) (fun q => hc (by simp [q])) (fun q => hc (by simp [q])) e
  · obtain ⟨oT, hoT⟩ := obj_of I hT
    exact heldN_end D D1 D2 hz hoT st.ti ⟨st.s1, p⟩ ⟨st.s2, p2⟩ (by omega) (by omega) (by omega) fun h' tk hk => fin h' tk fun c o hc e => hk c o (fun q => hc (by simp [q])) (fun q => hc (by simp [q])) (fun q => hc (by simp [q])) e
theorem zip_loop {t u : Bool} {q z TI TO i1 i2 a b : Addr} {xs ys : List V} {A1 : Around} {Rs : Result → Shared → Prop} (hh : A1.in1.in1.handled = none) (D : ZipSep2 z TI TO i1 i2 [i1, a] [i2, b]) (n1 : a ≠ i1) (n2 : b ≠ i2) (hqn : ∀ c ∈ [z, TI, TO, i1, i2], c ≠ q)
    (hz : min xs.length ys.length < sizeLine) (G : List Addr → Hp → Prop) (hdone : ∀ as H s, Inv X pins σ H s → as.length = min xs.length ys.length → H q = some (.lst (as.map V.ref)) → G as H → Rs (.ok (.ret .none)) s)
    (hG : ∀ as H T x y, G as H → H T = none → xs[as.length]? = some x → ys[as.length]? = some y → H q = some (.lst (as.map V.ref)) → G (as ++ [T]) (upd (upd H T (.tup [x, y])) q (.lst ((as ++ [T]).map V.ref))))
    (hsq : ∀ as H, G as H → SqA X.K t H a xs ∧ SqA X.K u H b ys) :
    ∀ (m : Nat) (as : List Addr) (H : Hp) (s : Shared), as.length + m = min xs.length ys.length → Inv X pins σ H s → (∀ c ∈ [z, TI, TO, i1, i2], FpOk X pins H c) → ZSt t u z TI TO i1 i2 a b as.length H s.heap → H q = some (.lst (as.map V.ref)) → G as H →
      codeAny (model X.prog X.w) A1 (.builtin "list.extend.loop" ⟨[.ref q, .ref z, .none], []⟩) Rs s := by
  intro m
  induction m with
  | zero =>
    intro as H s hl I hf st hq g
    refine codeAny_builtin PySem.F.entry_extend_loop ?_
    rw [Around.under_plainId PySem.F.plain_extend_loop _]
    show wpAny _ A1.in1 (pyNext (.ref z) >>= _) _ _ s
    obtain ⟨h1, h2⟩ := hsq as H g
    exact wpAny_bind (zipAll_end hh D n1 n2 I hf st h1 h2 (by omega) fun s' I' => wpAny_pure (hdone as H s' I' (by omega) hq g))
  | succ m ih =>
    intro as H s hl I hf st hq g
    refine codeAny_builtin PySem.F.entry_extend_loop ?_
    rw [Around.under_plainId PySem.F.plain_extend_loop _]
    show wpAny _ A1.in1 (pyNext (.ref z) >>= _) _ _ s
    obtain ⟨h1, h2⟩ := hsq as H g
    obtain ⟨x, hx⟩ : ∃ x, xs[as.length]? = some x := ⟨xs[as.length]'(by omega), by simp [show as.length < xs.length by omega]⟩
    obtain ⟨y, hy⟩ : ∃ y, ys[as.length]? = some y := ⟨ys[as.length]'(by omega), by simp [show as.length < ys.length by omega]⟩
    refine wpAny_bind (zipAll_next hh D n1 n2 I hf st h1 h2 hx hy fun T s' hT I' hf' st' => ?_)
    show wpAny _ A1.in1 (updateSeq q (·.push (.ref T)) >>= _) _ _ _
    have hqT : q ≠ T := ne_of_none hq hT
    have hq' : upd H T (.tup [x, y]) q = some (.lst (as.map V.ref)) := by rw [upd_ne hqT]; exact hq
    obtain ⟨zz, its, k, r2, hl2, e⟩ := I'.lstM hq'
    have hal : its.length = as.length := by rw [← r2.length, List.length_map]
    refine wpAny_bind (wpAny_updateSeq e rfl (wpAny_pure ⟨plainId_quiet PySem.F.plain_extend_loop _, ?_⟩) (by rw [List.size_toArray]; omega) (by show (its.toArray.push (.ref T)).size ≤ sizeLine + 1; rw [Array.size_push, List.size_toArray]; omega))
    have I2 := I'.lset (its' := its ++ [.ref T]) (ys := (as ++ [T]).map V.ref) (f := (·.push (.ref T))) (t' := s'.toks) hq' e (by simp) (by rw [List.map_append]; exact r2.append (.cons rfl .nil)) (by rw [List.length_map, List.length_append, List.length_singleton]; omega)
    refine ih (as ++ [T]) _ _ (by rw [List.length_append, List.length_singleton]; omega) I2 (fun c hc => ?_) ?_ upd_same (hG as H T x y g hT hx hy hq)
    · have h := hf' c hc
      exact ⟨by rw [upd_ne (hqn c hc)]; exact h.1, h.2⟩
    · rw [List.length_append, List.length_singleton]
      refine st'.keep (fun c ps e9 => ?_) fun c hc o e9 => ?_
      · by_cases hc : c = q
        · subst hc
          rw [hq'] at e9; cases e9
        · rw [upd_ne hc]; exact e9
      · exact (Heap.get?_update_other _ _ (Ne.symm (hqn c hc))).trans e9
/-- list(z) of a zip as it is made -/
theorem call_listZ {t u : Bool} {z TI TO i1 i2 a b : Addr} {xs ys : List V} {H : Hp} {s : Shared} {Q : VK} (hh : X.A.handled = none) (D : ZipSep2 z TI TO i1 i2 [i1, a] [i2, b]) (n1 : a ≠ i1) (n2 : b ≠ i2) (hz : min xs.length ys.length < sizeLine)
    (I : Inv X pins σ H s) (hf : ∀ c ∈ [z, TI, TO, i1, i2], FpOk X pins H c) (lt : ∀ c ∈ [z, TI, TO, i1, i2], c < s.heap.objs.size) (hzz : IsZip s.heap z TI TO .none) (st : ZSt t u z TI TO i1 i2 a b 0 H s.heap)
    (go : ∀ q, H q = none → ∃ G : List Addr → Hp → Prop, G [] (upd H q (.lst [])) ∧ (∀ as H T x y, G as H → H T = none → xs[as.length]? = some x → ys[as.length]? = some y → H q = some (.lst (as.map V.ref)) → G (as ++ [T]) (upd (upd H T (.tup [x, y])) q (.lst ((as ++ [T]).map V.ref)))) ∧
      (∀ as H, G as H → SqA X.K t H a xs ∧ SqA X.K u H b ys) ∧ ∀ as H', as.length = min xs.length ys.length → H' q = some (.lst (as.map V.ref)) → G as H' → Q (.ref q) H') :
    wpAny (model X.prog X.w) X.A (call (.type "list") [.ref z]) (EP X pins σ Q) X.xe s := by
  have hT : ∀ {h : Heap}, IsZip h z TI TO .none → ∀ {s' : Shared}, s'.heap = h → s'.TypeIs (.ref z) "zip" := fun e _ e2 => ⟨_, by rw [e2]; exact e, rfl⟩
  refine callType_codes (Q₁ := fun obj s₁ => obj = .ref s.heap.objs.size ∧ s₁ = { s with heap := s.heap.push { cls := .type "list", data := .seq #[] } }) PySem.F.called_list (PySem.F.typeCall_list_1 _) PySem.F.entry_list_init
    (code_list_new _ ⟨rfl, rfl⟩) fun obj s₁ h₁ => ?_
  obtain ⟨rfl, rfl⟩ := h₁
  have hS : (s.heap.push { cls := .type "list", data := .seq #[] }).get? s.heap.objs.size = some { cls := .type "list", data := .seq #[] } := Heap.get?_push_size _ rfl
  refine ⟨⟨_, hS, rfl⟩, PySem.F.args_list_init_2 _ _, ?_⟩
  have fr : H s.heap.objs.size = none := I.fresh
  obtain ⟨G, g0, gs, gq, gd⟩ := go _ fr
  have hqn : ∀ c ∈ [z, TI, TO, i1, i2], c ≠ s.heap.objs.size := fun c hc => Nat.ne_of_lt (lt c hc)
  have hqz : s.heap.objs.size ≠ z := Ne.symm (hqn z (by simp))
  have I1 : Inv X pins σ (upd H s.heap.objs.size (.lst [])) { s with heap := s.heap.push { cls := .type "list", data := .seq #[] } } := I.lnew (its := []) (t' := s.toks) .nil (Nat.zero_le _)
  show wpAny _ _ (do let old ← Builtin.List.listItems (.ref s.heap.objs.size); Builtin.List.listUpdate (.ref s.heap.objs.size) (fun _ => #[]); letGo old.toList.reverse; Builtin.List.listExtendWith (.ref s.heap.objs.size) (.ref z) .none) _ _ _
  refine wpAny_bind ?_
  unfold Builtin.List.listItems
  refine wpAny_bind (wpAny_seqItems hS rfl (wpAny_pure ?_))
  show wpAny _ _ (updateSeq s.heap.objs.size (fun _ => #[]) >>= fun _ => letGo (#[] : Array Value).toList.reverse >>= fun _ => Builtin.List.listExtendWith (.ref s.heap.objs.size) (.ref z) .none) _ _ _
  refine wpAny_bind (wpAny_updateSeq hS rfl ?_)
  have I2 := I1.lset (f := fun _ => #[]) (its := []) (its' := []) (ys := []) (t' := s.toks) upd_same hS rfl .nil (Nat.zero_le _)
  rw [upd_upd] at I2
  refine wpAny_bind (wpAny_letGo ?_)
  have kp2 : ∀ c o, c ≠ s.heap.objs.size → s.heap.get? c = some o → ((s.heap.push { cls := .type "list", data := .seq #[] }).update s.heap.objs.size (Obj.mapSeq fun _ => #[])).get? c = some o := fun c o hc e => (Heap.get?_update_other _ _ (Ne.symm hc)).trans (Heap.get?_push_of_some _ e)
  have hz2 := kp2 z _ (Ne.symm hqz) hzz
  unfold Builtin.List.listExtendWith
  refine wpAny_bind (wpAny_typeOf (T := "zip") ⟨_, hz2, rfl⟩ ?_)
  have h1 : Builtin.List.listSameRef (.ref s.heap.objs.size) (.ref z) = false := by simp [Builtin.List.listSameRef, hqz]
  have h2 : (Value.type "zip" == Value.type "list") = false := by decide
  have h3 : (Value.type "zip" == Value.type "tuple") = false := by decide
  simp only [h1, h2, h3, Bool.or_false, Bool.false_eq_true, if_false]
  refine wpAny_bind (wpAny_pyIter_zip hz2 ?_)
  refine wpAny_bind (wpAny_holding ?_)
  unfold Builtin.List.listLengthHint
  refine wpAny_bind (wpAny_specialOf (T := "zip") ⟨_, hz2, rfl⟩ zip_no_len ?_)
  show wpAny _ _ (specialOf (Value.ref z) (Str.ofString "__length_hint__") >>= _) _ _ _
  refine wpAny_bind (wpAny_specialOf (T := "zip") ⟨_, hz2, rfl⟩ zip_no_hint ?_)
  refine wpAny_pure ?_
  show wpAny _ _ (rule "list.extend.makes-room" >>= fun _ => Builtin.List.listTouch (.ref s.heap.objs.size) >>= fun _ =>
    again (.builtin "list.extend.loop" ⟨[.ref s.heap.objs.size, .ref z, .none], []⟩)) _ _ _
  refine wpAny_bind (wpAny_rule ?_)
  refine wpAny_bind ?_
  show wpAny _ _ (updateSeq s.heap.objs.size (·.push .none) >>= fun _ => updateSeq s.heap.objs.size (·.pop)) _ _ _
  obtain ⟨zz, its, k, r3, hl3, e3⟩ := I2.lstM upd_same
  cases r3
  refine wpAny_bind (wpAny_updateSeq e3 rfl ?_)
  have I3 := I2.lset (f := (·.push Value.none)) (its' := [Value.none]) (ys := [.non]) (t' := s.toks) upd_same e3 (by simp) (.cons rfl .nil) (by rw [List.length_singleton, sizeLine_eq]; decide)
  obtain ⟨z4, its4, k4, r4, hl4, e4⟩ := I3.lstM upd_same
  obtain ⟨u4, rfl, ru4⟩ := r4.one
  refine wpAny_updateSeq e4 rfl ?_ (by show 1 ≤ sizeLine; rw [sizeLine_eq]; decide) (by show 0 ≤ sizeLine + 1; exact Nat.zero_le _)
  have I4 := I3.lset (f := (·.pop)) (its := [u4]) (its' := []) (ys := []) (t' := s.toks) upd_same e4 (by rfl) .nil (Nat.zero_le _)
  rw [upd_upd, upd_upd] at I4
  refine wpAny_pure ⟨plainId_quiet PySem.F.plain_extend_loop _, zip_loop (A1 := X.A.in1) (Rs := wants (fun r s₂ => r = .none ∧ EP X pins σ Q (.ref s.heap.objs.size) s₂) X.xe) (t := t) (u := u) (TI := TI) (TO := TO) (i1 := i1) (i2 := i2) (a := a) (b := b) (xs := xs) (ys := ys) hh D n1 n2 hqn hz G
    (fun as H' s' I' hl hq g => ⟨rfl, .ref s.heap.objs.size, H', I', rfl, gd as H' hl hq g⟩) gs gq (min xs.length ys.length) [] _ _ (by simp) I4 (fun c hc => ?_) ?_ upd_same g0⟩
  · have h := hf c hc
    exact ⟨by rw [upd_ne (hqn c hc)]; exact h.1, h.2⟩
  · refine st.keep (fun c ps e9 => by rw [upd_ne (ne_of_none e9 fr)]; exact e9) fun c hc o e9 => ?_
    exact (Heap.get?_update_other _ _ (Ne.symm (hqn c hc))).trans ((Heap.get?_update_other _ _ (Ne.symm (hqn c hc))).trans (kp2 c o (hqn c hc) e9))
end
end PV

end

section
set_option maxRecDepth 100000
namespace PV
open PySem PySem.Spec PyProof.Rows L2
def tListZip (K : PySem.W.Frag) (ta : TA) : TE := fun σ H Q => ta σ H fun vs H1 => ∃ t u a b xs ys, vs = [.ref a, .ref b] ∧ SqA K t H1 a xs ∧ SqA K u H1 b ys ∧ min xs.length ys.length < sizeLine ∧
  ∀ q, H1 q = none → ∃ G : List Addr → Hp → Prop, G [] (upd H1 q (.lst [])) ∧ (∀ as H T x y, G as H → H T = none → xs[as.length]? = some x → ys[as.length]? = some y → H q = some (.lst (as.map V.ref)) → G (as ++ [T]) (upd (upd H T (.tup [x, y])) q (.lst ((as ++ [T]).map V.ref)))) ∧
      (∀ as H, G as H → SqA K t H a xs ∧ SqA K u H b ys) ∧ ∀ as H', as.length = min xs.length ys.length → H' q = some (.lst (as.map V.ref)) → G as H' → Q (.ref q) H'
section
variable {X : Cx} {pos p p2 pos2 : Pos} {e e2 : Expr} {ta : TA}
theorem pe_listZip (hc : X.calm = true) (hg : Gl X "list") (hm : X.mg "list" = none) (hg2 : Gl X "zip") (hm2 : X.mg "zip" = none) (ha : PA X [e, e2] ta)
    (hs : starEach [.Call (.Name "zip" p2) [e, e2] [] pos2] X.env = (false, eval (.Call (.Name "zip" p2) [e, e2] [] pos2) X.env) :: starEach [] X.env := by rfl)
    (hs2 : starEach [e, e2] X.env = (false, eval e X.env) :: starEach [e2] X.env := by rfl) (hpl : (backTo pos2 (starEach [e2] X.env)).any (·.1) = false := by rfl) :
    PE X (.Call (.Name "list" p) [.Call (.Name "zip" p2) [e, e2] [] pos2] [] pos) (tListZip X.K ta) := by
  refine ⟨fun pins s σ H Q J h => ?_⟩
  refine wpAny_Call_Name_kw (ld_blt J hg hm PyProof.Rows.boot_list ?_)
  refine PyProof.Rows.callWith_type1 ?_ hs rfl
  rw [hs]
  show wpAny _ _ (spliced ((false, eval (.Call (.Name "zip" p2) [e, e2] [] pos2) X.env) :: backTo pos (starEach [] X.env))) _ _ s
  refine Calls.spliced_cons ?_
  refine Call_ (ld_blt J hg2 hm2 PyProof.Rows.boot_zip (PyProof.Rows.callWith_type1 (thn (ha.run pos2 pins s σ H _ J h) fun us s1 ⟨vs, H1, I1, r1, q1⟩ => ?_) hs2 hpl))
  obtain ⟨t, u, a, b, xs, ys, ex, hqx, hqy, hz, q⟩ := q1
  subst ex
  cases r1 with
  | cons r rr =>
    cases rr with
    | cons r' rr =>
      cases rr
      cases r
      cases r'
      obtain ⟨its, rv, p1, la⟩ := invA I1 hqx
      obtain ⟨its2, rv2, p2, lb⟩ := invA I1 hqy
      refine zip_begins2 (beginsA t a its.toArray) (beginsA u b its2.toArray) p1 p2 fun h' hz' hTI hTO h1 h2 hsz hk => ?_
      refine Calls.spliced_nil ?_
      have I2 : Inv X pins σ H1 { s1 with heap := h' } := I1.kept (t' := s1.toks) hk
      have mem : ∀ c ∈ [s1.heap.objs.size + 4, s1.heap.objs.size + 2, s1.heap.objs.size + 3, s1.heap.objs.size, s1.heap.objs.size + 1], s1.heap.objs.size ≤ c ∧ c < h'.objs.size := fun c hcm => by
        have e' : c = s1.heap.objs.size + 4 ∨ c = s1.heap.objs.size + 2 ∨ c = s1.heap.objs.size + 3 ∨ c = s1.heap.objs.size ∨ c = s1.heap.objs.size + 1 := by simpa using hcm
        have hsz' : h'.objs.size = s1.heap.objs.size + 5 := hsz
        omega
      exact call_listZ (s := { s1 with heap := h' }) (J.ok.hd hc) (zip_sep2 (fp1 := [a]) (fp2 := [b]) (by simpa using la) (by simpa using lb)) (Nat.ne_of_lt la) (Nat.ne_of_lt (Nat.lt_succ_of_lt lb)) hz I2
        (fun c hcm => I1.fpOk (mem c hcm).1 (I1.hok.fresh (mem c hcm).1)) (fun c hcm => (mem c hcm).2) hz' ⟨.inl ⟨hz', _, _, hTO⟩, hTI, ⟨_, hTO⟩, ItA.new h1, ItA.new h2⟩ q
end
/-! ### by the mirror -/
def gLstZip : List PV.D → Option OD
  | [d, e] => (seqOf d).bind fun xs => (seqOf e).bind fun ys => if xs.length ≤ size7 then some (.lst (zipD xs ys)) else none
  | _ => none
theorem gLstZip_inv {ds : List PV.D} {o : OD} (h : gLstZip ds = some o) : ∃ d e xs ys, ds = [d, e] ∧ seqOf d = some xs ∧ seqOf e = some ys ∧ xs.length ≤ size7 ∧ o = .lst (zipD xs ys) := by
  rcases ds with _ | ⟨d, _ | ⟨e, _ | ⟨f, r⟩⟩⟩
  · cases h
  · cases h
  · simp only [gLstZip] at h
    cases z1 : seqOf d with
    | none => rw [z1] at h; cases h
    | some xs =>
      cases z2 : seqOf e with
      | none => rw [z1, z2] at h; cases h
      | some ys =>
        rw [z1, z2] at h
        by_cases hl : xs.length ≤ size7
        · have e2 : some (OD.lst (zipD xs ys)) = some o := by rw [← h]; exact (if_pos hl).symm
          cases e2
          exact ⟨d, e, xs, ys, rfl, z1, z2, hl, rfl⟩
        · have e2 : none = some o := by rw [← h]; exact (if_neg hl).symm
          cases e2
  · cases h
theorem zipD_take_succ : ∀ (xs ys : List PV.D) (i : Nat) {x y : PV.D}, xs[i]? = some x → ys[i]? = some y → (zipD xs ys).take (i + 1) = (zipD xs ys).take i ++ [.tup [x, y]]
  | [], ys, i, x, y, h, _ => by simp at h
  | x :: xs, [], i, _, _, _, h => by simp at h
  | x :: xs, y :: ys, 0, _, _, h, h' => by
    simp at h h'
    subst h h'
    simp [zipD]
  | x :: xs, y :: ys, i + 1, _, _, h, h' => by
    simp at h h'
    simp only [zipD, List.take_succ_cons, List.cons_append]
    rw [zipD_take_succ xs ys i h h']
section
variable {X : Cx} {dk l : Addr} {W : WX} {pos p p2 pos2 : Pos} {e e2 : Expr}
theorem r_listZip {n : En → M (List PV.D)} (hc : X.calm = true) (hg : Gl X "list") (hm : X.mg "list" = none) (hg2 : Gl X "zip") (hm2 : X.mg "zip" = none) (ha : PA X [e, e2] (liftA X.K dk l W n))
    (hs : starEach [.Call (.Name "zip" p2) [e, e2] [] pos2] X.env = (false, eval (.Call (.Name "zip" p2) [e, e2] [] pos2) X.env) :: starEach [] X.env := by rfl)
    (hs2 : starEach [e, e2] X.env = (false, eval e X.env) :: starEach [e2] X.env := by rfl) (hpl : (backTo pos2 (starEach [e2] X.env)).any (·.1) = false := by rfl) :
    PE X (.Call (.Name "list" p) [.Call (.Name "zip" p2) [e, e2] [] pos2] [] pos) (liftO X.K dk l W (eMapO gLstZip n)) := PE_imp (pe_listZip hc hg hm hg2 hm2 ha hs hs2 hpl) fun σ H Q ⟨I, env, s, k, w, q⟩ => by
  refine ⟨I, env, s, k, w, q.bind.mono (fun ds s1 q vs I1 H1 x1 w1 r1 => ?_) fun _ _ _ h => h⟩
  obtain ⟨o, e1, q⟩ := q.opt
  obtain ⟨d, e, xs, ys, rfl, z1, z2, hl, rfl⟩ := gLstZip_inv e1
  obtain ⟨v, r', rfl, f1, v2, r2, rfl, f2, f3⟩ := r1
  have f4 : r2 = [] := f3
  subst f4
  obtain ⟨t, a, vs, rfl, g1, g2⟩ := seq_at w1 f1 z1
  obtain ⟨u, b, ws, rfl, g3, g4⟩ := seq_at w1 f2 z2
  refine ⟨t, u, a, b, vs, ws, rfl, g1.mono w1.sub, g3.mono w1.sub, ?_, fun D hD => ?_⟩
  · have h1 := g2.length
    exact Nat.lt_of_le_of_lt (Nat.min_le_left _ _) (by rw [← h1]; exact Nat.lt_of_le_of_lt hl (by decide))
  have n1 : D ≠ dk := (ne_of_none w1.dko hD).symm
  have n2 : D ≠ l := (ne_of_none w1.lft hD).symm
  have hHD : H D = none := by
    cases r : H D with
    | none => rfl
    | some u => rw [x1.keep D u r n1 n2] at hD; cases hD
  refine ⟨fun as H2 => as.length ≤ min vs.length ws.length ∧ ∃ I2, Ext dk l I1 H1 I2 H2 ∧ Wo dk l I2 H2 s1 ∧ I2 D = none ∧ H2 D = some (.lst (as.map V.ref)) ∧ RepL X.K I2 dk ((zipD xs ys).take as.length) (as.map V.ref), ?_, ?_, ?_, ?_⟩
  · exact ⟨Nat.zero_le _, I1, Ext.off w1 hD, w1.off (w1.sub.none hD) n1 n2, w1.sub.none hD, upd_same, by simp; rfl⟩
  · rintro as H2 T x y ⟨hle, I2, x2, w2, hI, hv, hr⟩ hT hx hy hq
    have hxl := (List.getElem?_eq_some_iff.mp hx).1
    have hyl := (List.getElem?_eq_some_iff.mp hy).1
    have hxs : as.length < xs.length := by rw [g2.length]; exact hxl
    have hys : as.length < ys.length := by rw [g4.length]; exact hyl
    obtain ⟨x', hx'⟩ : ∃ x, xs[as.length]? = some x := ⟨xs[as.length], by simp [hxs]⟩
    obtain ⟨y', hy'⟩ : ∃ y, ys[as.length]? = some y := ⟨ys[as.length], by simp [hys]⟩
    obtain ⟨xv, hxv, rx⟩ := g2.get hx'
    obtain ⟨yv, hyv, ry⟩ := g4.get hy'
    rw [hx] at hxv
    cases hxv
    rw [hy] at hyv
    cases hyv
    have xT : Ext dk l I2 H2 (upd I2 T (.tup [x, y])) (upd H2 T (.tup [x, y])) := Ext.new w2 hT
    have wT : Wo dk l (upd I2 T (.tup [x, y])) (upd H2 T (.tup [x, y])) s1 := w2.new hT
    have hTD : D ≠ T := ne_of_none hv hT
    have hI' : upd I2 T (.tup [x, y]) D = none := by rw [upd_ne hTD]; exact hI
    obtain ⟨x5, w5⟩ := fresh_off (x2.trans xT wT) wT hD n1 n2 (vs := as.map V.ref) hI' (by rw [upd_ne hTD]; exact hv) ((as ++ [T]).map V.ref)
    refine ⟨by rw [List.length_append, List.length_singleton]; omega, _, x5, w5, hI', upd_same, ?_⟩
    rw [List.length_append, List.length_singleton, zipD_take_succ xs ys as.length hx' hy', List.map_append]
    refine (RepL.mono xT.grow _ _ hr).append (RepL.one ⟨T, [x, y], rfl, upd_same, x, [y], rfl, Rep.mono (x2.grow.trans xT.grow) _ _ rx, y, [], rfl, Rep.mono (x2.grow.trans xT.grow) _ _ ry, rfl⟩)
  · rintro as H2 ⟨_, I2, x2, w2, _⟩
    exact ⟨(g1.mono x2.grow).mono w2.sub, (g3.mono x2.grow).mono w2.sub⟩
  · rintro as H2 hl2 hq ⟨_, I2, x2, w2, hI, hv, hr⟩
    have e9 : (zipD xs ys).take as.length = zipD xs ys := List.take_of_length_le (by rw [zipD_len, hl2, g2.length, g4.length]; exact Nat.le_refl _)
    rw [e9] at hr
    exact q D I2 H2 (x1.trans x2 w2) w2 hHD ⟨_, hv, hr⟩ n1 n2 hI
end
end PV

end

section
set_option maxRecDepth 100000
namespace PV
open PySem PySem.Spec PyProof.Rows L2

/-! ### dict(pairs) with tuple keys -/
def mergeT (kvs more : List (List Key × V)) : List (List Key × V) := more.foldl (fun acc kv => putK acc kv.1 kv.2) kvs
theorem length_mergeT : ∀ (more kvs : List (List Key × V)), (mergeT kvs more).length ≤ kvs.length + more.length
  | [], kvs => by show kvs.length ≤ kvs.length + 0; omega
  | p :: r, kvs => by
    have h1 := length_mergeT r (putK kvs p.1 p.2)
    have h2 := length_putK kvs p.1 p.2
    show (mergeT (putK kvs p.1 p.2) r).length ≤ _
    rw [List.length_cons]; omega
theorem KT.merge {H : Hp} : ∀ {more : List (List Key × V)} {ps : List (List Key × Addr × Value)} {kvs : List (List Key × V)} {xs : List (List Key × Addr × Value)}, KT H more ps → KT H kvs xs → KT H (mergeT kvs more) (storedAllH xs ps) := by
  intro more ps kvs xs r
  unfold KT at r
  induction r generalizing kvs xs with
  | nil => intro q; exact q
  | @cons p q ps qs h t ih =>
    intro r0
    have e : KT H (putK kvs p.1 p.2) (storedH xs q.1 q.2.1 q.2.2) := by
      rw [← h.1]
      exact r0.put p.1 h.2.1 h.2.2
    exact ih e
section
variable {X : Cx}
/-- the pairs of a list, as they stand in the heap -/
theorem pairsT_of {pins : List (Addr × Obj)} {σ : L2.St} {H : Hp} {s : Shared} (I : Inv X pins σ H s) : ∀ {ps : List Addr} {ts : List (List Key × Addr × V)}, Paired (fun p t => SqT X.K H p [.ref t.2.1, t.2.2] ∧ H t.2.1 = some (.tup (t.1.map kV))) ps ts →
    ∃ prs : List (List Key × Addr × Value), KT H (ts.map fun t => (t.1, t.2.2)) prs ∧ prs.length = ps.length ∧ (∀ (j : Nat) (q : List Key × Addr × Value), prs[j]? = some q → ∃ b : Addr, ps[j]? = some b ∧ PairAt s.heap b (.ref q.2.1) q.2.2) ∧ ∀ x ∈ prs, H x.2.1 = some (.tup (x.1.map kV))
  | _, _, .nil => ⟨[], .nil, rfl, fun j q e => by simp at e, fun x h => by simp at h⟩
  | _, _, .cons (a := p) (b := t) h r => by
    obtain ⟨prs, r1, hl, hp, hk⟩ := pairsT_of I r
    obtain ⟨its, rv, ht, _⟩ := I.tuple h.1
    obtain ⟨u, y, ei, ru, ry⟩ := vals2 rv
    subst ei
    cases ru
    refine ⟨(t.1, t.2.1, y) :: prs, .cons ⟨rfl, h.2, ry⟩ r1, by rw [List.length_cons, List.length_cons, hl], fun j q e => ?_, fun x hx => ?_⟩
    · cases j with
      | zero =>
        have e' : (t.1, t.2.1, y) = q := Option.some.inj e
        subst e'
        exact ⟨p, rfl, .inl ht⟩
      | succ j =>
        obtain ⟨b, e1, e2⟩ := hp j q (by simpa using e)
        exact ⟨b, by simpa using e1, e2⟩
    · rcases List.mem_cons.mp hx with e | hx
      · subst e; exact h.2
      · exact hk x hx
theorem call_dictT (hcalm : X.calm = true) (hu : X.A.units + 8 < cLine) : CallR X (.type "dict") (fun xs H Q => ∃ (a : Addr) (ps : List Addr) (ts : List (List Key × Addr × V)), xs = [.ref a] ∧ SqL X.K H a (ps.map V.ref) ∧ Paired (fun p t => SqT X.K H p [.ref t.2.1, t.2.2] ∧ H t.2.1 = some (.tup (t.1.map kV))) ps ts ∧
    ∀ p, H p = none → Q (.ref p) (upd H p (.dT (mergeT [] (ts.map fun t => (t.1, t.2.2)))))) := by
  intro pins s σ H xs us Q I r q
  obtain ⟨a, ps, ts, ex, hq, hp, q⟩ := q
  subst ex
  obtain ⟨u, eu, rx⟩ := vals1 r
  subst eu
  cases rx
  obtain ⟨its, rv, pl, hz⟩ := I.list hq
  have ei := refs_at rv
  subst ei
  rw [List.length_map] at hz
  obtain ⟨prs, rel, hl, hpr, hks⟩ := pairsT_of I hp
  obtain ⟨o, n, ho, hc, hd, hdat⟩ := pl
  have st := tupleKind_stays (prog := X.prog) (w := X.w) (knd := mixKind X.prog X.w)
  have his : ∀ x ∈ prs, (tupleKind (mixKind X.prog X.w)).is s.heap x.1 x.2.1 := fun x hx => key_of I.hok (hks x hx)
  refine call_dict_pairsH (knd := tupleKind (mixKind X.prog X.w)) (ps := prs) (PairArg.list (prog := X.prog) (w := X.w) a (ps.map Value.ref).toArray (fun j => ps.getD j 0) (prs.map fun x => (.ref x.2.1, x.2.2))) (I.ok.hd hcalm) ?_ ⟨⟨o, n, ho, hc, hd, hdat⟩, ?_⟩ ⟨by simp, fun i key v e => ?_⟩ (fun h' hk x hx => ?_) (by rw [List.length_map, hl]; exact hz) fun h' tk hd' k => ?_
  · exact tupleKind_room_in1 (A := X.A.in1) (by show X.A.units + 1 + 1 < cLine; omega)
  · refine ⟨by simp [hl], fun j kk v e => ?_⟩
    rw [List.getElem?_map] at e
    cases z : prs[j]? with
    | none => rw [z] at e; cases e
    | some x =>
      rw [z] at e
      cases e
      obtain ⟨b, e1, e2⟩ := hpr j x z
      have e3 : ps.getD j 0 = b := by rw [List.getD_eq_getElem?_getD, e1]; rfl
      show (List.map Value.ref ps).toArray[j]? = some (Value.ref (ps.getD j 0)) ∧ PairAt s.heap (ps.getD j 0) (Value.ref x.2.1) x.2.2
      rw [e3]
      exact ⟨by simp [e1], e2⟩
  · have e' : (prs.map fun x : List Key × Addr × Value => ((Value.ref x.2.1 : Value), x.2.2))[i]? = some (key, v) := e
    rw [List.getElem?_map] at e'
    cases z : prs[i]? with
    | none => rw [z] at e'; cases e'
    | some x =>
      rw [z] at e'
      cases e'
      exact ⟨x.1, x.2.1, rfl, rfl⟩
  · exact st.stays (fun b o' vs n' e z => hk b o' (Nat.ne_of_lt (Heap.lt_size e)) (fun y => nomatch y) e) (his x hx)
  · have hm : (s.heap.objs.size == sysModules) = false := beq_eq_false_iff_ne.mpr (Nat.ne_of_gt I.big)
    have hlen : (mergeT [] (ts.map fun t => (t.1, t.2.2))).length ≤ sizeLine := by
      refine Nat.le_trans (length_mergeT _ []) ?_
      rw [List.length_nil, Nat.zero_add, Paired.length rel, hl]
      exact hz
    have hn : H s.heap.objs.size = none := I.fresh
    obtain ⟨q1, es, ep, hq1, h2, h3, h4, _, h5⟩ := hd'
    exact ⟨.ref s.heap.objs.size, upd H s.heap.objs.size (.dT (mergeT [] (ts.map fun t => (t.1, t.2.2)))), I.laid (t' := tk) (fun b u e => k b u (fun z => nomatch z) e) (Nat.le_refl _) (show ObjOk X.prog X.w _ _ _ (.dT _) from ⟨hlen, hm, storedAllH [] prs, (KT.merge rel .nil).keeps fun c ys ec => by rw [upd_ne (ne_of_none ec hn)]; exact ec, q1, es, ep, hq1, h2, h3, h4, h5⟩), rfl, q _ hn⟩
end
/-! ### by the mirror -/
def putD {κ : Type} [DecidableEq κ] (kvs : List (κ × PV.D)) (k : κ) (v : PV.D) : List (κ × PV.D) :=
  if (kvs.any fun kv => decide (kv.1 = k)) = true then kvs.map (fun kv => if kv.1 = k then (kv.1, v) else kv) else kvs ++ [(k, v)]
def mergeD {κ : Type} [DecidableEq κ] (more : List (κ × PV.D)) : List (κ × PV.D) := more.foldl (fun acc kv => putD acc kv.1 kv.2) []
/-- the pairs that a list's items are -/
def pairsK : List PV.D → Option (List (Key × PV.D))
  | [] => some []
  | .tup [k, v] :: r => match keyD k, pairsK r with
    | some k, some rs => some ((k, v) :: rs)
    | _, _ => none
  | _ :: _ => none
def pairsT : List PV.D → Option (List (List Key × PV.D))
  | [] => some []
  | .tup [.tup ks, v] :: r => match keysD ks, pairsT r with
    | some k, some rs => some ((k, v) :: rs)
    | _, _ => none
  | _ :: _ => none
def gDictK : PV.D → Option OD
  | .lst ds => (pairsK ds).map fun kvs => .dK (mergeD kvs)
  | _ => none
def gDictT : PV.D → Option OD
  | .lst ds => (pairsT ds).map fun kvs => .dT (mergeD kvs)
  | _ => none
section
variable {K : PySem.W.Frag} {I : Hp} {dk : Addr}
theorem RepK.any {k : Key} : ∀ {kvs : List (Key × PV.D)} {ws : List (Key × V)}, RepK K I dk kvs ws → (kvs.any fun kv => decide (kv.1 = k)) = ws.any fun kv => decide (kv.1 = k)
  | [], _, h => by rw [show _ = [] from h]; rfl
  | (a, d) :: r, _, ⟨v, ws, e, h1, h2⟩ => by subst e; simp only [List.any_cons, RepK.any h2]
theorem RepT.any {k : List Key} : ∀ {kvs : List (List Key × PV.D)} {ws : List (List Key × V)}, RepT K I dk kvs ws → (kvs.any fun kv => decide (kv.1 = k)) = ws.any fun kv => decide (kv.1 = k)
  | [], _, h => by rw [show _ = [] from h]; rfl
  | (a, d) :: r, _, ⟨v, ws, e, h1, h2⟩ => by subst e; simp only [List.any_cons, RepT.any h2]
theorem RepK.app {k : Key} {d : PV.D} {v : V} (r : Rep K I dk d v) : ∀ {kvs : List (Key × PV.D)} {ws : List (Key × V)}, RepK K I dk kvs ws → RepK K I dk (kvs ++ [(k, d)]) (ws ++ [(k, v)])
  | [], _, h => by rw [show _ = [] from h]; exact ⟨v, [], rfl, r, rfl⟩
  | (a, d') :: rs, _, ⟨w, ws, e, h1, h2⟩ => by subst e; exact ⟨w, _, rfl, h1, RepK.app r h2⟩
theorem RepT.app {k : List Key} {d : PV.D} {v : V} (r : Rep K I dk d v) : ∀ {kvs : List (List Key × PV.D)} {ws : List (List Key × V)}, RepT K I dk kvs ws → RepT K I dk (kvs ++ [(k, d)]) (ws ++ [(k, v)])
  | [], _, h => by rw [show _ = [] from h]; exact ⟨v, [], rfl, r, rfl⟩
  | (a, d') :: rs, _, ⟨w, ws, e, h1, h2⟩ => by subst e; exact ⟨w, _, rfl, h1, RepT.app r h2⟩
theorem RepK.repl {k : Key} {d : PV.D} {v : V} (r : Rep K I dk d v) : ∀ {kvs : List (Key × PV.D)} {ws : List (Key × V)}, RepK K I dk kvs ws → RepK K I dk (kvs.map fun kv => if kv.1 = k then (kv.1, d) else kv) (ws.map fun kv => if kv.1 = k then (kv.1, v) else kv)
  | [], _, h => by rw [show _ = [] from h]; rfl
  | (a, d') :: rs, _, ⟨w, ws, e, h1, h2⟩ => by
    subst e
    have ih := RepK.repl (k := k) r h2
    by_cases ha : a = k
    · simp only [List.map_cons, ha, if_true]
      exact ⟨v, _, rfl, r, ih⟩
    · simp only [List.map_cons, ha, if_false]
      exact ⟨w, _, rfl, h1, ih⟩
theorem RepT.repl {k : List Key} {d : PV.D} {v : V} (r : Rep K I dk d v) : ∀ {kvs : List (List Key × PV.D)} {ws : List (List Key × V)}, RepT K I dk kvs ws → RepT K I dk (kvs.map fun kv => if kv.1 = k then (kv.1, d) else kv) (ws.map fun kv => if kv.1 = k then (kv.1, v) else kv)
  | [], _, h => by rw [show _ = [] from h]; rfl
  | (a, d') :: rs, _, ⟨w, ws, e, h1, h2⟩ => by
    subst e
    have ih := RepT.repl (k := k) r h2
    by_cases ha : a = k
    · simp only [List.map_cons, ha, if_true]
      exact ⟨v, _, rfl, r, ih⟩
    · simp only [List.map_cons, ha, if_false]
      exact ⟨w, _, rfl, h1, ih⟩
theorem RepK.put {k : Key} {d : PV.D} {v : V} {kvs : List (Key × PV.D)} {ws : List (Key × V)} (h : RepK K I dk kvs ws) (r : Rep K I dk d v) : RepK K I dk (putD kvs k d) (putK ws k v) := by
  unfold putD putK
  rw [h.any]
  by_cases hc : (ws.any fun kv => decide (kv.1 = k)) = true
  · rw [if_pos hc, if_pos hc]; exact RepK.repl r h
  · rw [if_neg hc, if_neg hc]; exact RepK.app r h
theorem RepT.put {k : List Key} {d : PV.D} {v : V} {kvs : List (List Key × PV.D)} {ws : List (List Key × V)} (h : RepT K I dk kvs ws) (r : Rep K I dk d v) : RepT K I dk (putD kvs k d) (putK ws k v) := by
  unfold putD putK
  rw [h.any]
  by_cases hc : (ws.any fun kv => decide (kv.1 = k)) = true
  · rw [if_pos hc, if_pos hc]; exact RepT.repl r h
  · rw [if_neg hc, if_neg hc]; exact RepT.app r h
theorem RepK.merge : ∀ {more : List (Key × PV.D)} {ms : List (Key × V)} {kvs : List (Key × PV.D)} {ws : List (Key × V)}, RepK K I dk more ms → RepK K I dk kvs ws → RepK K I dk (more.foldl (fun acc kv => putD acc kv.1 kv.2) kvs) (mergeK ws ms)
  | [], _, _, _, h, h' => by rw [show _ = [] from h]; exact h'
  | (a, d) :: r, _, kvs, ws, ⟨v, ms, e, h1, h2⟩, h' => by
    subst e
    show RepK K I dk (r.foldl (fun acc kv => putD acc kv.1 kv.2) (putD kvs a d)) (mergeK (putK ws a v) ms)
    exact RepK.merge (more := r) h2 (h'.put h1)
theorem RepT.merge : ∀ {more : List (List Key × PV.D)} {ms : List (List Key × V)} {kvs : List (List Key × PV.D)} {ws : List (List Key × V)}, RepT K I dk more ms → RepT K I dk kvs ws → RepT K I dk (more.foldl (fun acc kv => putD acc kv.1 kv.2) kvs) (mergeT ws ms)
  | [], _, _, _, h, h' => by rw [show _ = [] from h]; exact h'
  | (a, d) :: r, _, kvs, ws, ⟨v, ms, e, h1, h2⟩, h' => by
    subst e
    show RepT K I dk (r.foldl (fun acc kv => putD acc kv.1 kv.2) (putD kvs a d)) (mergeT (putK ws a v) ms)
    exact RepT.merge (more := r) h2 (h'.put h1)
theorem pairsK_form {d : PV.D} {ds : List PV.D} {kvs : List (Key × PV.D)} (h : pairsK (d :: ds) = some kvs) : ∃ k y, d = .tup [k, y] := by
  have go : ∀ (es : List PV.D), d = .tup es → ∃ k y, d = .tup [k, y] := fun es he => by
    subst he
    match es, h with
    | [k, y], _ => exact ⟨k, y, rfl⟩
    | [], h => simp only [pairsK] at h; cases h
    | [_], h => simp only [pairsK] at h; cases h
    | _ :: _ :: _ :: _, h => simp only [pairsK] at h; cases h
  cases d with
  | tup es => exact go es rfl
  | _ => simp only [pairsK] at h; cases h
theorem pairsK_rep {H : Hp} (sub : Sm I H) : ∀ {ds : List PV.D} {vs : List V} {kvs : List (Key × PV.D)}, RepL K I dk ds vs → pairsK ds = some kvs → ∃ (ps : List Addr) (ws : List (Key × V)), vs = ps.map V.ref ∧ Paired (fun p kv => SqT K H p [kV kv.1, kv.2]) ps ws ∧ RepK K I dk kvs ws
  | [], vs, kvs, r, h => by
    cases h
    exact ⟨[], [], by rw [show vs = [] from r]; rfl, .nil, rfl⟩
  | d :: ds, _, kvs, ⟨v, vs, e, h1, h2⟩, h => by
    subst e
    obtain ⟨k, y, rfl⟩ := pairsK_form h
    simp only [pairsK] at h
    cases z1 : keyD k with
    | none => rw [z1] at h; cases h
    | some kk =>
      cases z2 : pairsK ds with
      | none => rw [z1, z2] at h; cases h
      | some rs =>
        rw [z1, z2] at h
        cases h
        obtain ⟨ps, ws, e1, e2, e3⟩ := pairsK_rep sub h2 z2
        obtain ⟨a, us, rfl, f1, f2⟩ := h1
        obtain ⟨u1, r1, rfl, g1, u2, r2, rfl, g2, g3⟩ := f2
        have g4 : r2 = [] := g3
        subst g4
        have g5 := keyD_rep g1 z1
        subst g5
        exact ⟨a :: ps, (kk, u2) :: ws, by rw [e1]; rfl, .cons (SqT.of (sub _ _ f1)) e2, ⟨u2, ws, rfl, g2, e3⟩⟩
theorem pairsT_inv {d : PV.D} {ds : List PV.D} {kvs : List (List Key × PV.D)} (h : pairsT (d :: ds) = some kvs) : ∃ ks y k rs, d = .tup [.tup ks, y] ∧ keysD ks = some k ∧ pairsT ds = some rs ∧ kvs = (k, y) :: rs := by
  have go : ∀ (es : List PV.D), d = .tup es → ∃ ks y k rs, d = .tup [.tup ks, y] ∧ keysD ks = some k ∧ pairsT ds = some rs ∧ kvs = (k, y) :: rs := fun es he => by
    subst he
    rcases es with _ | ⟨a, _ | ⟨b, _ | ⟨c, r⟩⟩⟩
    · simp only [pairsT] at h; cases h
    · cases a <;> (simp only [pairsT] at h; cases h)
    · cases a with
      | tup ks =>
        simp only [pairsT] at h
        cases z1 : keysD ks with
        | none => rw [z1] at h; cases h
        | some k =>
          cases z2 : pairsT ds with
          | none => rw [z1, z2] at h; cases h
          | some rs =>
            rw [z1, z2] at h
            cases h
            exact ⟨ks, b, k, rs, rfl, z1, rfl, rfl⟩
      | _ => simp only [pairsT] at h; cases h
    · cases a <;> (simp only [pairsT] at h; cases h)
  cases d with
  | tup es => exact go es rfl
  | _ => simp only [pairsT] at h; cases h
theorem pairsT_rep {H : Hp} (sub : Sm I H) : ∀ {ds : List PV.D} {vs : List V} {kvs : List (List Key × PV.D)}, RepL K I dk ds vs → pairsT ds = some kvs → ∃ (ps : List Addr) (ts : List (List Key × Addr × V)), vs = ps.map V.ref ∧ Paired (fun p t => SqT K H p [.ref t.2.1, t.2.2] ∧ H t.2.1 = some (.tup (t.1.map kV))) ps ts ∧ RepT K I dk kvs (ts.map fun t => (t.1, t.2.2))
  | [], vs, kvs, r, h => by
    cases h
    exact ⟨[], [], by rw [show vs = [] from r]; rfl, .nil, rfl⟩
  | d :: ds, _, kvs, ⟨v, vs, e, h1, h2⟩, h => by
    subst e
    obtain ⟨ks, y, k, rs, rfl, z1, z2, rfl⟩ := pairsT_inv h
    obtain ⟨ps, ts, e1, e2, e3⟩ := pairsT_rep sub h2 z2
    obtain ⟨a, us, rfl, f1, f2⟩ := h1
    obtain ⟨u1, r1, rfl, g1, u2, r2, rfl, g2, g3⟩ := f2
    have g4 : r2 = [] := g3
    subst g4
    obtain ⟨b, bs, rfl, b1, b2⟩ := g1
    have b3 := keysD_rep b2 z1
    subst b3
    exact ⟨a :: ps, (k, b, u2) :: ts, by rw [e1]; rfl, .cons ⟨SqT.of (sub _ _ f1), sub _ _ b1⟩ e2, ⟨u2, _, rfl, g2, e3⟩⟩
end
section
variable {X : Cx} {dk l : Addr}
theorem ownD_new {I H : Hp} {s : Dk} {o : OD} {u : HO} {Q : VK} (w : Wo dk l I H s) (r : ∀ t, OwnAt X.K I (upd H t u) dk t o) (q : ∀ p I' H', Ext dk l I H I' H' → Wo dk l I' H' s → H p = none → OwnAt X.K I' H' dk p o → p ≠ dk → p ≠ l → I' p = none → Q (.ref p) H') : ∀ t, H t = none → Q (.ref t) (upd H t u) := fun t ht => by
  have n1 : t ≠ dk := (ne_of_none w.dko ht).symm
  have n2 : t ≠ l := (ne_of_none w.lft ht).symm
  have n3 : I t = none := w.sub.none ht
  exact q t I _ (Ext.off w ht) (w.off n3 n1 n2) ht (r t) n1 n2 n3
theorem c_dictK (hc : X.calm = true) : CallO X dk l (.type "dict") (g1O gDictK) := callO1 (call_dictP hc) fun I H s x v d Q w r e q => by
  cases x with
  | lst ds =>
    simp only [gDictK] at e
    cases z : pairsK ds with
    | none => rw [z] at e; cases e
    | some kvs =>
      rw [z] at e
      cases e
      obtain ⟨a, vs, rfl, h1, h2⟩ := r
      obtain ⟨ps, ws, rfl, h3, h4⟩ := pairsK_rep w.sub h2 z
      exact ⟨a, ps, ws, rfl, .of (w.sub _ _ h1), h3, ownD_new (X := X) (o := .dK (mergeD kvs)) w (fun t => ⟨_, upd_same, RepK.merge (kvs := []) (ws := []) h4 rfl⟩) q⟩
  | _ => cases e
theorem c_dictT (hc : X.calm = true) (hu : X.A.units + 8 < cLine) : CallO X dk l (.type "dict") (g1O gDictT) := callO1 (call_dictT hc hu) fun I H s x v d Q w r e q => by
  cases x with
  | lst ds =>
    simp only [gDictT] at e
    cases z : pairsT ds with
    | none => rw [z] at e; cases e
    | some kvs =>
      rw [z] at e
      cases e
      obtain ⟨a, vs, rfl, h1, h2⟩ := r
      obtain ⟨ps, ts, rfl, h3, h4⟩ := pairsT_rep w.sub h2 z
      exact ⟨a, ps, ts, rfl, .of (w.sub _ _ h1), h3, ownD_new (X := X) (o := .dT (mergeD kvs)) w (fun t => ⟨_, upd_same, RepT.merge (kvs := []) (ws := []) h4 rfl⟩) q⟩
  | _ => cases e
end
end PV

end

section
set_option maxRecDepth 100000
namespace PV
open PySem PySem.Spec PyProof.Rows L2

/-! ### the order of lists of ints -/
theorem lexLt_irr : ∀ a : List Int, HT.lexLt a a = false
  | [] => rfl
  | x :: r => by rw [HT.lexLt_cons, if_pos rfl]; exact lexLt_irr r
theorem lexLt_asym : ∀ a b : List Int, HT.lexLt a b = true → HT.lexLt b a = false
  | [], [], h => by cases h
  | [], _ :: _, _ => rfl
  | _ :: _, [], h => by cases h
  | x :: r, y :: t, h => by
    rw [HT.lexLt_cons] at h ⊢
    by_cases e : x = y
    · rw [if_pos e] at h
      rw [if_pos e.symm]
      exact lexLt_asym r t h
    · rw [if_neg e] at h
      rw [if_neg (Ne.symm e)]
      have := of_decide_eq_true h
      exact decide_eq_false (by omega)
/-- b is not below a, c not below b: c not below a -/
theorem lexLt_tr : ∀ a b c : List Int, HT.lexLt b a = false → HT.lexLt c b = false → HT.lexLt c a = false
  | [], b, c, _, _ => by cases c <;> rfl
  | x :: r, [], c, h, _ => by cases h
  | x :: r, y :: t, [], _, h => by cases h
  | x :: r, y :: t, z :: u, h1, h2 => by
    rw [HT.lexLt_cons] at h1 h2 ⊢
    by_cases e1 : y = x
    · rw [if_pos e1] at h1
      by_cases e2 : z = y
      · rw [if_pos e2] at h2
        rw [if_pos (e2.trans e1)]
        exact lexLt_tr r t u h1 h2
      · rw [if_neg e2] at h2
        rw [if_neg (fun z => e2 (z.trans e1.symm))]
        rw [← e1]
        exact h2
    · rw [if_neg e1] at h1
      have d1 := of_decide_eq_false h1
      by_cases e2 : z = y
      · rw [e2, if_neg e1]
        exact h1
      · rw [if_neg e2] at h2
        have d2 := of_decide_eq_false h2
        rw [if_neg (by omega)]
        exact decide_eq_false (by omega)
theorem swo_lexLt {α : Type} (k : α → List Int) : SrtO.Swo fun x y => HT.lexLt (k x) (k y) := ⟨fun x y h => lexLt_asym _ _ h, fun x y z h1 h2 => lexLt_tr _ _ _ h1 h2⟩
section
variable {prog : Program} {w : World} {A : Around} {E : Value → Shared → Prop} {s : Shared}
abbrev TI (h : Heap) (v : Value) (ns : List Int) : Prop := TS.TupInts h v ns
theorem cmp_one (hu : A.units < cLine) {v u : Value} {ns ms : List Int} {Q : Bool → Shared → Prop} (hv : TI s.heap v ns) (hw : TI s.heap u ms) (h : Q (HT.lexLt ns ms) s) : wpAny (model prog w) A (keyLt' oneType' v u) Q E s := by
  obtain ⟨a, xs, rfl, ta, ia⟩ := hv
  obtain ⟨b, ys, rfl, tb, ib⟩ := hw
  obtain ⟨⟨cls, dd, data, sl⟩, ho, hc, n, hd⟩ := ta
  obtain ⟨⟨cls2, dd2, data2, sl2⟩, ho2, hc2, n2, hd2⟩ := tb
  simp only at hc hd hc2 hd2
  subst hc hd hc2 hd2
  rw [keyLt'_oneType, oneLt'_eq]
  simp only [if_true]
  refine wpAny_bind (wpAny_cRoomFor hu ?_)
  refine wpAny_bind (wpAny_callSpecialIfBound?_slot (T := "tuple") ⟨_, ho, rfl⟩ PySem.F.slot_tuple_lt (call_meets PySem.F.slot_tuple_lt ⟨_, ho, rfl⟩ PySem.F.entry_tuple_lt (PySem.F.args_tuple_lt_2 _ _) (HT.tuple_lt_ints a b xs ys n n2 dd dd2 sl sl2 ns ms ia ib) ⟨ho, ho2, ?_⟩))
  exact wpAny_truthy_bool h
theorem cmp_gen (hu : A.units < cLine) {v u : Value} {ns ms : List Int} {Q : Bool → Shared → Prop} (hv : TI s.heap v ns) (hw : TI s.heap u ms) (h : Q (HT.lexLt ns ms) s) : wpAny (model prog w) A (keyLt' general' v u) Q E s := by
  obtain ⟨a, xs, rfl, ta, ia⟩ := hv
  obtain ⟨b, ys, rfl, tb, ib⟩ := hw
  exact PySem.W.kat_one _ _ (HT.lt_tupInts ta tb ia ib hu h)
theorem lex_go {b : Bool} {Q : Bool → Shared → Prop} : ∀ {xs ys : List Value} {ns ms : List Int} (i : Nat), IntsAre xs ns → IntsAre ys ms → ∀ (fin : Bool), (∀ k, ns = k ++ [] → True) → (fin = decide (ns.length < ms.length)) → Q (HT.lexLt ns ms) s → PySem.W.KatLex prog w A b fin Q (xs.zip ys) i s := by
  intro xs ys ns ms i hx hy fin _ hf h
  induction hx generalizing ys ms i with
  | nil =>
    cases hy with
    | nil =>
      refine PySem.W.kat_nil ?_
      rw [hf]
      exact h
    | @cons c u _ ms' t =>
      refine PySem.W.kat_nil ?_
      rw [hf]
      have e : decide (([] : List Int).length < (c :: ms').length) = true := decide_eq_true (by simp)
      rw [e]
      exact h
  | @cons a t _ ns' r ih =>
    cases hy with
    | nil =>
      rw [List.zip_nil_right]
      refine PySem.W.kat_nil ?_
      rw [hf]
      have e : decide ((a :: ns').length < ([] : List Int).length) = false := decide_eq_false (by simp)
      rw [e]
      exact h
    | cons c u r2 =>
      rw [HT.lexLt_cons] at h
      rw [List.zip_cons_cons]
      refine PySem.W.kat_cons ?_
      obtain ⟨e, he, hiff⟩ := HT.eqAt_int A s a t c u
      refine he prog w _ _ ?_
      refine PySem.W.kat_go (fun e1 => ?_) fun e1 => ?_
      · rw [if_pos (hiff.mp e1)] at h
        exact PySem.W.kat_yes (ih (i + 1) r2 (fun _ _ => trivial) (by rw [hf]; simp) h)
      · rw [if_neg (fun q => by rw [hiff.mpr q] at e1; cases e1)] at h
        exact PySem.W.kat_no (oneLt_any_int h)
theorem cmp_tup {v u : Value} {ns ms : List Int} {Q : Bool → Shared → Prop} {b : Bool} (hv : TI s.heap v ns) (hw : TI s.heap u ms) (h : Q (HT.lexLt ns ms) s) : wpAny (model prog w) A (keyLt' (tuples' b) v u) Q E s := by
  obtain ⟨a, xs, rfl, ⟨o, ho, hc, n, hd⟩, ia⟩ := hv
  obtain ⟨c, ys, rfl, ⟨o2, ho2, hc2, n2, hd2⟩, ib⟩ := hw
  refine PySem.W.kat_lt ho hd ho2 hd2 ?_
  have l1 := ia.length
  have l2 := ib.length
  rw [Array.length_toList] at l1 l2
  exact lex_go 0 ia ib _ (fun _ _ => trivial) (by rw [l1, l2]) h
/-- the first items of the keys -/
theorem firstsO {M : Model} {B : Around} : ∀ (vs : List Value) {Q : List (Option Value) → Shared → Prop}, (∀ v ∈ vs, ∃ ns, TI s.heap v ns) →
    (∀ fs : List (Option Value), fs.length = vs.length → (∀ (i : Nat) (v : Value), vs[i]? = some v → ∃ (a : Addr) (xs : Array Value), v = .ref a ∧ IsTup s.heap a xs ∧ fs[i]? = some xs[0]?) → Q fs s) → wpAny M B (vs.mapM firstOfTuple') Q E s
  | [], Q, _, h => by rw [List.mapM_nil]; exact wpAny_pure (h [] rfl fun i v e => by simp at e)
  | v :: vs, Q, t, h => by
    obtain ⟨ns, a, xs, rfl, ⟨o, ho, hc, n, hd⟩, _⟩ := t v List.mem_cons_self
    rw [List.mapM_cons]
    refine wpAny_bind ?_
    rw [PySem.W.kas_first_eq]
    refine wpAny_bind (PySem.W.Looks.here (show PySem.W.Looks M s.heap (typeOf (.ref a)) o.cls from (PySem.W.Looks.ld ho).andThen .now) ?_)
    rw [hc, if_neg (by first | decide | simp)]
    refine wpAny_bind (listItems_at ho hd (wpAny_pure ?_))
    refine wpAny_bind (firstsO vs (Q := fun bs s' => wpAny M B (pure (xs[0]? :: bs)) Q E s') (fun u hu => t u (List.mem_cons_of_mem _ hu)) fun fs hl hf => wpAny_pure (h _ (by simp [hl]) fun i u e => ?_))
    cases i with
    | zero =>
      cases e
      exact ⟨a, xs, rfl, ⟨o, ho, hc, n, hd⟩, rfl⟩
    | succ i => simpa using hf i u (by simpa using e)
/-- all keys have items -/
theorem firsts_all : ∀ (vs : List Value), (∀ v ∈ vs, ∃ ns, TI s.heap v ns ∧ ns ≠ []) → ∃ fs, PySem.W.KatTups s.heap vs fs ∧ fs.length = vs.length ∧ ∀ f, f ∈ fs → ∃ n t, f = Value.int n t
  | [], _ => ⟨[], PySem.W.KatTups.nil, rfl, fun f hf => by simp at hf⟩
  | v :: vs, x => by
    obtain ⟨fs, k, hl, hi⟩ := firsts_all vs fun u hu => x u (List.mem_cons_of_mem _ hu)
    obtain ⟨ns, ⟨a, xs, rfl, ⟨o, ho, hc, n, hdt⟩, i⟩, hn⟩ := x v (List.mem_cons_self ..)
    obtain ⟨m, r, rfl⟩ : ∃ m r, ns = m :: r := by
      cases ns with
      | nil => exact absurd rfl hn
      | cons m r => exact ⟨m, r, rfl⟩
    obtain ⟨t, ht⟩ := i.get 0 m rfl
    have ht' : xs[0]? = some (Value.int m t) := by simpa using ht
    exact ⟨Value.int m t :: fs, PySem.W.KatTups.cons ho hc hdt ht' k, by simp [hl], fun f hf => by
      rcases List.mem_cons.mp hf with e | hf
      · exact ⟨m, t, e⟩
      · exact hi f hf⟩
theorem tup_kind1 {vs : List Value} {Q : SortKind → Shared → Prop} (h2 : 2 ≤ vs.length) (x : ∀ v ∈ vs, ∃ ns, TI s.heap v ns ∧ ns ≠ []) (h : Q (tuples' true) s) : wpAny (model prog w) A (keyKind' vs.toArray) Q E s := by
  obtain ⟨fs, h1, hl, h3⟩ := firsts_all vs x
  refine PySem.W.kat_kind (T := .type "int") h1 (by omega) (fun f hm => ?_) (by rfl) ?_
  · obtain ⟨x, t, rfl⟩ := h3 f hm
    exact PySem.W.Looks.now
  · have e : (Value.type "int" != Value.type "tuple") = true := by first | decide +kernel | rfl | decide
    rw [e]
    exact h
theorem tup_kind2 {vs : List Value} {Q : SortKind → Shared → Prop} (x : ∀ v ∈ vs, ∃ ns, TI s.heap v ns) {j : Nat} {u : Value} (hj : vs[j]? = some u) (hu : TI s.heap u [])
    (h : ∀ v0 ns, vs[0]? = some v0 → TI s.heap v0 ns → Q (if ns = [] then oneType' else general') s) : wpAny (model prog w) A (keyKind' vs.toArray) Q E s := by
  rw [kat_kind_eq, List.mapM_toArray, map_eq_pure_bind]
  have none_of : ∀ (a : Addr) (xs : Array Value) (ns : List Int), IsTup s.heap a xs → TI s.heap (.ref a) ns → (xs[0]? = none ↔ ns = []) := fun a xs ns hT h => by
    obtain ⟨a', ys, ev2, hT2, hi2⟩ := h
    cases ev2
    have exy : xs = ys := by
      obtain ⟨o, h1, _, n1, d1⟩ := hT
      obtain ⟨o', h1', _, n2, d2⟩ := hT2
      rw [h1] at h1'
      cases h1'
      rw [d1] at d2
      cases d2
      rfl
    subst exy
    have hl := hi2.length
    rw [Array.length_toList] at hl
    constructor
    · intro e
      have : xs.size = 0 := by
        rcases Nat.eq_zero_or_pos xs.size with z | z
        · exact z
        · simp [Array.getElem?_eq_getElem z] at e
      exact List.eq_nil_of_length_eq_zero (by omega)
    · intro e
      subst e
      have h9 : xs.size = 0 := hl
      exact Array.getElem?_eq_none (by omega)
  refine wpAny_bind (wpAny_bind (firstsO vs x fun fs hl hf => wpAny_pure ?_))
  have isT : ∀ v ∈ vs, PySem.W.Looks (model prog w) s.heap (typeOf v) (.type "tuple") := fun v hv => by
    obtain ⟨ns, a, xs, rfl, ⟨o, ho, hc, _⟩, _⟩ := x v hv
    have q : PySem.W.Looks (model prog w) s.heap (typeOf (.ref a)) o.cls := (PySem.W.Looks.ld ho).andThen .now
    rw [hc] at q
    exact q
  obtain ⟨v0, r0, e0⟩ : ∃ v0 r0, vs = v0 :: r0 := by
    cases vs with
    | nil => simp at hj
    | cons a b => exact ⟨a, b, rfl⟩
  have h0v : vs[0]? = some v0 := by rw [e0]; rfl
  have hall : (fs.toArray.all fun x => x.isSome) = false := by
    obtain ⟨a, xs, ev, hT, hx⟩ := hf j u hj
    subst ev
    rw [(none_of a xs [] hT hu).mpr rfl] at hx
    cases hb : (fs.toArray.all fun x => x.isSome) with
    | false => rfl
    | true =>
      rw [List.all_toArray, List.all_eq_true] at hb
      have := hb none (List.mem_of_getElem? hx)
      cases this
  rw [hall, if_neg Bool.false_ne_true]
  obtain ⟨ns0, hn0⟩ := x v0 (by rw [e0]; exact List.mem_cons_self)
  obtain ⟨a, xs, ev, hT, hx⟩ := hf 0 v0 h0v
  subst ev
  have hx' : fs.toArray[0]? = some xs[0]? := by simpa using hx
  have hq := h (.ref a) ns0 h0v hn0
  rw [hx']
  by_cases hz : ns0 = []
  · rw [if_pos hz] at hq
    rw [(none_of a xs ns0 hT hn0).mpr hz]
    rw [if_neg (by simp), oneTypeOnly'_eq, List.mapM_toArray, map_eq_pure_bind]
    refine wpAny_bind (wpAny_bind (wpAny_bind (PySem.W.kas_mapM (r := Value.type "tuple") _ (fun v hv Q' hq => (isT v hv).here hq) (wpAny_pure ?_))))
    have hall2 : ((List.map (fun _ => Value.type "tuple") vs).toArray.all fun x => x == Value.type "tuple") = true := by
      simp only [List.all_toArray, List.all_map, List.all_eq_true]
      intro _ _
      rfl
    have h0 : (List.map (fun _ => Value.type "tuple") vs).toArray[0]? = some (Value.type "tuple") := by rw [e0]; simp
    rw [h0]
    simp only [hall2, if_true]
    exact wpAny_pure (wpAny_pure hq)
  · rw [if_neg hz] at hq
    cases hy : xs[0]? with
    | none => exact absurd ((none_of a xs ns0 hT hn0).mp hy) hz
    | some y =>
      rw [if_pos (by rfl)]
      exact wpAny_pure hq
/-- sortable -/
theorem tup_sortable (hu : A.units < cLine) {a : Addr} {vs : List Value} (k : Value → List Int) (h2 : 2 ≤ vs.length) (x : ∀ v ∈ vs, TI s.heap v (k v)) (ha : ∀ o, s.heap.get? a = some o → o.cls ≠ .type "tuple") : SrtO.SortableO prog w A s a vs fun v u => HT.lexLt (k v) (k u) := by
  intro h' keep
  have x' : ∀ v ∈ vs, TI h' v (k v) := fun v hm => (x v hm).keeps fun b o e c => keep b o (fun z => by subst z; exact ha o e c) e
  have key : ∀ κ : SortKind, (κ = general' ∨ κ = oneType' ∨ ∃ b, κ = tuples' b) → SrtO.Cmp prog w A { s with heap := h' } κ (fun p => p.1 ∈ vs) (SrtO.lt2 fun v u => HT.lexLt (k v) (k u)) := fun κ hκ p q hp hq => by
    rcases hκ with rfl | rfl | ⟨b, rfl⟩
    · exact cmp_gen (s := { s with heap := h' }) hu (x' _ hp) (x' _ hq) ⟨rfl, rfl⟩
    · exact cmp_one (s := { s with heap := h' }) hu (x' _ hp) (x' _ hq) ⟨rfl, rfl⟩
    · exact cmp_tup (s := { s with heap := h' }) (x' _ hp) (x' _ hq) ⟨rfl, rfl⟩
  by_cases hA : ∀ v ∈ vs, k v ≠ []
  · exact ⟨tuples' true, fun Q E hq => tup_kind1 (s := { s with heap := h' }) h2 (fun v hv => ⟨_, x' v hv, hA v hv⟩) hq, key _ (.inr (.inr ⟨_, rfl⟩))⟩
  · obtain ⟨u, hum, hu0⟩ : ∃ u, u ∈ vs ∧ k u = [] := by
      refine Classical.byContradiction fun hn => hA fun v hv e => hn ⟨v, hv, e⟩
    obtain ⟨j, hj⟩ := List.getElem?_of_mem hum
    have hu' : TI h' u [] := by rw [← hu0]; exact x' u hum
    obtain ⟨v0, r0, e0⟩ : ∃ v0 r0, vs = v0 :: r0 := by
      cases vs with
      | nil => simp at h2
      | cons a b => exact ⟨a, b, rfl⟩
    have ints1 : ∀ {ns ms : List Int}, TI h' v0 ns → TI h' v0 ms → ns = ms := fun h1 h2 => h1.ints.symm.trans h2.ints
    refine ⟨if k v0 = [] then oneType' else general', fun Q E hq => tup_kind2 (s := { s with heap := h' }) (fun v hv => ⟨_, x' v hv⟩) hj hu' fun v1 ns h1 hn => ?_, key _ ?_⟩
    · rw [e0] at h1
      cases h1
      rw [ints1 hn (x' v0 (by rw [e0]; exact List.mem_cons_self))]
      exact hq
    · by_cases hz : k v0 = []
      · rw [if_pos hz]; exact .inr (.inl rfl)
      · rw [if_neg hz]; exact .inl rfl
end
/-! ### sorted(..) over the layer -/
theorem perm_srtd_eq {α : Type} {lt : α → α → Bool} (tot : ∀ x y, lt x y = false → lt y x = false → x = y) : ∀ {l m : List α}, l.Perm m → l.Pairwise (fun x y => lt y x = false) → m.Pairwise (fun x y => lt y x = false) → l = m := by
  intro l
  induction l with
  | nil => intro m h _ _; exact (List.Perm.nil_eq h)
  | cons a l ih =>
    intro m h h1 h2
    cases m with
    | nil => exact absurd h.length_eq (by simp)
    | cons b m =>
      have hab : a = b := by
        have h1' := List.pairwise_cons.mp h1
        have h2' := List.pairwise_cons.mp h2
        rcases List.mem_cons.mp (h.mem_iff.mp List.mem_cons_self) with e | ha
        · exact e
        · rcases List.mem_cons.mp (h.mem_iff.mpr (List.mem_cons_self (a := b) (l := m))) with e | hb
          · exact e.symm
          · exact tot a b (h2'.1 a ha) (h1'.1 b hb)
      subst hab
      rw [ih ((List.perm_cons a).mp h) (List.pairwise_cons.mp h1).2 (List.pairwise_cons.mp h2).2]
theorem lexLt_tot : ∀ a b : List Int, HT.lexLt a b = false → HT.lexLt b a = false → a = b
  | [], [], _, _ => rfl
  | [], _ :: _, h, _ => by cases h
  | _ :: _, [], _, h => by cases h
  | x :: r, y :: t, h1, h2 => by
    rw [HT.lexLt_cons] at h1 h2
    by_cases e : x = y
    · rw [if_pos e] at h1
      rw [if_pos e.symm] at h2
      rw [e, lexLt_tot r t h1 h2]
    · rw [if_neg e] at h1
      rw [if_neg (Ne.symm e)] at h2
      have := of_decide_eq_false h1
      have := of_decide_eq_false h2
      omega
/-- the lists of ints in their order -/
def sortL (nss : List (List Int)) : List (List Int) := nss.mergeSort fun a b => !HT.lexLt b a
theorem sortL_perm (nss : List (List Int)) : (sortL nss).Perm nss := List.mergeSort_perm ..
theorem sortL_sorted (nss : List (List Int)) : (sortL nss).Pairwise fun a b => HT.lexLt b a = false := by
  have h := List.pairwise_mergeSort (le := fun a b : List Int => !HT.lexLt b a) (fun a b c h1 h2 => by
    simp only [Bool.not_eq_true'] at h1 h2 ⊢
    exact lexLt_tr a b c h1 h2) (fun a b => by
    cases h : HT.lexLt b a with
    | false => simp
    | true => simp [lexLt_asym b a h]) nss
  exact h.imp fun h => by simpa using h
def tupI (ns : List Int) : D := .tup (ns.map D.int)
def tupIs? : List D → Option (List (List Int))
  | [] => some []
  | .tup ds :: r => match ints? ds, tupIs? r with
    | some ns, some rs => some (ns :: rs)
    | _, _ => none
  | _ :: _ => none
section
variable {X : Cx} {dk l : Addr}
theorem tupIs_rep {K : PySem.W.Frag} {I H : Hp} (sub : Sm I H) : ∀ {ds : List D} {vs : List V} {nss : List (List Int)}, RepL K I dk ds vs → tupIs? ds = some nss → ∃ ts : List (Addr × List Int), vs = ts.map (fun p => V.ref p.1) ∧ nss = ts.map (·.2) ∧ ∀ p ∈ ts, I p.1 = some (.tup (p.2.map V.int))
  | [], vs, nss, r, h => by cases h; exact ⟨[], r, rfl, fun p h => by simp at h⟩
  | d :: ds, _, nss, ⟨v, vs, e, h1, h2⟩, h => by
    subst e
    cases d with
    | tup es =>
      simp only [tupIs?] at h
      cases z1 : ints? es with
      | none => rw [z1] at h; cases h
      | some ns =>
        cases z2 : tupIs? ds with
        | none => rw [z1, z2] at h; cases h
        | some rs =>
          rw [z1, z2] at h
          cases h
          obtain ⟨ts, e1, e2, e3⟩ := tupIs_rep sub h2 z2
          obtain ⟨a, us, rfl, f1, f2⟩ := h1
          rw [ints?_eq z1] at f2
          rw [f2.ints_of] at f1
          exact ⟨(a, ns) :: ts, by rw [e1]; rfl, by rw [e2]; rfl, fun p hp => by
            rcases List.mem_cons.mp hp with q | q
            · subst q; exact f1
            · exact e3 p q⟩
    | _ => simp only [tupIs?] at h; cases h
def ownTs (ts : List (Addr × List Int)) : List V := ts.map fun p => V.ref p.1
/-- sorted(xs), xs a list of tuples of ints -/
def rSortL (K : PySem.W.Frag) : List V → Hp → VK → Prop := fun vs H Q => ∃ (a : Addr) (ts : List (Addr × List Int)), vs = [V.ref a] ∧ SqL K H a (ownTs ts) ∧ (∀ p ∈ ts, H p.1 = some (.tup (p.2.map V.int))) ∧
  ∀ (us : List (Addr × List Int)) (p : Addr), (∀ q ∈ us, q ∈ ts) → us.map (·.2) = sortL (ts.map (·.2)) → H p = none → Q (.ref p) (upd H p (.lst (ownTs us)))
theorem vals_ownTs : ∀ {ts : List (Addr × List Int)} {us : List Value}, Vals (ownTs ts) us → us = ts.map fun p => Value.ref p.1
  | [], us, r => by cases r; rfl
  | t :: ts, us, r => by
    have r' : Vals (V.ref t.1 :: ownTs ts) us := r
    cases r' with
    | cons h q =>
      cases h
      rw [List.map_cons, ← vals_ownTs q]
theorem ownTs_vals : ∀ ts : List (Addr × List Int), Vals (ownTs ts) (ts.map fun p => Value.ref p.1)
  | [] => .nil
  | _ :: ts => .cons rfl (ownTs_vals ts)
theorem cr_sortL (hu : X.A.units + 8 < cLine) : CallR X (.builtin "sorted") (rSortL X.K) := by
  intro pins s σ H vs us Q I r h
  obtain ⟨a, ts, rfl, hs, hx, q⟩ := h
  obtain ⟨its, rv, hl, hz⟩ := I.list hs
  rw [Vals.ref1 r]
  have ei := vals_ownTs rv
  subst ei
  have ti : ∀ p ∈ ts, TI s.heap (.ref p.1) p.2 := fun p hp => by
    obtain ⟨its, rv, hT, _⟩ := I.tuple (SqT.of (K := X.K) (hx p hp))
    exact ⟨p.1, its.toArray, rfl, hT, by simpa using rv.ints⟩
  have tiv : ∀ v ∈ (ts.map fun p => Value.ref p.1), TI s.heap v (TS.intsOf s.heap v) := fun v hv => by
    obtain ⟨p, hp, rfl⟩ := List.mem_map.mp hv
    have := ti p hp
    rw [this.ints]
    exact this
  have hlen : (ts.map fun p => Value.ref p.1).length ≤ sizeLine := by
    have h1 := rv.length
    rw [← h1]
    exact hz
  refine SrtO.sorted_ord (swo_lexLt (TS.intsOf s.heap)) hl.isList hlen (fun h2 h₁ b hb kk => ?_) fun out hs hb => ?_
  · refine tup_sortable (s := { s with heap := h₁ }) (k := TS.intsOf s.heap) (by show X.A.units + 1 + 1 < cLine; omega) h2 (fun v hm => (tiv v hm).keeps fun b o e _ => (kk b o e).2) fun o e => ?_
    have e' : some o = some (seqObj "list" _ 0) := e.symm.trans hb
    cases e'
    intro c
    exact absurd (Value.type.inj c) (by decide)
  · have hp := hb.perm
    have mem : ∀ v ∈ out, ∃ p ∈ ts, v = Value.ref p.1 := fun v hv => by
      obtain ⟨p, hp, e⟩ := List.mem_map.mp (hp.mem_iff.mp hv)
      exact ⟨p, hp, e.symm⟩
    have lift : ∀ (o : List Value), (∀ v ∈ o, ∃ p ∈ ts, v = Value.ref p.1) → ∃ us : List (Addr × List Int), (∀ q ∈ us, q ∈ ts) ∧ o = us.map fun p => Value.ref p.1 := fun o => by
      induction o with
      | nil => exact fun _ => ⟨[], fun q h => by simp at h, rfl⟩
      | cons v o ih =>
        intro h
        obtain ⟨us, h1, h2⟩ := ih fun u hu => h u (List.mem_cons_of_mem _ hu)
        obtain ⟨p, hp, e⟩ := h v List.mem_cons_self
        exact ⟨p :: us, fun q hq => by
          rcases List.mem_cons.mp hq with z | z
          · subst z; exact hp
          · exact h1 q z, by rw [List.map_cons, ← h2, e]⟩
    obtain ⟨us, hus, eo⟩ := lift out mem
    subst eo
    have hints : ∀ zs : List (Addr × List Int), (∀ q ∈ zs, q ∈ ts) → (zs.map fun p => Value.ref p.1).map (TS.intsOf s.heap) = zs.map (·.2) := fun zs hz => by
      rw [List.map_map]
      exact List.map_congr_left fun p hp => (ti p (hz p hp)).ints
    have e1 : us.map (·.2) = sortL (ts.map (·.2)) := by
      refine perm_srtd_eq (lt := HT.lexLt) (fun x y h1 h2 => lexLt_tot x y h1 h2) ?_ ?_ (sortL_sorted _)
      · have h3 := hp.map (TS.intsOf s.heap)
        rw [hints us hus, hints ts fun q h => h] at h3
        exact h3.trans (sortL_perm _).symm
      · have h4 : ((us.map fun p => Value.ref p.1).map (TS.intsOf s.heap)).Pairwise fun a b => HT.lexLt b a = false := List.pairwise_map.mpr hs
        rw [hints us hus] at h4
        exact h4
    obtain ⟨ep, he'⟩ := sortedAll_at s.heap (ts.map fun p => Value.ref p.1) (us.map fun p => Value.ref p.1).toArray
    have hul : (ownTs us).length ≤ sizeLine := by
      have : us.length = ts.length := by
        have := hp.length_eq
        simpa using this
      unfold ownTs
      rw [List.length_map, this]
      simpa using hlen
    exact ⟨.ref _, upd H (s.heap.objs.size + 1) (.lst (ownTs us)), I.laid (t' := s.toks) (fun _ _ => sortedAll_old) (Nat.le_succ _) ⟨hul, us.map fun p => Value.ref p.1, ep, ownTs_vals us, by simpa using he'⟩, rfl, q us _ hus e1 (I.hok.fresh (Nat.le_succ _))⟩
def sortedT : D → Option OD
  | .lst ds => (tupIs? ds).map fun nss => .lst ((sortL nss).map tupI)
  | _ => none
theorem c_sortedT (hu : X.A.units + 8 < cLine) : CallO X dk l (.builtin "sorted") (g1O sortedT) := callO1 (cr_sortL hu) fun I H s x v d Q w r e q => by
  cases x with
  | lst ds =>
    simp only [sortedT] at e
    cases z : tupIs? ds with
    | none => rw [z] at e; cases e
    | some nss =>
      rw [z] at e
      cases e
      obtain ⟨a, vs, rfl, h1, h2⟩ := r
      obtain ⟨ts, rfl, rfl, h3⟩ := tupIs_rep w.sub h2 z
      refine ⟨a, ts, rfl, .of (w.sub _ _ h1), fun p hp => w.sub _ _ (h3 p hp), fun us p hus e1 hp => ?_⟩
      have q' : ∀ p I' H', Ext dk l I H I' H' → Wo dk l I' H' s → H p = none → OwnAt X.K I' H' dk p (.lst ((sortL (ts.map (·.2))).map tupI)) → p ≠ dk → p ≠ l → I' p = none → Q (.ref p) H' := q
      rw [← e1] at q'
      refine own_new w ?_ q' p hp
      have go : ∀ zs : List (Addr × List Int), (∀ q ∈ zs, q ∈ ts) → RepL X.K I dk ((zs.map (·.2)).map tupI) (ownTs zs) := fun zs => by
        induction zs with
        | nil => exact fun _ => rfl
        | cons z zs ih => exact fun hz => ⟨V.ref z.1, ownTs zs, rfl, ⟨z.1, _, rfl, h3 z (hz z List.mem_cons_self), RepL.ints _⟩, ih fun q hq => hz q (List.mem_cons_of_mem _ hq)⟩
      exact go us hus
  | _ => cases e
end
end PV

end

section
set_option maxRecDepth 100000
namespace PV
open PySem PySem.Spec PyProof.Rows L2
section
variable {X : Cx} {dk l : Addr} {W : WX} {pos : Pos}
/-! ### [x, ..] * n: a new list of one's own -/
def eOpO (g : D → D → Option OD) (a b : En → M D) : En → M OD := fun env => andThen (a env) fun x => andThen (b env) fun y => opt (g x y)
def gRepO : D → D → Option OD
  | .lst a, .int k => if 0 ≤ k ∧ k ≤ 1000 ∧ a.length ≤ 1000 then some (.lst (List.replicate k.toNat a).flatten) else none
  | _, _ => none
theorem r_repO {a b : Expr} {ma mb : En → M D} (ha : PE X a (lift X.K dk l W ma)) (hb : PE X b (lift X.K dk l W mb)) : PE X (.BinOp a .Mult b pos) (liftO X.K dk l W (eOpO gRepO ma mb)) := PE_imp (pe_op op_rep ha hb) fun σ H Q ⟨I, env, s, e, w, q⟩ => by
  refine ⟨I, env, s, e, w, q.bind.mono (fun x s1 q v I1 H1 x1 w1 r1 => ?_) fun _ _ _ h => h⟩
  refine ⟨I1, env, s1, e.ext x1, w1, q.bind.mono (fun y s2 q u I2 H2 x2 w2 r2 => ?_) fun _ _ _ h => h.shift x1⟩
  obtain ⟨o, e3, q⟩ := q.opt
  cases x with
  | lst ds =>
    cases y with
    | int k =>
      simp only [gRepO] at e3
      by_cases hc : 0 ≤ k ∧ k ≤ 1000 ∧ ds.length ≤ 1000
      · rw [if_pos hc] at e3
        cases e3
        obtain ⟨p, vs, rfl, h1, h2⟩ := Rep.mono x2.grow _ _ r1
        refine ⟨p, k, vs, rfl, r2, w2.sub _ _ h1, by omega, by omega, ?_, fun t ht => ?_⟩
        · rw [← h2.length]
          have h4 : ds.length * k.toNat ≤ 1000 * 1000 := Nat.mul_le_mul hc.2.2 (by omega)
          exact Nat.le_trans h4 (by decide)
        · refine own_new w2 (h2.rep k.toNat) (fun p I' H' x3 w3 hp ho n1 n2 n3 => q p I' H' ((x1.trans x2 w2).trans x3 w3) w3 ?_ ho n1 n2 n3) t ht
          cases z : H p with
          | none => rfl
          | some o =>
            have := (x1.trans x2 w2).keep p o z n1 n2
            rw [hp] at this
            cases this
      · rw [if_neg hc] at e3; cases e3
    | _ => cases e3
  | _ => cases e3
/-! ### xs.index(i) -/
def indexD : D → D → Option D
  | .lst ds, .int i => (ints? ds).bind fun ns => if i ∈ ns then some (.int (ns.idxOf i)) else none
  | _, _ => none
def eIndex (a b : En → M D) : En → M D := fun env => andThen (a env) fun x => match x with
  | .lst ds => andThen (b env) fun y => opt (indexD (.lst ds) y)
  | _ => bad
theorem eqV_int (i j : Int) : eqV (.int i) (.int j) = decide (i = j) := by
  by_cases h : i = j
  · subst h; simp [eqV]
  · simp [eqV, h]
theorem idx_le : ∀ (ns : List Int) (m : Nat) (h : m < ns.length), ns.idxOf ns[m] ≤ m
  | [], m, h => by simp at h
  | x :: ns, 0, h => by simp [List.idxOf_cons]
  | x :: ns, m + 1, h => by
    have ih := idx_le ns m (by simpa using h)
    simp only [List.getElem_cons_succ, List.idxOf_cons]
    generalize (x == ns[m]'(by simpa using h)) = c
    cases c <;> simp <;> omega
theorem flat_all (ns : List Int) : (ns.map V.int).all flatV = true := flat_ints ns
theorem r_index {o e : Expr} {apos cpos : Pos} {mo me : En → M D} (ho : PE X o (lift X.K dk l W mo)) (he : PE X e (lift X.K dk l W me))
    (hbase : attributeBase o "index" X.env (eval o X.env) = eval o X.env := by rfl)
    (hfew : ((backTo cpos (starEach [e] X.env)).all (fun x => !x.1) && (backToKw cpos (keywordEach [] X.env)).all (fun x => x.1.isSome)
      && decide ([e].length + ([] : List Keyword).length + (if ([] : List Keyword).isEmpty then 0 else 1) < 30)) = true := by rfl)
    (hline : (apos.endLine == cpos.line) = true := by rfl) (hs : starEach [e] X.env = (false, eval e X.env) :: starEach [] X.env := by rfl) (hplain : (backTo cpos (starEach [] X.env)).any (·.1) = false := by rfl) :
    PE X (.Call (.Attribute o "index" apos) [e] [] cpos) (lift X.K dk l W (eIndex mo me)) := PE_imp (pe_bm PySem.F.plainAttrs_list PySem.F.slot_list_index PySem.F.type_list_index mt_index ho (pa_cons he pa_nil hs) hbase hfew hline hs hplain) fun σ H Q ⟨I, env, s, k, w, q⟩ => by
  refine ⟨I, env, s, k, w, q.bind.mono (fun x s1 q v I1 H1 x1 w1 r1 => ?_) fun _ _ _ h => h⟩
  cases x with
  | lst ds =>
    obtain ⟨a, vs, rfl, h1, h2⟩ := r1
    refine ⟨.inl ⟨rfl, vs, .of (w1.sub _ _ h1)⟩, I1, env, s1, k.ext x1, w1, (show Post (andThen (me env) _ s1) _ _ from q).bind.mono (fun y s2 q u I2 H2 x2 w2 r2 => ?_) fun _ _ _ h => h.shift x1⟩
    obtain ⟨d, e4, q3⟩ := q.opt
    cases y with
    | int i =>
      simp only [indexD] at e4
      cases zi : ints? ds with
      | none => rw [zi] at e4; cases e4
      | some ns =>
        rw [zi] at e4
        simp only [Option.bind_some] at e4
        by_cases hm : i ∈ ns
        · rw [if_pos hm] at e4
          cases e4
          rw [ints?_eq zi] at h2
          have hv := h2.ints_of
          subst hv
          have hlt := List.idxOf_lt_length_of_mem hm
          refine ⟨a, ns.map V.int, .int i, ns.idxOf i, .int i, rfl, by rw [show u = _ from r2], .of (w2.sub _ _ (x2.grow _ _ h1)), rfl, flat_ints ns, ?_, by rw [eqV_int]; simp, fun m z' hm' hz' => ?_, q3 _ I2 H2 (x1.trans x2 w2) w2 rfl⟩
          · rw [List.getElem?_map, List.getElem?_eq_getElem hlt, List.getElem_idxOf]
            rfl
          · rw [List.getElem?_map] at hz'
            cases zz : ns[m]? with
            | none => rw [zz] at hz'; cases hz'
            | some j =>
              rw [zz] at hz'
              cases hz'
              rw [eqV_int]
              refine decide_eq_false fun e => ?_
              subst e
              obtain ⟨hml, he⟩ := List.getElem?_eq_some_iff.mp zz
              subst he
              exact absurd (idx_le ns m hml) (by omega)
        · rw [if_neg hm] at e4; cases e4
    | _ => cases e4
  | _ => exact q.elim
end
end PV

end

section
set_option maxRecDepth 100000
namespace PV
open PySem PySem.Spec PyProof.Rows L2
/-! ### what the printed texts use -/
section
variable {X : Cx} {dk l : Addr} {W : WX} {pos : Pos} {I0 H0 : Hp}
theorem pgN {t : Expr} {i : Nat} (h : PG X t (gName i)) : PG X t (gPat X.K (.nm i)) := h
theorem pgsN : PGs X [] (gPats X.K []) := pgs_nil
theorem pgsC {t : Expr} {ts : List Expr} {p : Pat} {ps : List Pat} (h : PG X t (gPat X.K p)) (h2 : PGs X ts (gPats X.K ps)) (hs : (assignEach (t :: ts) X.env).map (·.2) = assign t X.env :: (assignEach ts X.env).map (·.2) := by rfl) : PGs X (t :: ts) (gPats X.K (p :: ps)) := pgs_cons h h2 hs
theorem pgT {ts : List Expr} {k : Nat} {ps : List Pat} (hc : X.calm = true) (h : PGs X ts (gPats X.K ps)) (hn : (assignEach ts X.env).length = ps.length := by rfl) (hst : (assignEach ts X.env).findIdx? (·.1) = none := by rfl) : PG X (.Tuple ts k pos) (gPat X.K (.tp ps)) := pg_tup hc h hn hst
theorem pgmN : PGs X [] (gNms X.K []) := pgs_nil
theorem pgmC {t : Expr} {ts : List Expr} {i : Nat} {is : List Nat} (h : PG X t (gName i)) (h2 : PGs X ts (gNms X.K is)) (hs : (assignEach (t :: ts) X.env).map (·.2) = assign t X.env :: (assignEach ts X.env).map (·.2) := by rfl) : PGs X (t :: ts) (gNms X.K (i :: is)) := pgs_cons h h2 hs
theorem pgM {ts : List Expr} {k : Nat} {is : List Nat} (hc : X.calm = true) (h : PGs X ts (gNms X.K is)) (hn : (assignEach ts X.env).length = is.length := by rfl) (hst : (assignEach ts X.env).findIdx? (·.1) = none := by rfl) : PG X (.Tuple ts k pos) (gTup X.K is.length (gNms X.K is)) := pg_tup hc h hn hst
theorem r_int {i : Int} {j : Nat} : PE X (.Constant (.int i) j pos) (lift X.K dk l W (eC (.int i))) := r_const pe_int fun _ => rfl
theorem r_bl {b : Bool} {j : Nat} : PE X (.Constant (.bool b) j pos) (lift X.K dk l W (eC (.bl b))) := r_const pe_bl fun _ => rfl
theorem r_non {j : Nat} : PE X (.Constant .none j pos) (lift X.K dk l W (eC .non)) := r_const pe_non fun _ => rfl
theorem r_str {x : Str} {j : Nat} : PE X (.Constant (.str x) j pos) (lift X.K dk l W (eC (.str x))) := r_const pe_str fun _ => rfl
theorem r_globI {x : Str} {v : Int} {t : Tok} (hg : Gl X x) (hm : X.mg x = some (.int v t)) (hd : (x == ("__debug__" : Str)) = false := by decide) : PE X (.Name x pos) (lift X.K dk l W (eC (.int v))) := r_const (pe_glob (v := .int v) hg hm ⟨t, rfl⟩ hd) fun _ => rfl
def sBad : En → M Fl := fun _ => bad
theorem p_bad {st : Stmt} : PS X st (liftS X.K dk l W I0 H0 sBad) := ⟨fun pins s σ H Q J ⟨I, env, z, k, q⟩ => q.elim⟩
def negD : D → Option D
  | .int i => some (.int (-i))
  | _ => none
theorem r_neg {a : Expr} {m : En → M D} (h : PE X a (lift X.K dk l W m)) : PE X (.UnaryOp .USub a pos) (lift X.K dk l W (eUn negD m)) := PE_imp (pe_un un_neg h) fun σ H Q ⟨I, env, s, e, w, q⟩ => by
  refine ⟨I, env, s, e, w, q.bind.mono (fun x s1 q v I1 H1 x1 w1 r1 => ?_) fun _ _ _ h => h⟩
  obtain ⟨d, e2, q⟩ := q.opt
  cases x with
  | int i =>
    cases e2
    exact ⟨i, r1, q _ I1 H1 x1 w1 rfl⟩
  | _ => cases e2
def orO (g g' : List D → Option OD) : List D → Option OD := fun ds => match g ds with
  | some o => some o
  | none => g' ds
theorem callO_or {f : Value} {g g' : List D → Option OD} (c : CallO X dk l f g) (c' : CallO X dk l f g') : CallO X dk l f (orO g g') := by
  obtain ⟨r, hr, h⟩ := c
  obtain ⟨r', hr', h'⟩ := c'
  refine ⟨fun xs H Q => r xs H Q ∨ r' xs H Q, fun pins z σ H xs us Q I v q => q.elim (hr pins z σ H xs us Q I v) (hr' pins z σ H xs us Q I v), fun I H s ds vs d Q w rs e q => ?_⟩
  unfold orO at e
  cases z : g ds with
  | some o =>
    rw [z] at e
    exact .inl (h I H s ds vs d Q w rs (by rw [z]; exact e) q)
  | none =>
    rw [z] at e
    exact .inr (h' I H s ds vs d Q w rs e q)
def gSorted : List D → Option OD := orO (g1O sortedD) (g1O sortedT)
theorem c_sorted (hu : X.A.units + 8 < cLine) : CallO X dk l (.builtin "sorted") gSorted := callO_or c_sortedI (c_sortedT hu)
def gDict : List D → Option OD := orO (g1O gDictK) (g1O gDictT)
theorem c_dict (hc : X.calm = true) (hu : X.A.units + 8 < cLine) : CallO X dk l (.type "dict") gDict := callO_or (c_dictK hc) (c_dictT hc hu)
def cN (n : Nat) (F : List D → M D) : List D → M D := fun ds => if ds.length = n then F ds else bad
end
/-! ### x = [comprehension], x a plain local name -/
section
variable {X : Cx} {dk l : Addr} {W : WX} {I0 H0 : Hp} {i : Nat} {y : Str} {py pos spos : Pos} {elt tg iter tg1 iter1 : Expr} {ifs ifs1 : List Expr} {scope : Scope} {own : List (Str × Nat)} {vs1 : List Nat} {mi mi1 : En → M (List D)} {p p1 : Pat} {mt mt1 : En → M Bool} {me : En → M D}
theorem p_setLcO (hc : X.calm = true) (hN : X.N.Nodup) (hy : X.N[i]? = some y) (hyl : X.env.scope.names.lookup y = some .local) (hsw : swapsWith (.ListComp elt [⟨tg, iter, ifs, 0⟩] scope pos) (some (.Name y py)) spos.line X.env = pure true) (hi : PI X tg iter (liftB X.K dk l W mi)) (ok : BlkOk X.N X.env.scope scope own)
    (hg : ∀ (s : Shared) (H : Hp) (C : Addr) (cl : List (Str × Addr)) (fp : List Addr), PG (X.blk s H scope (compEnvC scope cl C X.env) fp) tg (gPat X.K p)) (ht : ∀ (s : Shared) (H : Hp) (C : Addr) (cl : List (Str × Addr)) (fp : List Addr), PTs (X.blk s H scope (compEnvC scope cl C X.env) fp) ifs (liftT X.K dk l W0 mt))
    (he : ∀ (s : Shared) (H : Hp) (C : Addr) (cl : List (Str × Addr)) (fp : List Addr), PE (X.blk s H scope (compEnvC scope cl C X.env) fp) elt (lift X.K dk l W0 me)) (hp : ∀ i ∈ p.ix, i ∈ own.map (·.2)) (hs : ∀ x, foldedSetIterable iter X.env x = pure x := by intro _; rfl) :
    PS X (.Assign [.Name y py] (.ListComp elt [⟨tg, iter, ifs, 0⟩] scope pos) spos) (liftS X.K dk l W I0 H0 (sAsgO i (eLc mi p (own.map (·.2)) mt me))) :=
  PS_imp (ps_setLc hc hN hy hyl hsw hi ok hg ht he hs) fun D σ H h => lc_read hp σ H _ (asgO_read D σ H h)
theorem p_setLcV (hc : X.calm = true) (hN : X.N.Nodup) (hy : X.N[i]? = some y) (hyl : X.env.scope.names.lookup y = some .local) (hsw : swapsWith (.ListComp elt [⟨tg, iter, ifs, 0⟩] scope pos) (some (.Name y py)) spos.line X.env = pure true) (hi : PI X tg iter (liftB X.K dk l W mi)) (ok : BlkOk X.N X.env.scope scope own)
    (hg : ∀ (s : Shared) (H : Hp) (C : Addr) (cl : List (Str × Addr)) (fp : List Addr), PG (X.blk s H scope (compEnvC scope cl C X.env) fp) tg (gPat X.K p)) (ht : ∀ (s : Shared) (H : Hp) (C : Addr) (cl : List (Str × Addr)) (fp : List Addr), PTs (X.blk s H scope (compEnvC scope cl C X.env) fp) ifs (liftT X.K dk l W0 mt))
    (he : ∀ (s : Shared) (H : Hp) (C : Addr) (cl : List (Str × Addr)) (fp : List Addr), PE (X.blk s H scope (compEnvC scope cl C X.env) fp) elt (lift X.K dk l W0 me)) (hp : ∀ i ∈ p.ix, i ∈ own.map (·.2)) (hs : ∀ x, foldedSetIterable iter X.env x = pure x := by intro _; rfl) :
    PS X (.Assign [.Name y py] (.ListComp elt [⟨tg, iter, ifs, 0⟩] scope pos) spos) (liftS X.K dk l W I0 H0 (sAsg (.nm i) (eFrz (eLc mi p (own.map (·.2)) mt me)))) :=
  PS_imp (ps_setLc hc hN hy hyl hsw hi ok hg ht he hs) fun D σ H h => lc_read hp σ H _ (frz_read σ H _ (asg_read (p := .nm i) D σ H h))
theorem p_setLc2O (hc : X.calm = true) (hN : X.N.Nodup) (hy : X.N[i]? = some y) (hyl : X.env.scope.names.lookup y = some .local) (hsw : swapsWith (.ListComp elt [⟨tg, iter, ifs, 0⟩, ⟨tg1, iter1, ifs1, 0⟩] scope pos) (some (.Name y py)) spos.line X.env = pure true) (hi : PI X tg iter (liftB X.K dk l W mi)) (ok : BlkOk X.N X.env.scope scope own) (hvs : ∀ i ∈ vs1, i ∈ own.map (·.2))
    (hg : ∀ (s : Shared) (H : Hp) (C : Addr) (cl : List (Str × Addr)) (fp : List Addr), PG (X.blk s H scope (compEnvC scope cl C X.env) fp) tg (gPat X.K p)) (ht : ∀ (s : Shared) (H : Hp) (C : Addr) (cl : List (Str × Addr)) (fp : List Addr), PTs (X.blk s H scope (compEnvC scope cl C X.env) fp) ifs (liftT X.K dk l W0 mt))
    (hi1 : ∀ (s : Shared) (H : Hp) (C : Addr) (cl : List (Str × Addr)) (fp : List Addr), PI (X.blk s H scope (compEnvC scope cl C X.env) fp) tg1 iter1 (liftB X.K dk l W0 mi1))
    (hg1 : ∀ (s : Shared) (H : Hp) (C : Addr) (cl : List (Str × Addr)) (fp : List Addr), PG (X.blk s H scope (compEnvC scope cl C X.env) fp) tg1 (gPat X.K p1)) (ht1 : ∀ (s : Shared) (H : Hp) (C : Addr) (cl : List (Str × Addr)) (fp : List Addr), PTs (X.blk s H scope (compEnvC scope cl C X.env) fp) ifs1 (liftT X.K dk l W0 mt1))
    (he : ∀ (s : Shared) (H : Hp) (C : Addr) (cl : List (Str × Addr)) (fp : List Addr), PE (X.blk s H scope (compEnvC scope cl C X.env) fp) elt (lift X.K dk l W0 me)) (hp : ∀ i ∈ p.ix, i ∈ own.map (·.2)) (hp1 : ∀ i ∈ p1.ix, i ∈ vs1)
    (hs : ∀ x, foldedSetIterable iter X.env x = pure x := by intro _; rfl) (hs1 : ∀ env x, foldedSetIterable iter1 env x = pure x := by intro _ _; rfl) :
    PS X (.Assign [.Name y py] (.ListComp elt [⟨tg, iter, ifs, 0⟩, ⟨tg1, iter1, ifs1, 0⟩] scope pos) spos) (liftS X.K dk l W I0 H0 (sAsgO i (eLc2 mi p (own.map (·.2)) mt mi1 vs1 p1 mt1 me))) :=
  PS_imp (ps_setLc2 hc hN hy hyl hsw hi ok hvs hg ht hi1 hg1 ht1 he hs hs1) fun D σ H h => lc2_read hvs hp hp1 σ H _ (asgO_read D σ H h)
theorem p_setLc2V (hc : X.calm = true) (hN : X.N.Nodup) (hy : X.N[i]? = some y) (hyl : X.env.scope.names.lookup y = some .local) (hsw : swapsWith (.ListComp elt [⟨tg, iter, ifs, 0⟩, ⟨tg1, iter1, ifs1, 0⟩] scope pos) (some (.Name y py)) spos.line X.env = pure true) (hi : PI X tg iter (liftB X.K dk l W mi)) (ok : BlkOk X.N X.env.scope scope own) (hvs : ∀ i ∈ vs1, i ∈ own.map (·.2))
    (hg : ∀ (s : Shared) (H : Hp) (C : Addr) (cl : List (Str × Addr)) (fp : List Addr), PG (X.blk s H scope (compEnvC scope cl C X.env) fp) tg (gPat X.K p)) (ht : ∀ (s : Shared) (H : Hp) (C : Addr) (cl : List (Str × Addr)) (fp : List Addr), PTs (X.blk s H scope (compEnvC scope cl C X.env) fp) ifs (liftT X.K dk l W0 mt))
    (hi1 : ∀ (s : Shared) (H : Hp) (C : Addr) (cl : List (Str × Addr)) (fp : List Addr), PI (X.blk s H scope (compEnvC scope cl C X.env) fp) tg1 iter1 (liftB X.K dk l W0 mi1))
    (hg1 : ∀ (s : Shared) (H : Hp) (C : Addr) (cl : List (Str × Addr)) (fp : List Addr), PG (X.blk s H scope (compEnvC scope cl C X.env) fp) tg1 (gPat X.K p1)) (ht1 : ∀ (s : Shared) (H : Hp) (C : Addr) (cl : List (Str × Addr)) (fp : List Addr), PTs (X.blk s H scope (compEnvC scope cl C X.env) fp) ifs1 (liftT X.K dk l W0 mt1))
    (he : ∀ (s : Shared) (H : Hp) (C : Addr) (cl : List (Str × Addr)) (fp : List Addr), PE (X.blk s H scope (compEnvC scope cl C X.env) fp) elt (lift X.K dk l W0 me)) (hp : ∀ i ∈ p.ix, i ∈ own.map (·.2)) (hp1 : ∀ i ∈ p1.ix, i ∈ vs1)
    (hs : ∀ x, foldedSetIterable iter X.env x = pure x := by intro _; rfl) (hs1 : ∀ env x, foldedSetIterable iter1 env x = pure x := by intro _ _; rfl) :
    PS X (.Assign [.Name y py] (.ListComp elt [⟨tg, iter, ifs, 0⟩, ⟨tg1, iter1, ifs1, 0⟩] scope pos) spos) (liftS X.K dk l W I0 H0 (sAsg (.nm i) (eFrz (eLc2 mi p (own.map (·.2)) mt mi1 vs1 p1 mt1 me)))) :=
  PS_imp (ps_setLc2 hc hN hy hyl hsw hi ok hvs hg ht hi1 hg1 ht1 he hs hs1) fun D σ H h => lc2_read hvs hp hp1 σ H _ (frz_read σ H _ (asg_read (p := .nm i) D σ H h))
end
/-! ### a, b = e1, e2 with plain local names: no pair is laid -/
section
variable {X : Cx} {dk l : Addr} {W : WX} {I0 H0 : Hp} {pos : Pos}
theorem bind2_set {I H : Hp} {s : Dk} : ∀ (is : List Nat) (xs : List It2) (vs : List V) (env env' : En) (σ : L2.St) (Q : L2.St → Hp → Prop), SOk X.K dk l I0 H0 I H env σ s → Rep2 X.K dk l I H xs vs → New2 H0 xs vs → bind2 is xs env = some env' →
    (∀ p, V.ref p ∈ vs → I p = none → ∀ (j : Nat) (u : OD), env[j]? = some (.own u) → σ[j]? ≠ some (some (.ref p))) → (∀ σ', SOk X.K dk l I0 H0 I H env' σ' s → Q σ' H) → gNms X.K is vs σ H Q := bind2_ok
theorem p_par2 {i j : Nat} {x y : Str} {a b : Expr} {m : En → M (List It2)} {px py pt : Pos} {kt k2 pt2} (hc : X.calm = true) (hN : X.N.Nodup) (hi : X.N[i]? = some x) (hj : X.N[j]? = some y) (hij : i ≠ j)
    (hx : X.env.scope.names.lookup x = some .local) (hy : X.env.scope.names.lookup y = some .local) (ha : PA X [a, b] (lift2 X.K dk l W m))
    (hw : swappedStores [.Tuple [.Name x px, .Name y py] kt pt] (.Tuple [a, b] k2 pt2) X.env = pure (some [x, y]))
    (hs : swapsWithSole [.Tuple [.Name x px, .Name y py] kt pt] (.Tuple [a, b] k2 pt2) pos.line X.env = pure false := by rfl) :
    PS X (.Assign [.Tuple [.Name x px, .Name y py] kt pt] (.Tuple [a, b] k2 pt2) pos) (liftS X.K dk l W I0 H0 (sAsg2 [i, j] m)) := PS_imp (ps_par hc hN hi hj hij hx hy ha hw hs) fun D σ H ⟨I, env, s, k, q⟩ => by
  refine ⟨I, env, s, k.eok, k.wo, q.bind.mono (fun xs s1 q vs I1 H1 x1 w1 r1 nw => ?_) fun _ _ _ h => k.exq h⟩
  by_cases hl : xs.length ≤ 1000
  · simp only [hl, if_true] at q
    obtain ⟨e2, e3, q⟩ := q.bind.opt
    have h := bind2_ok [i, j] xs vs env e2 σ (fun σ' H' => D.nx σ' H') (k.grow x1 w1) r1 (New2.back k.ext r1 nw) e3 (fun p hp hi' j' u h => ?_) fun σ' k' => q σ' I1 H1 x1.grow k'
    · obtain ⟨v, ws, e4, v2, ws2, e5, e6, e7⟩ := h
      have e8 : ws2 = [] := e6
      subst e5 e8
      exact ⟨v, v2, e4, e7⟩
    · by_cases hk : p = dk
      · intro z
        obtain ⟨p', g1, g2, g3, _⟩ := k.eok.own j' u h
        rw [z] at g1
        cases g1
        exact g3 hk
      · exact New2.ap k.eok r1 nw p hp hi' hk j' u h
  · simp only [hl, if_false] at q
    exact q.elim
end
/-- keywords bind -/
theorem bindsK {K : PySem.W.Frag} {x qual : Str} {st : Stmt} {f : Addr} {fd : FuncData} {ps : List Str} (F : Fun K x qual st f fd) (ks : List Str) (π : List Nat)
    (h : ∀ (kV doc pm : Value) (an : Option Addr) (cdv ct : Value) (us : List Value), (permL π us).length = ps.length → bindArgs (PySem.W.fnOf x qual (defArgs st) (defBody st) (defScope st) .none kV doc pm an cdv ct) ⟨[], ks.zip us⟩ = pure (ps.zip (permL π us))) :
    ∀ ws : List Value, (permL π ws).length = ps.length → bindArgs fd ⟨[], ks.zip ws⟩ = pure (ps.zip (permL π ws)) := by
  obtain ⟨oc, od, kV, doc, pm, an, cdv, ct, osl, rfl, lk, hcd⟩ := F.ex
  exact h kV doc pm an cdv ct
end PV

end

section
set_option maxRecDepth 100000
namespace PV
open PySem PySem.Spec PyProof.Rows L2
/-! ### stores into a dict of one's own -/
def ownD (env : En) (i : Nat) : Option OD := match env[i]? with
  | some (.own o) => some o
  | _ => none
theorem ownD_eq {env : En} {i : Nat} {o : OD} (h : ownD env i = some o) : env[i]? = some (.own o) := by
  unfold ownD at h
  cases z : env[i]? with
  | none => rw [z] at h; cases h
  | some y =>
    rw [z] at h
    cases y with
    | no => cases h
    | val d => cases h
    | own o => cases h; rfl
def dput : OD → D → D → Option OD
  | .dK kvs, x, d => (keyD x).bind fun k => if kvs.length < size7 then some (.dK (putD kvs k d)) else none
  | .dT kvs, .tup ks, d => (keysD ks).bind fun k => if kvs.length < size7 then some (.dT (putD kvs k d)) else none
  | _, _, _ => none
def sDput (i : Nat) (mi mv : En → M D) : En → M Fl := fun env => andThen (opt (ownD env i)) fun o => andThen (mv env) fun d => andThen (mi env) fun x => andThen (opt (dput o x d)) fun u => ret (.nx (env.set i (.own u)))
theorem RepK.len {K : PySem.W.Frag} {I : Hp} {dk : Addr} : ∀ {kvs : List (Key × D)} {ws : List (Key × V)}, RepK K I dk kvs ws → kvs.length = ws.length
  | [], _, h => by rw [show _ = [] from h]; rfl
  | (k, d) :: r, _, ⟨v, ws, e, h1, h2⟩ => by subst e; rw [List.length_cons, List.length_cons, RepK.len h2]
theorem RepT.len {K : PySem.W.Frag} {I : Hp} {dk : Addr} : ∀ {kvs : List (List Key × D)} {ws : List (List Key × V)}, RepT K I dk kvs ws → kvs.length = ws.length
  | [], _, h => by rw [show _ = [] from h]; rfl
  | (k, d) :: r, _, ⟨v, ws, e, h1, h2⟩ => by subst e; rw [List.length_cons, List.length_cons, RepT.len h2]
section
variable {X : Cx} {dk l : Addr} {W : WX} {pos : Pos} {I0 H0 : Hp} {o e : Expr} {i : Nat}
theorem p_dput {ie : Expr} {spos : Pos} {mi mv : En → M D} (hu : X.A.units + 1 < cLine) (ho : PE X o (tVar i)) (hi : PE X ie (lift X.K dk l W mi)) (he : PE X e (lift X.K dk l W mv))
    (hs : swapsWith e (some (.Subscript o ie spos)) pos.line X.env = pure false := by rfl) :
    PS X (.Assign [.Subscript o ie spos] e pos) (liftS X.K dk l W I0 H0 (sDput i mi mv)) := PS_imp (ps_dput hu ho hi he hs) fun D σ H ⟨I, env, s, k, q⟩ => by
  obtain ⟨ow, hd, q⟩ := q.bind.opt
  have hd := ownD_eq hd
  refine ⟨I, env, s, k.eok, k.wo, q.bind.mono (fun d s1 q v I1 H1 x1 w1 r1 => ?_) fun _ _ _ h => k.exq h⟩
  have k1 := k.grow x1 w1
  obtain ⟨p, g1, g2, m1, m2, m3⟩ := k1.eok.own i _ hd
  refine ⟨.ref p, g1, I1, env, s1, k1.eok, w1, q.bind.mono (fun x s2 q u I2 H2 x2 w2 r2 => ?_) fun _ _ _ h => k1.exq h⟩
  have k2 := k1.grow x2 w2
  obtain ⟨w, hw, q⟩ := q.bind.opt
  obtain ⟨p', g1', g3, c1, c2, c3⟩ := k2.eok.own i _ hd
  rw [g1] at g1'
  cases g1'
  have s7 : size7 ≤ sizeLine := size7_le (Nat.le_refl _)
  cases ow with
  | lst ds => cases hw
  | dK kvs =>
    obtain ⟨ws, f1, f2⟩ := g3
    simp only [dput] at hw
    cases hk : keyD x with
    | none => rw [hk] at hw; cases hw
    | some key =>
      rw [hk, Option.bind_some] at hw
      by_cases hl : kvs.length < size7
      · rw [if_pos hl] at hw
        cases hw
        have eu := keyD_rep r2 hk
        subst eu
        refine ⟨p, _, rfl, DPut.k (v := v) f1 (by rw [← f2.len]; omega), ?_⟩
        exact q σ I2 _ (x1.grow.trans x2.grow) (k2.put hd g1 c1 c2 c3 ⟨_, upd_same, f2.put (Rep.mono x2.grow _ _ r1)⟩)
      · rw [if_neg hl] at hw; cases hw
  | dT kvs =>
    obtain ⟨ws, f1, f2⟩ := g3
    cases x with
    | tup ks =>
      simp only [dput] at hw
      cases hk : keysD ks with
      | none => rw [hk] at hw; cases hw
      | some key =>
        rw [hk, Option.bind_some] at hw
        by_cases hl : kvs.length < size7
        · rw [if_pos hl] at hw
          cases hw
          obtain ⟨b, vs, eb, h1, h2⟩ := r2
          have ev := keysD_rep h2 hk
          subst eb ev
          refine ⟨p, _, rfl, DPut.t (v := v) f1 (w2.sub _ _ h1) (by rw [← f2.len]; omega), ?_⟩
          exact q σ I2 _ (x1.grow.trans x2.grow) (k2.put hd g1 c1 c2 c3 ⟨_, upd_same, f2.put (Rep.mono x2.grow _ _ r1)⟩)
        · rw [if_neg hl] at hw; cases hw
    | _ => cases hw
end
end PV

end

section
set_option maxRecDepth 100000
namespace PV
open PySem PySem.Spec PyProof.Rows L2
/-! ### a tuple times 1 is the tuple itself -/
theorem tuple_mul1 (l : Addr) (items : Array Value) (n : Nat) (dd : Option Addr) (sl : Array (Option Value)) (u : Tok) :
    Meets (Builtin.«tuple.__mul__» ⟨[.ref l, .int 1 u], []⟩) (fun _ R s => s.heap.get? l = some { cls := .type "tuple", dict := dd, data := .seq items n, slots := sl } ∧ R (.ok (.ret (Value.ref l))) s) :=
  .of_wp fun prog w A R s h => by
    obtain ⟨hp, g, d, tk, os⟩ := s
    obtain ⟨hl, h⟩ := h
    have f1 := AutoSeq1.idx_int
    wp_walk using wpAny_loadPart' hl
    repeat (first
      | (refine wpAny_ite_false (decide_eq_false (by decide)) ?_; wp_walk using wpAny_loadPart' hl)
      | (refine wpAny_ite_true (decide_eq_true (by simp)) ?_; wp_walk using wpAny_loadPart' hl))
    exact ⟨_, rfl, h⟩
section
variable {X : Cx} {dk l : Addr} {W : WX}
theorem op_rep1 : OpR X (binaryOp .Mult) (fun x y H Q => ∃ (a : Addr) (xs : List V), x = .ref a ∧ y = .int 1 ∧ SqT X.K H a xs ∧ Q (.ref a) H) := by
  intro pins s σ H x y v u Q I rx ry h
  obtain ⟨l, xs, rfl, rfl, hT, q⟩ := h
  cases rx
  obtain ⟨t, rfl⟩ := ry
  obtain ⟨its, r, ⟨⟨cls, dd, data, sl⟩, ho, hc, n, hd⟩, hs⟩ := I.tuple hT
  simp only at hc hd
  subst hc hd
  exact wpAny_binaryOp_repeat_ref (T := "tuple") (U := "int") (by decide) ⟨_, ho, rfl⟩ (fun s' => typeIs_int s' 1 t) noFill_tuple_mul PySem.F.fills_int_mul PySem.F.slot_int_rmul repeat_tuple PySem.F.slot_int_index.lookup
    (call_meets PySem.F.slot_int_rmul (typeIs_int s 1 t) PySem.F.entry_int_rmul (PySem.F.args_int_rmul_2 _ _) (int_rmul_tuple 1 t l its.toArray n dd sl)
      ⟨ho, rfl, ⟨_, ho, rfl⟩, call_meets PySem.F.slot_tuple_mul ⟨_, ho, rfl⟩ PySem.F.entry_tuple_mul (PySem.F.args_tuple_mul_2 _ _) (tuple_mul1 l its.toArray n dd sl t) ⟨ho, ⟨.ref l, H, I, rfl, q⟩⟩⟩)
/-- (x, ..) * n, n from 1 on -/
def mulT : D → D → Option D
  | .tup a, .int k => if k = 1 then some (.tup a) else mulD (.tup a) (.int k)
  | x, y => mulD x y
theorem o_mulT : OpD X dk l (binaryOp .Mult) mulT := by
  obtain ⟨r, hr, h⟩ := o_mul (X := X) (dk := dk) (l := l)
  refine ⟨_, OpR.or op_rep1 hr, fun I H s x y v u d Q w rx ry e q => ?_⟩
  by_cases hz : ∃ a, x = .tup a ∧ y = .int 1
  · obtain ⟨a, rfl, rfl⟩ := hz
    have e' : some (D.tup a) = some d := e
    cases e'
    obtain ⟨p, vs, rfl, h1, h2⟩ := rx
    exact .inl ⟨p, vs, rfl, ry, SqT.of (w.sub _ _ h1), q _ I H Ext.refl w ⟨p, vs, rfl, h1, h2⟩⟩
  · refine .inr (h I H s x y v u d Q w rx ry ?_ q)
    rw [← e]
    cases x with
    | tup a =>
      cases y with
      | int k =>
        show _ = (if k = 1 then some (D.tup a) else mulD (.tup a) (.int k))
        rw [if_neg fun hk => hz ⟨a, rfl, by rw [hk]⟩]
      | _ => rfl
    | _ => rfl
/-! ### any(..) of ints -/
theorem iter_anyT {prog : Program} {w : World} {A : Around} {E : Value → Shared → Prop} {s : Shared} {l : Addr} {items : Array Value} {Q : Value → Shared → Prop} (hl : s.heap.IsTuple l items)
    (h : ∀ s₂ : Shared, s₂ = { s with heap := s.heap.push { cls := .type "tuple_iterator", data := .fields #[.ref l, .int 0 0] } } →
      (s₂.heap.IsTupleIter s.heap.objs.size l 0 ∧ s₂.heap.IsTuple l items) → l ≠ s.heap.objs.size → Q (.ref s.heap.objs.size) s₂) : wpAny (model prog w) A (pyIter (.ref l)) Q E s := by
  have hlt : l < s.heap.objs.size := by obtain ⟨_, e, _⟩ := hl; exact Heap.lt_size e
  refine wpAny_pyIter_tuple hl (h _ rfl ⟨⟨_, Heap.get?_push_size _ rfl, rfl, rfl⟩, ?_⟩ (Nat.ne_of_lt hlt))
  obtain ⟨o, e, c, n, d⟩ := hl
  exact ⟨o, Heap.get?_push_of_some _ e, c, n, d⟩
theorem truth_ints {prog : Program} {w : World} {A : Around} {ns : List Int} {its : List Value} (e : Vals (ns.map V.int) its) :
    TruthOf prog w A (fun i v => its.toArray[i]? = some v) (fun i => ns.getD i 0 != 0) := fun i v s Q E hv hq => by
  have hv' : its[i]? = some v := by simpa using hv
  have hi : i < its.length := (List.getElem?_eq_some_iff.mp hv').1
  have hl := e.length
  rw [List.length_map] at hl
  obtain ⟨u, hu, ru⟩ := e.get (i := i) (x := .int ns[i]) (by rw [List.getElem?_map, List.getElem?_eq_getElem (by omega)]; rfl)
  rw [hv'] at hu
  cases hu
  obtain ⟨t, rfl⟩ := ru
  have hg : ns.getD i 0 = ns[i] := by rw [List.getD_eq_getElem?_getD, List.getElem?_eq_getElem (by omega)]; rfl
  have hq' : Q (ns.getD i 0 != 0) s := hq
  rw [hg] at hq'
  exact truthy_int hq'
theorem any_rangeI : ∀ ns : List Int, (List.range ns.length).any (fun i => ns.getD i 0 != 0) = ns.any fun n => n != 0
  | [] => rfl
  | n :: ns => by
    rw [List.length_cons, List.range_succ_eq_map, List.any_cons, List.any_map, List.any_cons, ← any_rangeI ns]
    all_goals rfl
theorem cr_anyT (hc : X.calm = true) : CallR X (.builtin "any") (fun vs H Q => ∃ (a : Addr) (ns : List Int), vs = [V.ref a] ∧ SqT X.K H a (ns.map V.int) ∧ Q (.bl (ns.any fun n => n != 0)) H) := by
  intro pins s σ H vs us Q I r h
  obtain ⟨a, ns, rfl, hs, q⟩ := h
  obtain ⟨its, rv, hl, _⟩ := I.tuple hs
  rw [Vals.ref1 r]
  refine call_any_walk (iter_anyT hl fun s₂ e2 st hne => ?_)
  subst e2
  refine ⟨_, _, _, _, _, _, _, rfl, Walks.tuple (A := X.A.in1) (I.ok.hd hc) _ a hne its.toArray, st, truth_ints rv, fun h' tk hk => ?_⟩
  refine ⟨.bl _, H, I.kept fun b o eo => hk b o (fun hmem => ?_) (Heap.get?_push_of_some _ eo), ?_, q⟩
  · rcases List.mem_cons.mp hmem with e1 | hmem
    · exact absurd (e1 ▸ Heap.lt_size eo) (Nat.lt_irrefl _)
    · cases hmem
  · show Value.bool _ = Value.bool _
    rw [← any_rangeI, List.size_toArray, ← rv.length, List.length_map]
theorem cr_anyL (hc : X.calm = true) : CallR X (.builtin "any") (fun vs H Q => ∃ (a : Addr) (ns : List Int), vs = [V.ref a] ∧ SqL X.K H a (ns.map V.int) ∧ Q (.bl (ns.any fun n => n != 0)) H) := by
  intro pins s σ H vs us Q I r h
  obtain ⟨a, ns, rfl, hs, q⟩ := h
  obtain ⟨its, rv, hl, _⟩ := I.list hs
  rw [Vals.ref1 r]
  refine call_any_walk (iter_any hl.isList fun s₂ e2 st hne => ?_)
  subst e2
  refine ⟨_, _, _, _, _, _, _, rfl, Walks.list (A := X.A.in1) (I.ok.hd hc) _ a hne its.toArray, st, truth_ints rv, fun h' tk hk => ?_⟩
  refine ⟨.bl _, H, I.kept fun b o eo => hk b o (fun hmem => ?_) (Heap.get?_push_of_some _ eo), ?_, q⟩
  · rcases List.mem_cons.mp hmem with e1 | hmem
    · exact absurd (e1 ▸ Heap.lt_size eo) (Nat.lt_irrefl _)
    · cases hmem
  · show Value.bool _ = Value.bool _
    rw [← any_rangeI, List.size_toArray, ← rv.length, List.length_map]
def anyI : D → Option D
  | .tup ds => (ints? ds).map fun ns => .bl (ns.any fun n => n != 0)
  | .lst ds => (ints? ds).map fun ns => .bl (ns.any fun n => n != 0)
  | _ => none
theorem CallR.or {f : Value} {r r' : List V → Hp → VK → Prop} (a : CallR X f r) (b : CallR X f r') : CallR X f (fun vs H Q => r vs H Q ∨ r' vs H Q) := fun pins s σ H vs us Q I v h => h.elim (a pins s σ H vs us Q I v) (b pins s σ H vs us Q I v)
theorem c_anyI (hc : X.calm = true) : CallD X dk l (.builtin "any") (g1 anyI) := callD1 (CallR.or (cr_anyT hc) (cr_anyL hc)) fun I H s x v d Q w r e q => by
  cases x with
  | tup ds =>
    simp only [anyI] at e
    cases z : ints? ds with
    | none => rw [z] at e; cases e
    | some ns =>
      rw [z] at e
      cases e
      obtain ⟨a, vs, rfl, h1, h2⟩ := r
      rw [ints?_eq z] at h2
      rw [h2.ints_of] at h1
      exact .inl ⟨a, ns, rfl, SqT.of (w.sub _ _ h1), q _ I H Ext.refl w rfl⟩
  | lst ds =>
    simp only [anyI] at e
    cases z : ints? ds with
    | none => rw [z] at e; cases e
    | some ns =>
      rw [z] at e
      cases e
      obtain ⟨a, vs, rfl, h1, h2⟩ := r
      rw [ints?_eq z] at h2
      rw [h2.ints_of] at h1
      exact .inr ⟨a, ns, rfl, .of (w.sub _ _ h1), q _ I H Ext.refl w rfl⟩
  | _ => cases e
end
end PV

end

section
set_option maxRecDepth 100000
namespace PV
open PySem PySem.Spec PyProof.Rows L2
/-! ### sorted(d), d a dict whose keys are tuples of ints -/
theorem kdl_rawH {prog : Program} {w : World} {K : Type} {d : Addr} {xs : List (K × Addr × Value)} {es : Array DictEntry} {ep : Nat} (lo : (d == sysModules) = false) (hx : ∀ i (hi : i < es.size), ∃ y, xs[i]? = some y ∧ es[i].key = .ref y.2.1 ∧ es[i].val = y.2.2) :
    PySem.W.KdlSrc prog w "dict" d d es.size (fun i v => ∃ y, xs[i]? = some y ∧ v = .ref y.2.1) (fun h => h.DictRaw d es ep) where
  type := fun _ hm => hm.typeIs
  there := fun _ hm => let ⟨_, ho, _⟩ := hm; ⟨Heap.lt_size ho, Heap.lt_size ho⟩
  keep := fun _ _ hm hk => hm.at fun o e => hk d (.inl rfl) o e
  notList := by decide
  notTuple := by decide
  hint := fun _ _ _ _ hm hq => PySem.W.kdl_hint_dict hm.typeIs hq
  iter := fun _ _ hh hm => ⟨_, _, (fun _ _ hq => wpAny_pyIter_dict_raw lo hm hq), Walks.keysH hh _ d (let ⟨_, ho, _⟩ := hm; Nat.ne_of_lt (Heap.lt_size ho)) es ep hx, ⟨⟨_, Heap.get?_push_size _ rfl, rfl, rfl⟩, hm.at fun o e => Heap.get?_push_of_some _ e⟩⟩
theorem keys_ts {H : Hp} : ∀ {kvs : List (List Key × V)} {xs : List (List Key × Addr × Value)} {ks : List (List Int)}, KT H kvs xs → kvs.map (·.1) = ks.map (List.map Sum.inl) →
    ∃ ts : List (Addr × List Int), ts.map (·.1) = xs.map (·.2.1) ∧ ts.map (·.2) = ks ∧ ∀ p ∈ ts, H p.1 = some (.tup (p.2.map V.int))
  | _, _, ks, .nil, h => by
    cases ks with
    | nil => exact ⟨[], rfl, rfl, fun p hp => (by cases hp)⟩
    | cons k ks => cases h
  | _, _, ks, .cons (a := a) (b := b) ⟨f1, f2, _⟩ r, h => by
    cases ks with
    | nil => cases h
    | cons k ks =>
      rw [List.map_cons, List.map_cons, List.cons.injEq] at h
      obtain ⟨ts, h1, h2, h3⟩ := keys_ts r h.2
      refine ⟨(b.2.1, k) :: ts, by rw [List.map_cons, List.map_cons, h1], by rw [List.map_cons, h2], fun p hp => ?_⟩
      rcases List.mem_cons.mp hp with rfl | hp
      · rw [h.1, List.map_map] at f2
        exact f2
      · exact h3 p hp
section
variable {X : Cx} {dk l : Addr} {W : WX}
def rSortDT : List V → Hp → VK → Prop := fun vs H Q => ∃ (a : Addr) (kvs : List (List Key × V)) (ks : List (List Int)), vs = [V.ref a] ∧ Rd H a (.dT kvs) ∧ kvs.map (·.1) = ks.map (List.map Sum.inl) ∧
  ∀ (us : List (Addr × List Int)) (p : Addr), (∀ q ∈ us, H q.1 = some (.tup (q.2.map V.int))) → us.map (·.2) = sortL ks → H p = none → Q (.ref p) (upd H p (.lst (ownTs us)))
theorem cr_sortDT (hc : X.calm = true) (hu : X.A.units + 8 < cLine) : CallR X (.builtin "sorted") rSortDT := by
  intro pins s σ H vs us Q I r h
  obtain ⟨a, kvs, ks, rfl, hd, hks, q⟩ := h
  rw [Vals.ref1 r]
  obtain ⟨hlen0, lo, xs, rel, dd⟩ := dt_rd I.hok hd
  obtain ⟨es, ep, raw, hsz, hx⟩ := dd.raw
  obtain ⟨ts, ht1, ht2, ht3⟩ := keys_ts rel hks
  have hxl : xs.length = ts.length := by
    have := congrArg List.length ht1
    rw [List.length_map, List.length_map] at this
    exact this.symm
  have hkl : kvs.length = ks.length := by
    have := congrArg List.length hks
    rw [List.length_map, List.length_map] at this
    exact this
  have htl : ts.length = ks.length := by rw [← ht2, List.length_map]
  have hn : es.size ≤ sizeLine := by rw [hsz, hxl, htl, ← hkl]; exact hlen0
  refine Calls.call_function_entry PyProof.Rows.kind_sorted PyProof.Rows.plain_sorted PyProof.Rows.entry_sorted (PyProof.Rows.args_sorted1 _) ?_
  unfold Builtin.«sorted»
  refine wpAny_bind (m := checkCount "sorted" 1 1 _) (wpAny_pure ?_)
  refine wpAny_bind (PySem.W.kdu_collect (A := X.A.in1) (kdl_rawH (xs := xs) (es := es) (ep := ep) lo fun i hi => let ⟨y, h1, h2, h3, _⟩ := hx i hi; ⟨y, h1, h2, h3⟩) (I.ok.hd hc) raw hn fun h' tk acc hk hacc => ?_)
  have hacc2 : acc.toList = ts.map fun p => Value.ref p.1 := by
    apply List.ext_getElem?
    intro i
    by_cases hi : i < acc.size
    · have e1 : acc.toList[i]? = some acc[i] := by rw [Array.getElem?_toList, Array.getElem?_eq_getElem hi]
      obtain ⟨y, e2, e3⟩ := hacc.2 i acc[i] (Array.getElem?_eq_getElem hi)
      have e4 : (ts.map (·.1))[i]? = some y.2.1 := by rw [ht1, List.getElem?_map, e2]; rfl
      rw [e1, e3]
      rw [List.getElem?_map] at e4 ⊢
      cases e5 : ts[i]? with
      | none => rw [e5] at e4; cases e4
      | some p =>
        rw [e5] at e4
        have e6 : p.1 = y.2.1 := Option.some.inj e4
        show some (Value.ref y.2.1) = some (Value.ref p.1)
        rw [e6]
    · rw [List.getElem?_eq_none (by rw [Array.length_toList]; omega), List.getElem?_eq_none (by rw [List.length_map]; have := hacc.1; omega)]
  rw [hacc2]
  have hL : (ts.map fun p => Value.ref p.1).length ≤ sizeLine := by rw [List.length_map, ← hxl, ← hsz]; exact hn
  refine wpAny_bind (wpAny_newList ?_ hL)
  have I1 : Inv X pins σ H { s with heap := h', toks := tk } := I.kept hk
  have hoL : (h'.push (seqObj "list" (ts.map fun p => Value.ref p.1).toArray 0)).get? h'.objs.size = some (seqObj "list" (ts.map fun p => Value.ref p.1).toArray 0) := Heap.get?_push_size _ rfl
  show wpAny _ _ _ _ _ { s with heap := h'.push (seqObj "list" (ts.map fun p => Value.ref p.1).toArray 0), toks := tk }
  have hkeep : ∀ b o, s.heap.get? b = some o → (h'.push (seqObj "list" (ts.map fun p => Value.ref p.1).toArray 0)).get? b = some o := fun b o e => Heap.get?_push_of_some _ (hk b o e)
  have fin : ∀ (us : List (Addr × List Int)), (ownTs us).length ≤ sizeLine → (∀ q ∈ us, q ∈ ts) → us.map (·.2) = sortL ks → EP X pins σ Q (.ref h'.objs.size) { s with heap := PyProof.Rows.sortedHeap (h'.push (seqObj "list" (ts.map fun p => Value.ref p.1).toArray 0)) h'.objs.size (ts.map fun p => Value.ref p.1) (us.map fun p => Value.ref p.1).toArray, toks := tk } := fun us hul hus e1 => by
    obtain ⟨e', he'⟩ := PyProof.Rows.sortedHeap_at (vs := ts.map fun p => Value.ref p.1) (out := (us.map fun p => Value.ref p.1).toArray) hoL
    refine ⟨.ref h'.objs.size, upd H h'.objs.size (.lst (ownTs us)), I1.laid (t' := tk) (fun b u e => ?_) (Nat.le_refl _)
      (show ObjOk X.prog X.w _ _ _ (.lst (ownTs us)) from ⟨hul, us.map fun p => Value.ref p.1, e', ownTs_vals us, he'⟩), rfl, q us _ (fun z hz => ht3 z (hus z hz)) e1 (I1.hok.fresh (Nat.le_refl _))⟩
    have hb : b < h'.objs.size := Heap.lt_size e
    rw [PyProof.Rows.sortedHeap_old (Nat.ne_of_lt hb) (by rw [size_push']; exact Nat.lt_succ_of_lt hb)]
    exact Heap.get?_push_of_some _ e
  revert hoL hkeep fin
  generalize (h'.push (seqObj "list" (ts.map fun p => Value.ref p.1).toArray 0)) = hh
  intro hoL hkeep fin
  have ti0 : ∀ p ∈ ts, TI s.heap (.ref p.1) p.2 := fun p hp => by
    obtain ⟨its, rv, hT, _⟩ := I.tuple (SqT.of (K := X.K) (ht3 p hp))
    exact ⟨p.1, its.toArray, rfl, hT, by simpa using rv.ints⟩
  have ti : ∀ p ∈ ts, TI hh (.ref p.1) p.2 := fun p hp => (ti0 p hp).keeps fun b o e _ => hkeep b o e
  have tiv : ∀ v ∈ (ts.map fun p => Value.ref p.1), TI hh v (TS.intsOf hh v) := fun v hv => by
    obtain ⟨p, hp, rfl⟩ := List.mem_map.mp hv
    have := ti p hp
    rw [this.ints]
    exact this
  refine wpAny_bind (wpAny_holding (wpAny_call_entry PyProof.Rows.slot_list_sort ⟨_, hoL, rfl⟩ PyProof.Rows.entry_list_sort
    (SrtO.list_sort_ord (s := { s with heap := hh, toks := tk }) (n := 0) (swo_lexLt (TS.intsOf hh)) hoL hL (fun h2 => ?_) fun out hs hb => ⟨_, rfl, ?_⟩) (PyProof.Rows.args_list_sort _)))
  · refine tup_sortable (s := { s with heap := hh, toks := tk }) (k := TS.intsOf hh) (by show X.A.units + 1 + 1 < cLine; omega) h2 tiv fun o e => ?_
    have e' : some o = some (seqObj "list" _ 0) := e.symm.trans hoL
    cases e'
    intro c
    exact absurd (Value.type.inj c) (by decide)
  · have hp := hb.perm
    have mem : ∀ v ∈ out, ∃ p ∈ ts, v = Value.ref p.1 := fun v hv => by
      obtain ⟨p, hp, e⟩ := List.mem_map.mp (hp.mem_iff.mp hv)
      exact ⟨p, hp, e.symm⟩
    have lift : ∀ (o : List Value), (∀ v ∈ o, ∃ p ∈ ts, v = Value.ref p.1) → ∃ us : List (Addr × List Int), (∀ q ∈ us, q ∈ ts) ∧ o = us.map fun p => Value.ref p.1 := fun o => by
      induction o with
      | nil => exact fun _ => ⟨[], fun q h => by simp at h, rfl⟩
      | cons v o ih =>
        intro h
        obtain ⟨us, h1, h2⟩ := ih fun u hu => h u (List.mem_cons_of_mem _ hu)
        obtain ⟨p, hp, e⟩ := h v List.mem_cons_self
        exact ⟨p :: us, fun q hq => by
          rcases List.mem_cons.mp hq with z | z
          · subst z; exact hp
          · exact h1 q z, by rw [List.map_cons, ← h2, e]⟩
    obtain ⟨us, hus, eo⟩ := lift out mem
    subst eo
    have hints : ∀ zs : List (Addr × List Int), (∀ q ∈ zs, q ∈ ts) → (zs.map fun p => Value.ref p.1).map (TS.intsOf hh) = zs.map (·.2) := fun zs hz => by
      rw [List.map_map]
      exact List.map_congr_left fun p hp => (ti p (hz p hp)).ints
    have e1 : us.map (·.2) = sortL ks := by
      rw [← ht2]
      refine perm_srtd_eq (lt := HT.lexLt) (fun x y h1 h2 => lexLt_tot x y h1 h2) ?_ ?_ (sortL_sorted _)
      · have h3 := hp.map (TS.intsOf hh)
        rw [hints us hus, hints ts fun q h => h] at h3
        exact h3.trans (sortL_perm _).symm
      · have h4 : ((us.map fun p => Value.ref p.1).map (TS.intsOf hh)).Pairwise fun a b => HT.lexLt b a = false := List.pairwise_map.mpr hs
        rw [hints us hus] at h4
        exact h4
    have hul : (ownTs us).length ≤ sizeLine := by
      have : us.length = ts.length := by
        have := hp.length_eq
        simpa using this
      unfold ownTs
      rw [List.length_map, this]
      simpa using hL
    exact wpAny_pure ⟨_, rfl, fin us hul hus e1⟩
end
end PV

end

section
set_option maxRecDepth 100000
namespace PV
open PySem PySem.Spec PyProof.Rows L2
def keyInt? : List Key → Option (List Int)
  | [] => some []
  | .inl i :: r => (keyInt? r).map (i :: ·)
  | .inr _ :: _ => none
def keysInt? : List (List Key) → Option (List (List Int))
  | [] => some []
  | k :: r => match keyInt? k, keysInt? r with
    | some i, some is => some (i :: is)
    | _, _ => none
theorem keyInt_eq : ∀ {k : List Key} {ns : List Int}, keyInt? k = some ns → k = ns.map Sum.inl
  | [], ns, h => by cases h; rfl
  | .inl i :: r, ns, h => by
    simp only [keyInt?] at h
    cases z : keyInt? r with
    | none => rw [z] at h; cases h
    | some ms =>
      rw [z] at h
      cases h
      rw [keyInt_eq z]
      rfl
  | .inr _ :: _, _, h => by cases h
theorem keysInt_eq : ∀ {ks : List (List Key)} {ns : List (List Int)}, keysInt? ks = some ns → ks = ns.map (List.map Sum.inl)
  | [], ns, h => by cases h; rfl
  | k :: r, ns, h => by
    simp only [keysInt?] at h
    cases z1 : keyInt? k with
    | none => rw [z1] at h; cases h
    | some i =>
      cases z2 : keysInt? r with
      | none => rw [z1, z2] at h; cases h
      | some is =>
        rw [z1, z2] at h
        cases h
        rw [keyInt_eq z1, keysInt_eq z2]
        rfl
def sortedDT : D → Option OD
  | .dT kvs => (keysInt? (kvs.map (·.1))).map fun ks => .lst ((sortL ks).map tupI)
  | _ => none
theorem RepT.keys {K : PySem.W.Frag} {I : Hp} {dk : Addr} : ∀ {kvs : List (List Key × D)} {ws : List (List Key × V)}, RepT K I dk kvs ws → ws.map (·.1) = kvs.map (·.1)
  | [], _, h => by rw [show _ = [] from h]; rfl
  | (k, d) :: r, _, ⟨v, ws, e, h1, h2⟩ => by subst e; rw [List.map_cons, List.map_cons, RepT.keys h2]
section
variable {X : Cx} {dk l : Addr} {W : WX} {pos : Pos}
open Classical in
theorem c_sortedDT (hc : X.calm = true) (hu : X.A.units + 8 < cLine) : CallO X dk l (.builtin "sorted") (g1O sortedDT) := callO1 (cr_sortDT hc hu) fun I H s x v d Q w r e q => by
  cases x with
  | dT kvs =>
    simp only [sortedDT] at e
    cases z : keysInt? (kvs.map (·.1)) with
    | none => rw [z] at e; cases e
    | some ks =>
      rw [z] at e
      cases e
      obtain ⟨a, ws, rfl, h1, h2⟩ := r
      have hk := keysInt_eq z
      refine ⟨a, ws, ks, rfl, .of (w.sub _ _ h1), by rw [h2.keys, hk], fun us p hus e1 hp => ?_⟩
      let I' : Hp := fun b => if (∃ q ∈ us, q.1 = b) then H b else I b
      have inus : ∀ q ∈ us, I' q.1 = some (.tup (q.2.map V.int)) := fun q hq => by
        show (if (∃ q' ∈ us, q'.1 = q.1) then H q.1 else I q.1) = _
        rw [if_pos ⟨q, hq, rfl⟩]
        exact hus q hq
      have sub' : Sm I' H := fun b o hb => by
        have hb' : (if (∃ q ∈ us, q.1 = b) then H b else I b) = some o := hb
        by_cases hm : ∃ q ∈ us, q.1 = b
        · rw [if_pos hm] at hb'; exact hb'
        · rw [if_neg hm] at hb'; exact w.sub b o hb'
      have grow : Sm I I' := fun b o hb => by
        show (if (∃ q ∈ us, q.1 = b) then H b else I b) = _
        by_cases hm : ∃ q ∈ us, q.1 = b
        · rw [if_pos hm]; exact w.sub b o hb
        · rw [if_neg hm]; exact hb
      have nodk : I' dk = none := by
        show (if (∃ q ∈ us, q.1 = dk) then H dk else I dk) = _
        rw [if_neg]
        · exact w.idk
        · rintro ⟨q, hq, e⟩
          have := hus q hq
          rw [e, w.dko] at this
          cases this
      have nol : I' l = none := by
        show (if (∃ q ∈ us, q.1 = l) then H l else I l) = _
        rw [if_neg]
        · exact w.il
        · rintro ⟨q, hq, e⟩
          have := hus q hq
          rw [e, w.lft] at this
          cases this
      have nop : I' p = none := sub'.none hp
      have n1 : p ≠ dk := (ne_of_none w.dko hp).symm
      have n2 : p ≠ l := (ne_of_none w.lft hp).symm
      have w' : Wo dk l I' H s := ⟨sub', w.dko, w.lft, nodk, nol⟩
      have x' : Ext dk l I H I' H := ⟨grow, fun _ _ h _ _ => h, fun b o hb hn => by
        have hb' : (if (∃ q ∈ us, q.1 = b) then H b else I b) = some o := hb
        by_cases hm : ∃ q ∈ us, q.1 = b
        · obtain ⟨q, hq, rfl⟩ := hm
          exact .inr ⟨_, hus q hq⟩
        · rw [if_neg hm, hn] at hb'; cases hb'⟩
      refine q p I' _ (x'.trans (Ext.off w' hp) (w'.off nop n1 n2)) (w'.off nop n1 n2) hp ⟨_, upd_same, ?_⟩ n1 n2 nop
      rw [← e1]
      have go : ∀ zs : List (Addr × List Int), (∀ q ∈ zs, q ∈ us) → RepL X.K I' dk ((zs.map (·.2)).map tupI) (ownTs zs) := fun zs => by
        induction zs with
        | nil => exact fun _ => rfl
        | cons z zs ih => exact fun hz => ⟨V.ref z.1, ownTs zs, rfl, ⟨z.1, _, rfl, inus z (hz z List.mem_cons_self), RepL.ints _⟩, ih fun q hq => hz q (List.mem_cons_of_mem _ hq)⟩
      exact go us fun q hq => hq
  | _ => cases e
/-! ### {} -/
def eDnewT : En → M OD := fun _ => ret (.dT [])
theorem r_dnewT : PE X (.Dict [] [] pos) (liftO X.K dk l W eDnewT) := PE_imp pe_dnewT fun σ H Q ⟨I, env, s, e, w, q⟩ => fun p hp => by
  have n1 : p ≠ dk := (ne_of_none w.dko hp).symm
  have n2 : p ≠ l := (ne_of_none w.lft hp).symm
  have n3 : I p = none := w.sub.none hp
  exact q p I _ (Ext.off w hp) (w.off n3 n1 n2) hp ⟨[], upd_same, rfl⟩ n1 n2 n3
/-! ### d.get(k, x), d one's own -/
def dgetD : OD → D → D → Option D
  | .dK kvs, x, d => (keyD x).map fun k => (valD kvs k).getD d
  | .dT kvs, .tup ks, d => (keysD ks).map fun k => (valD kvs k).getD d
  | _, _, _ => none
def ownDD (env : En) (i : Nat) : Option OD := match env[i]? with
  | some (.own (.dK k)) => some (.dK k)
  | some (.own (.dT k)) => some (.dT k)
  | _ => none
theorem ownDD_eq {env : En} {i : Nat} {o : OD} (h : ownDD env i = some o) : env[i]? = some (.own o) ∧ ∀ ds, o ≠ .lst ds := by
  unfold ownDD at h
  cases z : env[i]? with
  | none => rw [z] at h; cases h
  | some y =>
    rw [z] at h
    cases y with
    | no => cases h
    | val d => cases h
    | own u => cases u with
      | lst ds => cases h
      | dK k => cases h; exact ⟨rfl, fun ds e => by cases e⟩
      | dT k => cases h; exact ⟨rfl, fun ds e => by cases e⟩
def eOwnGet (i : Nat) (mk md : En → M D) : En → M D := fun env => andThen (opt (ownDD env i)) fun o => andThen (mk env) fun x => andThen (md env) fun d => opt (dgetD o x d)
theorem valK_none {K : PySem.W.Frag} {I : Hp} : ∀ {kvs : List (Key × D)} {ws : List (Key × V)} {k : Key}, RepK K I dk kvs ws → valD kvs k = none → valV ws k = none
  | [], _, k, h, _ => by rw [show _ = [] from h]; rfl
  | (a, d') :: r, _, k, ⟨v, ws, e, h1, h2⟩, h => by
    subst e
    unfold valD at h
    unfold valV
    rw [List.find?_cons] at h ⊢
    by_cases hk : a = k
    · simp only [hk, decide_true, Option.map_some] at h
      cases h
    · simp only [hk, decide_false] at h ⊢
      exact valK_none h2 h
theorem valT_none {K : PySem.W.Frag} {I : Hp} : ∀ {kvs : List (List Key × D)} {ws : List (List Key × V)} {k : List Key}, RepT K I dk kvs ws → valD kvs k = none → valV ws k = none
  | [], _, k, h, _ => by rw [show _ = [] from h]; rfl
  | (a, d') :: r, _, k, ⟨v, ws, e, h1, h2⟩, h => by
    subst e
    unfold valD at h
    unfold valV
    rw [List.find?_cons] at h ⊢
    by_cases hk : a = k
    · simp only [hk, decide_true, Option.map_some] at h
      cases h
    · simp only [hk, decide_false] at h ⊢
      exact valT_none h2 h
theorem r_ownGet {o e f : Expr} {apos cpos : Pos} {i : Nat} {mk md : En → M D} (hu : X.A.units + 1 < cLine) (ho : PE X o (tVar i)) (he : PE X e (lift X.K dk l W mk)) (hf : PE X f (lift X.K dk l W md)) (m : M2 X o "get" apos e f cpos) :
    PE X (.Call (.Attribute o "get" apos) [e, f] [] cpos) (lift X.K dk l W (eOwnGet i mk md)) := PE_imp (pe_dget2 hu ho he hf m) fun σ H Q ⟨I, env, s, k, w, q⟩ => by
  obtain ⟨ow, hd, q⟩ := q.bind.opt
  obtain ⟨hd, hnl⟩ := ownDD_eq hd
  obtain ⟨p, g1, g2, _⟩ := k.own i _ hd
  cases ow with
  | lst ds => exact (hnl ds rfl).elim
  | dK kvs =>
    obtain ⟨ws0, f0, _⟩ := g2
    refine ⟨.ref p, g1, p, rfl, .inl ⟨_, .of f0⟩, I, env, s, k, w, q.bind.mono (fun x s1 q v I1 H1 x1 w1 r1 => ?_) fun _ _ _ h => h⟩
    have k1 := k.ext x1
    refine ⟨I1, env, s1, k1, w1, q.bind.mono (fun d s2 q u I2 H2 x2 w2 r2 => ?_) fun _ _ _ h => h.shift x1⟩
    have k2 := k1.ext x2
    obtain ⟨d', hg, q⟩ := q.opt
    obtain ⟨p', g1', ⟨ws, f1, f2⟩, _⟩ := k2.own i _ hd
    rw [g1] at g1'
    cases g1'
    simp only [dgetD] at hg
    cases hk : keyD x with
    | none => rw [hk] at hg; cases hg
    | some key =>
      rw [hk, Option.map_some] at hg
      cases hg
      have ev := keyD_rep r1 hk
      subst ev
      refine ⟨_, DGet.k f1, ?_⟩
      cases hv : valD kvs key with
      | none =>
        rw [valK_none f2 hv]
        rw [hv] at q
        exact q u I2 H2 (x1.trans x2 w2) w2 r2
      | some dv =>
        obtain ⟨y, e1, e2⟩ := valK_rep f2 hv
        rw [e1]
        rw [hv] at q
        exact q y I2 H2 (x1.trans x2 w2) w2 e2
  | dT kvs =>
    obtain ⟨ws0, f0, _⟩ := g2
    refine ⟨.ref p, g1, p, rfl, .inr ⟨_, .of f0⟩, I, env, s, k, w, q.bind.mono (fun x s1 q v I1 H1 x1 w1 r1 => ?_) fun _ _ _ h => h⟩
    have k1 := k.ext x1
    refine ⟨I1, env, s1, k1, w1, q.bind.mono (fun d s2 q u I2 H2 x2 w2 r2 => ?_) fun _ _ _ h => h.shift x1⟩
    have k2 := k1.ext x2
    obtain ⟨d', hg, q⟩ := q.opt
    obtain ⟨p', g1', ⟨ws, f1, f2⟩, _⟩ := k2.own i _ hd
    rw [g1] at g1'
    cases g1'
    cases x with
    | tup ks =>
      simp only [dgetD] at hg
      cases hk : keysD ks with
      | none => rw [hk] at hg; cases hg
      | some key =>
        rw [hk, Option.map_some] at hg
        cases hg
        obtain ⟨b, vs, eb, h1, h2⟩ := r1
        have ev := keysD_rep h2 hk
        subst eb ev
        refine ⟨_, DGet.t f1 (w2.sub _ _ (x2.grow _ _ h1)), ?_⟩
        cases hv : valD kvs key with
        | none =>
          rw [valT_none f2 hv]
          rw [hv] at q
          exact q u I2 H2 (x1.trans x2 w2) w2 r2
        | some dv =>
          obtain ⟨y, e1, e2⟩ := valT_rep f2 hv
          rw [e1]
          rw [hv] at q
          exact q y I2 H2 (x1.trans x2 w2) w2 e2
    | _ => cases hg
/-! ### t[::-1], t a tuple -/
theorem sliceApplied_rev {prog : Program} {w : World} {A : Around} {E : Value → Shared → Prop} {s : Shared} {sl : Addr} {t : Tok} {n : Nat} {Q : Int × Int × Nat → Shared → Prop} (hs : s.heap.IsSliceOf sl .none .none (.int (-1) t))
    (h : Q ((n : Int) - 1, -1, n) s) : wpAny (model prog w) A (Builtin.Slice.sliceApplied (.ref sl) (pure (n : Int))) Q E s := by
  obtain ⟨os, hos, hcs, hds⟩ := id hs
  unfold Builtin.Slice.sliceApplied Builtin.Slice.sliceFields
  refine wpAny_bind (wpAny_bind (wpAny_field hos hds (x := .none) rfl (wpAny_bind (wpAny_field hos hds (x := .none) rfl (wpAny_bind (wpAny_field hos hds (x := .int (-1) t) rfl (wpAny_pure ?_)))))))
  refine wpAny_bind (HT.slicePart_ (.int (-1) t) ?_)
  show wpAny _ _ (if ((-1 : Int) == 0) = true then _ else _) _ _ s
  rw [if_neg (by decide)]
  refine wpAny_bind (HT.slicePart_ .none (wpAny_bind (HT.slicePart_ .none (wpAny_bind (wpAny_pure ?_)))))
  show wpAny _ _ (pure ((n : Int) - 1, (-1 : Int), Builtin.Slice.slicePlaces ((n : Int) - 1) (-1) (-1))) _ _ s
  have e : Builtin.Slice.slicePlaces ((n : Int) - 1) (-1) (-1) = n := by
    unfold Builtin.Slice.slicePlaces
    rw [if_neg (by decide)]
    by_cases hn : (n : Int) - 1 > -1
    · rw [if_pos hn, show (- -1 : Int) = 1 by decide, Int.ediv_one]
      omega
    · rw [if_neg hn]
      omega
  rw [e]
  exact wpAny_pure h
theorem fmap_congr {α β : Type} {f g : α → Option β} : ∀ {xs : List α}, (∀ x ∈ xs, f x = g x) → xs.filterMap f = xs.filterMap g
  | [], _ => rfl
  | x :: xs, h => by rw [List.filterMap_cons, List.filterMap_cons, h x List.mem_cons_self, fmap_congr fun y hy => h y (List.mem_cons_of_mem _ hy)]
theorem pick_rev (xs : Array Value) : ((List.range xs.size).filterMap fun (k : Nat) => xs[(((xs.size : Nat) : Int) - 1 + (k : Int) * -1).toNat]?).toArray = xs.toList.reverse.toArray := by
  have e : (List.range xs.size).filterMap (fun (k : Nat) => xs[(((xs.size : Nat) : Int) - 1 + (k : Int) * -1).toNat]?) = ((List.range xs.size).map fun k => xs.size - 1 - k).filterMap (xs[·]?) := by
    rw [List.filterMap_map]
    refine fmap_congr fun k hk => ?_
    have := List.mem_range.mp hk
    have e2 : (((xs.size : Nat) : Int) - 1 + (k : Int) * -1).toNat = xs.size - 1 - k := by omega
    rw [e2]
    rfl
  rw [e, PySem.W.krv_range, List.filterMap_reverse, PySem.W.krv_all]
theorem getItem_tuple_rev {prog : Program} {w : World} {A : Around} {E : Value → Shared → Prop} {s : Shared} {t sl : Addr} {items : Array Value} {tk : Tok} {Q : Value → Shared → Prop} (ht : IsTup s.heap t items) (hs : s.heap.IsSliceOf sl .none .none (.int (-1) tk))
    (h : Q (.ref s.heap.objs.size) { s with heap := s.heap.push { cls := .type "tuple", data := .seq items.toList.reverse.toArray } })
    (hsz : items.size ≤ sizeLine) : wpAny (model prog w) A (getItem (.ref t) (.ref sl)) Q E s := by
  have htake : sizeOk (.seq items.toList.reverse.toArray) := by
    show items.toList.reverse.toArray.size ≤ sizeLine
    rw [List.size_toArray, List.length_reverse, Array.length_toList]
    exact hsz
  obtain ⟨os, hos, hcs, hds⟩ := id hs
  have hTs : s.TypeIs (.ref sl) "slice" := ⟨os, hos, hcs⟩
  unfold getItem
  try with_reducible refine wpAny_holding ?_
  first | refine wpAny_bind (wpAny_pure ?_) | skip
  refine wpAny_bind (wpAny_sequenceKey ht.typeIs (by decide) ?_)
  refine wpAny_bind (wpAny_callSpecial?_slot (name := Str.ofString "__getitem__") ht.typeIs PyProof.Rows.slot_tuple_getitem
    (wpAny_call_entry PyProof.Rows.slot_tuple_getitem ht.typeIs entry_tuple_getitem ?_ (args_tuple_getitem _ _)))
  show wpAny _ _ (Builtin.Tuple.tupleItemsOf (.ref t) >>= _) _ _ s
  refine wpAny_bind (tupleItemsOf_ ht ?_)
  refine wpAny_bind (wpAny_typeOf hTs ?_)
  rw [if_pos (by decide)]
  refine wpAny_bind (sliceApplied_rev hs ?_)
  have hno : ¬ (((((items.size : Nat) : Int) - 1) == 0 && (-1 : Int) == 1 && items.size == items.size) = true) := by
    intro q
    rw [Bool.and_eq_true, Bool.and_eq_true] at q
    exact absurd q.1.2 (by decide)
  show wpAny _ _ (if ((((items.size : Nat) : Int) - 1) == 0 && (-1 : Int) == 1 && items.size == items.size) = true then _ else _) _ _ s
  rw [if_neg hno, pick_rev]
  first
    | exact wpAny_bind (m := Builtin.Tuple.tupleExact _) (wpAny_newObj_type (wpAny_pure ⟨_, rfl, wpAny_pure h⟩) htake)
    | exact wpAny_bind (m := Builtin.Tuple.tupleExact _) (wpAny_newObj_type (wpAny_bind (wpAny_pure (wpAny_pure ⟨_, rfl, wpAny_pure h⟩))) htake)
    | exact wpAny_bind (wpAny_bind (m := Builtin.Tuple.tupleExact _) (wpAny_newObj_type (wpAny_pure (wpAny_pure ⟨_, rfl, wpAny_pure h⟩)) htake))
    | exact wpAny_bind (wpAny_bind (m := Builtin.Tuple.tupleExact _) (wpAny_newObj_type (wpAny_pure ⟨_, rfl, wpAny_pure h⟩) htake))
def tRevT (K : PySem.W.Frag) (te : TE) : TE := fun σ H Q => te σ H fun x H1 => ∃ a xs, x = .ref a ∧ SqT K H1 a xs ∧ ∀ p, H1 p = none → Q (.ref p) (upd H1 p (.tup xs.reverse))
theorem pe_revT {e : Expr} {te : TE} {k : Nat} {p1 p2 p3 : Pos} (he : PE X e te) : PE X (.Subscript e (.Slice none none (some (.UnaryOp .USub (.Constant (.int 1) k p1) p2)) p3) pos) (tRevT X.K te) := by
  refine ⟨fun pins s σ H Q I h => ?_⟩
  refine Subscript_ (thn (he.run pins s σ H _ I h) fun v s1 ⟨x, H1, I1, r1, q1⟩ => ?_)
  obtain ⟨a, xs, ex, hx, q⟩ := q1
  subst ex
  cases r1
  have hst : PO X (some (.UnaryOp .USub (.Constant (.int 1) k p1) p2)) (tPart (tUn (rU fun i => .int (-i)) (tC (.int 1)))) := po_some (pe_un un_neg pe_int)
  refine wpAny_Slice (thn (po_none.run pins s1 σ H1 (fun o H2 => o = none ∧ H2 = H1) I1 ⟨rfl, rfl⟩) fun vl s2 ⟨l, H2, I2, pl, el, e2⟩ => ?_)
  subst el e2
  refine thn (po_none.run pins s2 σ H2 (fun o H3 => o = none ∧ H3 = H2) I2 ⟨rfl, rfl⟩) fun vu s3 ⟨u, H3, I3, pu, eu, e3⟩ => ?_
  subst eu e3
  refine thn (hst.run pins s3 σ H3 (fun o H4 => o = some (-1) ∧ H4 = H3) I3 ⟨1, rfl, -1, rfl, rfl, rfl⟩) fun vs s4 ⟨o, H4, I4, ps, eo, e4⟩ => ?_
  subst eo e4
  cases pl
  cases pu
  obtain ⟨tk, rfl⟩ : ∃ tk, vs = Value.int (-1) tk := by
    cases ps with
    | int i t => exact ⟨t, rfl⟩
  have I5 : L2.Inv X pins σ H4 { s4 with heap := s4.heap.push { cls := .type "slice", data := .fields #[.none, .none, .int (-1) tk] } } := I4.kept (t' := s4.toks) fun b ob q => Heap.get?_push_of_some _ q
  obtain ⟨its, r, ht, hz⟩ := I5.tuple hx
  have hlen := r.length
  show wpAny (model X.prog X.w) X.A (subscriptTail e (.Slice none none (some (.UnaryOp .USub (.Constant (.int 1) k p1) p2)) p3) (.ref a) (.ref s4.heap.objs.size)) (EP X pins σ Q) X.xe { s4 with heap := s4.heap.push { cls := .type "slice", data := .fields #[.none, .none, .int (-1) tk] } }
  refine tail_any (ops := [.ref a, .ref s4.heap.objs.size]) ht.typeIs (PySem.F.slot_tuple_getitem.lookup) ?_ (by with_unfolding_all rfl)
  refine getItem_tuple_rev ht (Heap.IsSliceOf.new _ .none .none (.int (-1) tk)) ?_ (by rw [List.size_toArray]; omega)
  refine ⟨.ref _, _, I5.laid (t' := s4.toks) (o := .tup xs.reverse) (fun b ob q => Heap.get?_push_of_some _ q) (Nat.le_refl _) ?_, rfl, q _ (I5.hok.fresh (Nat.le_refl _))⟩
  exact ⟨by rw [List.length_reverse]; exact hz, _, r.reverse, IsTup.new _ _⟩
def revTD : D → Option D
  | .tup ds => some (.tup ds.reverse)
  | _ => none
theorem r_revT {e : Expr} {m : En → M D} {k : Nat} {p1 p2 p3 : Pos} (he : PE X e (lift X.K dk l W m)) : PE X (.Subscript e (.Slice none none (some (.UnaryOp .USub (.Constant (.int 1) k p1) p2)) p3) pos) (lift X.K dk l W (eUn revTD m)) := PE_imp (pe_revT he) fun σ H Q ⟨I, env, s, e, w, q⟩ => by
  refine ⟨I, env, s, e, w, q.bind.mono (fun x s1 q v I1 H1 x1 w1 r1 => ?_) fun _ _ _ h => h⟩
  obtain ⟨d, e2, q⟩ := q.opt
  cases x with
  | tup ds =>
    cases e2
    obtain ⟨a, vs, rfl, h1, h2⟩ := r1
    refine ⟨a, vs, rfl, SqT.of (w1.sub _ _ h1), fun p hp => q _ (upd I1 p (.tup vs.reverse)) _ (x1.trans (Ext.new w1 hp) (w1.new hp)) (w1.new hp) ⟨p, _, rfl, upd_same, RepL.mono (Sm.upd (w1.sub.none hp)) _ _ h2.reverse⟩⟩
  | _ => cases e2
end
end PV

end

section
set_option maxRecDepth 100000
open PySem PySem.Spec PyProof.Rows L2
namespace PV
section
variable {X : Cx} {dk l : Addr}
/-! ### abs, min, x is None -/
def absD : D → Option D
  | .int i => some (.int (if i < 0 then -i else i))
  | _ => none
theorem c_abs : CallD X dk l (.builtin "abs") (g1 absD) := callD1 call_abs fun I H s x v d Q w r e q => by
  cases x with
  | int i => cases e; exact ⟨i, by rw [show v = _ from r], q _ I H Ext.refl w rfl⟩
  | _ => cases e
def gMin : List D → Option D
  | [.int i, .int j] => some (.int (if j < i then j else i))
  | _ => none
theorem c_min (hc : X.calm = true) : CallD X dk l (.builtin "min") gMin := by
  refine ⟨_, call_min2 hc, fun I H s ds vs d Q w rs e q => ?_⟩
  rcases ds with _ | ⟨x, _ | ⟨y, _ | ⟨z, t⟩⟩⟩
  · cases e
  · cases x <;> cases e
  · cases x <;> cases y <;> first | cases e | skip
    obtain ⟨v, r', rfl, h1, v2, r2, rfl, h2, h3⟩ := rs
    have h4 : r2 = [] := h3
    subst h4
    exact ⟨_, _, by rw [show v = _ from h1, show v2 = _ from h2], q _ I H Ext.refl w rfl⟩
  · cases x <;> cases y <;> cases e
theorem o_isN : OpD X dk l (compareOp .Is) isND := by
  refine ⟨_, op_isN, fun I H s x y v u d Q w rx ry e q => ?_⟩
  cases y with
  | non =>
    refine ⟨show u = _ from ry, ?_⟩
    cases x <;> first | cases e | skip
    · rw [show v = _ from rx]; exact q _ I H Ext.refl w rfl
    · rw [show v = _ from rx]; exact q _ I H Ext.refl w rfl
    · rw [show v = _ from rx]; exact q _ I H Ext.refl w rfl
    · rw [show v = _ from rx]; exact q _ I H Ext.refl w rfl
    · obtain ⟨a, vs, rfl, _⟩ := rx; exact q _ I H Ext.refl w rfl
    · obtain ⟨a, vs, rfl, _⟩ := rx; exact q _ I H Ext.refl w rfl
    · obtain ⟨a, vs, rfl, _⟩ := rx; exact q _ I H Ext.refl w rfl
    · obtain ⟨a, vs, rfl, _⟩ := rx; exact q _ I H Ext.refl w rfl
  | _ => cases x <;> cases e
theorem o_notN : OpD X dk l (compareOp .IsNot) isntND := by
  refine ⟨_, op_notN, fun I H s x y v u d Q w rx ry e q => ?_⟩
  cases y with
  | non =>
    refine ⟨show u = _ from ry, ?_⟩
    cases x <;> first | cases e | skip
    · rw [show v = _ from rx]; exact q _ I H Ext.refl w rfl
    · rw [show v = _ from rx]; exact q _ I H Ext.refl w rfl
    · rw [show v = _ from rx]; exact q _ I H Ext.refl w rfl
    · rw [show v = _ from rx]; exact q _ I H Ext.refl w rfl
    · obtain ⟨a, vs, rfl, _⟩ := rx; exact q _ I H Ext.refl w rfl
    · obtain ⟨a, vs, rfl, _⟩ := rx; exact q _ I H Ext.refl w rfl
    · obtain ⟨a, vs, rfl, _⟩ := rx; exact q _ I H Ext.refl w rfl
    · obtain ⟨a, vs, rfl, _⟩ := rx; exact q _ I H Ext.refl w rfl
  | _ => cases x <;> cases e
/-! ### gcd, lcm (names of the module math) -/
def gGcd : List D → Option D
  | [.int a, .int b] => some (.int ((Nat.gcd a.natAbs b.natAbs : Nat) : Int))
  | _ => none
def gLcm : List D → Option D
  | [.int a, .int b] => if a.natAbs < 2 ^ 64 ∧ b.natAbs < 2 ^ 64 then some (.int ((Nat.lcm a.natAbs b.natAbs : Nat) : Int)) else none
  | _ => none
theorem cr_lcm : CallR X (.builtin "math.lcm") (fun vs H Q => ∃ a b : Int, vs = [.int a, .int b] ∧ a.natAbs < 2 ^ 64 ∧ b.natAbs < 2 ^ 64 ∧ Q (.int ((Nat.lcm a.natAbs b.natAbs : Nat) : Int)) H) := by
  intro pins s σ H vs us Q I r h
  obtain ⟨a, b, rfl, ha, hb, q⟩ := h
  obtain ⟨t, u, rfl⟩ := Vals.int2 r
  exact PySem.W.mc_lcm ha hb fun _ => ⟨.int _, H, I.tok _, ⟨_, rfl⟩, q⟩
theorem c_gcd : CallD X dk l (.builtin "math.gcd") gGcd := by
  refine ⟨_, cr_gcd, fun I H s ds vs d Q w rs e q => ?_⟩
  rcases ds with _ | ⟨x, _ | ⟨y, _ | ⟨z, t⟩⟩⟩
  · cases e
  · cases x <;> cases e
  · cases x <;> cases y <;> first | cases e | skip
    obtain ⟨v, r', rfl, h1, v2, r2, rfl, h2, h3⟩ := rs
    have h4 : r2 = [] := h3
    subst h4
    exact ⟨_, _, by rw [show v = _ from h1, show v2 = _ from h2], q _ I H Ext.refl w rfl⟩
  · cases x <;> cases y <;> cases e
theorem c_lcm : CallD X dk l (.builtin "math.lcm") gLcm := by
  refine ⟨_, cr_lcm, fun I H s ds vs d Q w rs e q => ?_⟩
  rcases ds with _ | ⟨x, _ | ⟨y, _ | ⟨z, t⟩⟩⟩
  · cases e
  · cases x <;> cases e
  · cases x <;> cases y <;> first | cases e | skip
    rename_i a b
    obtain ⟨v, r', rfl, h1, v2, r2, rfl, h2, h3⟩ := rs
    have h4 : r2 = [] := h3
    subst h4
    simp only [gLcm] at e
    by_cases hz : a.natAbs < 2 ^ 64 ∧ b.natAbs < 2 ^ 64
    · rw [if_pos hz] at e
      cases e
      exact ⟨_, _, by rw [show v = _ from h1, show v2 = _ from h2], hz.1, hz.2, q _ I H Ext.refl w rfl⟩
    · rw [if_neg hz] at e; cases e
  · cases x <;> cases y <;> cases e
theorem r_callM {W : WX} {x : Str} {p pos : Pos} {e : Expr} {es : List Expr} {id : String} {g : List D → Option D} {n : En → M (List D)} (c : CallD X dk l (.builtin id) g) (hg : Gl X x) (hm : X.mg x = some (.builtin id)) (ha : PA X (e :: es) (liftA X.K dk l W n))
    (hdb : (x == ("__debug__" : Str)) = false := by decide) (he : starEach (e :: es) X.env = (false, eval e X.env) :: starEach es X.env := by rfl) (hpl : (backTo pos (starEach es X.env)).any (·.1) = false := by rfl) :
    PE X (.Call (.Name x p) (e :: es) [] pos) (lift X.K dk l W (eMapA g n)) := by
  obtain ⟨r, hr, h⟩ := c
  exact PE_imp (pe_callBfun hr hg hm ha hdb he hpl) fun σ H Q ⟨I, env, s, k, w, q⟩ => by
    refine ⟨I, env, s, k, w, q.bind.mono (fun ds s1 q vs I1 H1 x1 w1 r1 => ?_) fun _ _ _ h => h⟩
    obtain ⟨d, e2, q⟩ := q.opt
    exact h I1 H1 s1 ds vs d Q w1 r1 e2 fun v I2 H2 x2 w2 r2 => q v I2 H2 (x1.trans x2 w2) w2 r2
theorem bt_min : bootBuiltins "min" = some (.builtin "min") := by kernel_rfl
end
/-! ### a, b, c = e1, e2, e3 with plain local names -/
section
variable {X : Cx} {dk l : Addr} {W : WX} {I0 H0 : Hp} {pos : Pos}
theorem p_par3 {i j n : Nat} {x y z : Str} {a b c : Expr} {m : En → M (List It2)} {px py pz pt : Pos} {kt k2 pt2} (hc : X.calm = true) (hN : X.N.Nodup) (hi : X.N[i]? = some x) (hj : X.N[j]? = some y) (hn : X.N[n]? = some z) (hij : i ≠ j) (hil : i ≠ n) (hjl : j ≠ n)
    (hx : X.env.scope.names.lookup x = some .local) (hy : X.env.scope.names.lookup y = some .local) (hz : X.env.scope.names.lookup z = some .local) (ha : PA X [a, b, c] (lift2 X.K dk l W m))
    (hw : swappedStores [.Tuple [.Name x px, .Name y py, .Name z pz] kt pt] (.Tuple [a, b, c] k2 pt2) X.env = pure (some [x, y, z]))
    (hs : swapsWithSole [.Tuple [.Name x px, .Name y py, .Name z pz] kt pt] (.Tuple [a, b, c] k2 pt2) pos.line X.env = pure false := by rfl) :
    PS X (.Assign [.Tuple [.Name x px, .Name y py, .Name z pz] kt pt] (.Tuple [a, b, c] k2 pt2) pos) (liftS X.K dk l W I0 H0 (sAsg2 [i, j, n] m)) := PS_imp (ps_par3 hc hN hi hj hn hij hil hjl hx hy hz ha hw hs) fun D σ H ⟨I, env, s, k, q⟩ => by
  refine ⟨I, env, s, k.eok, k.wo, q.bind.mono (fun xs s1 q vs I1 H1 x1 w1 r1 nw => ?_) fun _ _ _ h => k.exq h⟩
  by_cases hl : xs.length ≤ 1000
  · simp only [hl, if_true] at q
    obtain ⟨e2, e3, q⟩ := q.bind.opt
    have h := bind2_ok [i, j, n] xs vs env e2 σ (fun σ' H' => D.nx σ' H') (k.grow x1 w1) r1 (New2.back k.ext r1 nw) e3 (fun p hp hi' j' u h => ?_) fun σ' k' => q σ' I1 H1 x1.grow k'
    · obtain ⟨v, ws, e4, v2, ws2, e5, v3, ws3, e6, e7, e8⟩ := h
      have e9 : ws3 = [] := e7
      subst e4 e5 e6 e9
      exact ⟨v, v2, v3, rfl, e8⟩
    · by_cases hk : p = dk
      · intro z
        obtain ⟨p', y1, y2, y3, _⟩ := k.eok.own j' u h
        rw [z] at y1
        cases y1
        exact y3 hk
      · exact New2.ap k.eok r1 nw p hp hi' hk j' u h
  · simp only [hl, if_false] at q
    exact q.elim
end
/-! ### xs[e] of one's own list; xs[lo:hi] as one's own list -/
section
variable {X : Cx} {dk l : Addr} {W : WX} {pos : Pos}
def atD (ds : List D) : D → Option D
  | .int k => atI ds k
  | _ => none
def eOwnIx (i : Nat) (mk : En → M D) : En → M D := fun env => andThen (opt (ownL env i)) fun ds => andThen (mk env) fun y => opt (atD ds y)
theorem r_ownIx {o e : Expr} {i : Nat} {mk : En → M D} (ho : PE X o (tVar i)) (he : PE X e (lift X.K dk l W mk)) (hs : PlainIx e) : PE X (.Subscript o e pos) (lift X.K dk l W (eOwnIx i mk)) := PE_imp (pe_ix ix_list ho he hs) fun σ H Q ⟨I, env, s, k, w, q⟩ => by
  obtain ⟨ds, hd, q⟩ := q.bind.opt
  have hd := ownL_eq hd
  obtain ⟨p, y1, ⟨vs, y2, y3⟩, n1, n2, n3⟩ := k.own i _ hd
  refine ⟨_, y1, I, env, s, k, w, q.bind.mono (fun y s1 q u I1 H1 x1 w1 r1 => ?_) fun _ _ _ h => h⟩
  obtain ⟨d, e1, q4⟩ := q.opt
  cases y with
  | int j =>
    obtain ⟨v', a1, a2⟩ := atI_rep (RepL.mono x1.grow _ _ y3) (show atI ds j = some d from e1)
    exact ⟨p, vs, j, v', rfl, r1, .of (x1.keep p _ y2 n1 n2), a1, q4 v' I1 H1 x1 w1 a2⟩
  | _ => cases e1
def cutO : D → Option Int → Option Int → Option OD
  | .lst ds, lo, hi => some (.lst (cutL ds lo hi))
  | _, _, _ => none
def eSliceO (m : En → M D) (a b : En → M (Option Int)) : En → M OD := fun env => andThen (m env) fun d => andThen (a env) fun lo => andThen (b env) fun hi => opt (cutO d lo hi)
theorem r_sliceO {e : Expr} {lo hi : Option Expr} {p2 : Pos} {m : En → M D} {ma mb : En → M (Option Int)} (he : PE X e (lift X.K dk l W m)) (hl : PO X lo (liftP X.K dk l W ma)) (hh : PO X hi (liftP X.K dk l W mb)) : PE X (.Subscript e (.Slice lo hi none p2) pos) (liftO X.K dk l W (eSliceO m ma mb)) := PE_imp (pe_slice sl_list he hl hh) fun σ H Q ⟨I, env, s, k, w, q⟩ => by
  refine ⟨I, env, s, k, w, q.bind.mono (fun d s1 q v I1 H1 x1 w1 r1 => ?_) fun _ _ _ h => h⟩
  refine ⟨I1, env, s1, k.ext x1, w1, q.bind.mono (fun a s2 q I2 H2 x2 w2 => ?_) fun _ _ _ h => h.shift x1⟩
  refine ⟨I2, env, s2, (k.ext x1).ext x2, w2, q.bind.mono (fun b s3 q I3 H3 x3 w3 => ?_) fun _ _ _ h => h.shift (x1.trans x2 w2)⟩
  obtain ⟨d', e1, q⟩ := q.opt
  have x13 := (x1.trans x2 w2).trans x3 w3
  have r3 := Rep.mono (x2.grow.trans x3.grow) d v r1
  cases d with
  | lst ds =>
    cases e1
    obtain ⟨p, vs, rfl, h1, h2⟩ := r3
    refine ⟨p, vs, rfl, SqL.of (w3.sub _ _ h1), fun t ht => ?_⟩
    have n1 : t ≠ dk := (ne_of_none w3.dko ht).symm
    have n2 : t ≠ l := (ne_of_none w3.lft ht).symm
    have n3 : I3 t = none := w3.sub.none ht
    refine q t I3 _ (x13.trans (Ext.off w3 ht) (w3.off n3 n1 n2)) (w3.off n3 n1 n2) ?_ ⟨_, upd_same, cut_rep h2 a b⟩ n1 n2 n3
    cases r : H t with
    | none => rfl
    | some u => rw [x13.keep t u r n1 n2] at ht; cases ht
  | _ => cases e1
end
/-! ### xs[i], xs[j] = e1, e2 of one's own list -/
section
variable {X : Cx} {dk l : Addr} {W : WX} {I0 H0 : Hp} {pos : Pos}
def stAt (env : En) (i : Nat) (d : D) : D → Option En
  | .int j => (ownL env i).bind fun ds => (ixN ds.length j).map fun n => env.set i (.own (.lst (ds.set n d)))
  | _ => none
def sStore2 (i : Nat) (ma : En → M (List D)) (i1 i2 : En → M D) : En → M Fl := fun env => andThen (opt (ownL env i)) fun _ => andThen (ma env) fun vs => match vs with
  | [d1, d2] => andThen (i1 env) fun x1 => andThen (opt (stAt env i d1 x1)) fun e1 => andThen (i2 e1) fun x2 => andThen (opt (stAt e1 i d2 x2)) fun e2 => ret (.nx e2)
  | _ => bad
theorem st_step {I H : Hp} {env : En} {σ : L2.St} {s : Dk} {i : Nat} {v : V} {d : D} {ds : List D} {mi : En → M D} {kf : En → M Fl} {A : Fl → Dk → Prop} {Q : L2.St → Hp → Prop} (k : SOk X.K dk l I0 H0 I H env σ s) (rv : Rep X.K I dk d v) (hd : env[i]? = some (.own (.lst ds)))
    (q : Post (andThen (mi env) (fun x => andThen (opt (stAt env i d x)) kf) s) A (exS X.K dk l W I0 H0))
    (next : ∀ env' s' I' H', SOk X.K dk l I0 H0 I' H' env' σ s' → Sm I I' → (∃ ds', env'[i]? = some (.own (.lst ds'))) → Post (kf env' s') A (exS X.K dk l W I0 H0) → Q σ H') :
    gSub (tVar i) (lift X.K dk l W mi) rSetL v σ H Q := by
  obtain ⟨p, y1, ⟨ws, y2, y3⟩, m1, m2, m3⟩ := k.eok.own i _ hd
  refine ⟨.ref p, y1, I, env, s, k.eok, k.wo, q.bind.mono (fun x s2 q u I2 H2 x2 w2 r2 => ?_) fun _ _ _ h => k.exq h⟩
  have k2 := k.grow x2 w2
  obtain ⟨e1, h1, q4⟩ := q.bind.opt
  cases x with
  | int j =>
    have ho : ownL env i = some ds := by unfold ownL; rw [hd]
    simp only [stAt, ho, Option.bind_some] at h1
    cases hz : ixN ds.length j with
    | none => rw [hz] at h1; cases h1
    | some n =>
      rw [hz, Option.map_some] at h1
      cases h1
      obtain ⟨p', y1', ⟨us, f1, f2⟩, c1, c2, c3⟩ := k2.eok.own i _ hd
      rw [y1] at y1'
      cases y1'
      exact ⟨p, us, j, n, rfl, r2, f1, by rw [← f2.length]; exact hz, next _ _ _ _ (k2.put (u := .lst (ds.set n d)) hd y1 c1 c2 c3 ⟨_, upd_same, f2.set n (Rep.mono x2.grow _ _ rv)⟩) x2.grow ⟨_, List.getElem?_set_self (List.getElem?_eq_some_iff.mp hd).1⟩ q4⟩
  | _ => cases h1
theorem p_store2 {ts es : List Expr} {x1 x2 : Nat} {pt pv : Pos} {i : Nat} {ma : En → M (List D)} {i1 i2 : En → M D} (h : PA X es (liftA X.K dk l W ma)) (hg : PG X (.Tuple ts x1 pt) (gTup X.K 2 (gCons (gSub (tVar i) (lift X.K dk l W i1) rSetL) (gCons (gSub (tVar i) (lift X.K dk l W i2) rSetL) gNil))))
    (hs : swapsWithSole [.Tuple ts x1 pt] (.Tuple es x2 pv) pos.line X.env = pure false := by rfl) (hw : swappedStores [.Tuple ts x1 pt] (.Tuple es x2 pv) X.env = pure none := by rfl)
    (h1 : (assignEach [.Tuple ts x1 pt] X.env).map (·.2) = [assign (.Tuple ts x1 pt) X.env] := by rfl) : PS X (.Assign [.Tuple ts x1 pt] (.Tuple es x2 pv) pos) (liftS X.K dk l W I0 H0 (sStore2 i ma i1 i2)) := PS_imp (ps_asg (pe_tup h) hg hs hw h1) fun D σ H ⟨I, env, s, k, q⟩ => by
  obtain ⟨ds, hd, q⟩ := q.bind.opt
  have hd := ownL_eq hd
  refine ⟨I, env, s, k.eok, k.wo, q.bind.mono (fun xs s1 q vs I1 H1 x1 w1 r1 => ?_) fun _ _ _ h => k.exq h⟩
  rcases xs with _ | ⟨d1, _ | ⟨d2, _ | ⟨d3, xs⟩⟩⟩
  · exact q.elim
  · exact q.elim
  · obtain ⟨v1, r', rfl, a1, v2, r2, rfl, a2, a3⟩ := r1
    have a4 : r2 = [] := a3
    subst a4
    refine ⟨by show 2 ≤ sizeLine; rw [sizeLine_eq]; decide, fun T hT => ?_⟩
    have t1 : T ≠ dk := (ne_of_none w1.dko hT).symm
    have t2 : T ≠ l := (ne_of_none w1.lft hT).symm
    have t3 : I1 T = none := w1.sub.none hT
    have kT := (k.grow x1 w1).grow (Ext.off (o := .tup [v1, v2]) w1 hT) (w1.off (o := .tup [v1, v2]) t3 t1 t2)
    refine ⟨T, [v1, v2], rfl, SqT.of upd_same, rfl, v1, [v2], rfl, ?_⟩
    refine st_step kT a1 hd q fun e1 s2 I2 H2 k2 y2 ⟨ds2, hd2⟩ q2 => ⟨v2, [], rfl, ?_⟩
    exact st_step k2 (Rep.mono y2 _ _ a2) hd2 q2 fun e2 s3 I3 H3 k3 y3 _ q3 => ⟨rfl, q3 σ I3 H3 (x1.grow.trans (y2.trans y3)) k3⟩
  · exact q.elim
end
end PV

end

section
set_option maxRecDepth 100000
namespace PV
open PySem PySem.Spec PyProof.Rows L2
theorem bt_set : bootBuiltins "set" = some (.type "set") := by kernel_rfl
/-! ### sorted(set(xs)), xs a list of tuples of ints, of any lengths -/
section
variable {P : Program} {w : World} {A : Around} {E : Value → Shared → Prop} {s : Shared}
theorem ti_isT {h : Heap} {k : List Int} {b : Addr} (x : IsT P w h k b) : TI h (.ref b) k := tupInts_of (P := P) (w := w) x
theorem refs_lift {L : List (Addr × List Int)} : ∀ (o : List Value), (∀ v ∈ o, ∃ p ∈ L, v = Value.ref p.1) → ∃ us : List (Addr × List Int), (∀ q ∈ us, q ∈ L) ∧ o = us.map fun p => Value.ref p.1
  | [], _ => ⟨[], fun q h => by simp at h, rfl⟩
  | v :: o, h => by
    obtain ⟨us, h1, h2⟩ := refs_lift o fun u hu => h u (List.mem_cons_of_mem _ hu)
    obtain ⟨p, hp, e⟩ := h v List.mem_cons_self
    refine ⟨p :: us, fun q hq => ?_, by rw [List.map_cons, ← h2, e]⟩
    rcases List.mem_cons.mp hq with z | z
    · rw [z]; exact hp
    · exact h1 q z
theorem sort_setL {a : Addr} {L : List (Addr × List Int)} {es : Array (Int × Value)} {ep : Nat} {t : SetTable} {Q : Value → Shared → Prop} (hu : A.units + 8 < cLine) (R : SetTR P w s.heap a L es ep t) (hh : A.handled = none)
    (hQ : ∀ s' p (out : List Value) (c : Nat) (us : List (Addr × List Int)), (∀ b o, s.heap.get? b = some o → s'.heap.get? b = some o) → s'.gens = s.gens → s'.os = s.os → s.heap.objs.size ≤ p →
      s'.heap.get? p = some (seqObj "list" out.toArray c) → out = us.map (fun q => Value.ref q.1) → (∀ q ∈ us, q ∈ L) → us.map (·.2) = sortL (L.map (·.2)) → Q (.ref p) s') :
    wpAny (model P w) A (call (.builtin "sorted") [.ref a]) Q E s := by
  obtain ⟨o, ho, hex, hd⟩ := R.ob
  have hfew := R.few
  have hu2 : A.in1.in1.units < cLine := by have h0 : A.in1.in1.units = A.units + 1 + 1 := rfl
                                           omega
  have hsz := R.size
  refine Calls.call_function_entry kind_sorted plain_sorted entry_sorted (args_sorted1 _) (show wpAny (model P w) A.in1 (Builtin.«sorted» _) _ _ _ from ?_)
  unfold Builtin.«sorted»
  refine wpAny_bind (m := checkCount "sorted" 1 1 _) (wpAny_pure (wpAny_bind (collect_set (A := A.in1) hh ⟨o, ho, hex.1, hd⟩ R.fits (by unfold scanBound; omega) R.tab.ris R.led fun s1 vs k1 hz g1 o1 pm => ?_)))
  have ev : es.toList.map (·.2) = L.map fun q => Value.ref q.1 := by
    rw [R.rows, rowsOf, List.map_map]; rfl
  rw [ev] at pm
  have hln : vs.length ≤ sizeLine := by
    rw [pm.length_eq, List.length_map, sizeLine_eq]; omega
  refine wpAny_bind (wpAny_newList ?_ hln)
  have hoL : (s1.heap.push (seqObj "list" vs.toArray 0)).get? s1.heap.objs.size = some (seqObj "list" vs.toArray 0) := Heap.get?_push_size _ rfl
  have tk : ∀ q ∈ L, TI (s1.heap.push (seqObj "list" vs.toArray 0)) (.ref q.1) q.2 := fun q hq => ti_isT (P := P) (w := w) (isT_keep (R.tup q hq) fun b u e => Heap.get?_push_of_some _ (k1 b u e))
  have back : ∀ zs : List (Addr × List Int), (∀ q ∈ zs, q ∈ L) → (zs.map fun p => Value.ref p.1).map (TS.intsOf (s1.heap.push (seqObj "list" vs.toArray 0))) = zs.map (·.2) := fun zs hz => by
    rw [List.map_map]
    exact List.map_congr_left fun p hp => (tk p (hz p hp)).ints
  have tiv : ∀ v ∈ vs, TI (s1.heap.push (seqObj "list" vs.toArray 0)) v (TS.intsOf (s1.heap.push (seqObj "list" vs.toArray 0)) v) := fun v hv => by
    obtain ⟨p, hp, rfl⟩ := List.mem_map.mp (pm.mem_iff.mp hv)
    have := tk p hp
    rw [this.ints]
    exact this
  refine wpAny_bind (wpAny_holding (wpAny_call_entry (s := { s1 with heap := s1.heap.push (seqObj "list" vs.toArray 0) }) slot_list_sort ⟨_, hoL, rfl⟩ entry_list_sort (SrtO.list_sort_ord (swo_lexLt (TS.intsOf (s1.heap.push (seqObj "list" vs.toArray 0)))) hoL hln (fun h2 => ?_) fun out hs hb => ⟨_, rfl, ?_⟩) (args_list_sort _)))
  · refine tup_sortable (k := TS.intsOf (s1.heap.push (seqObj "list" vs.toArray 0))) (A := A.in1.in1) hu2 h2 tiv fun o e c => ?_
    have e' : some o = some (seqObj "list" vs.toArray 0) := e.symm.trans hoL
    cases e'
    exact absurd (Value.type.inj c) (by decide)
  · have hp := hb.perm
    obtain ⟨us, hus, eo⟩ := refs_lift out fun v hv => by
      obtain ⟨p, hp, e⟩ := List.mem_map.mp (pm.mem_iff.mp (hp.mem_iff.mp hv))
      exact ⟨p, hp, e.symm⟩
    subst eo
    obtain ⟨c, hc⟩ := sortedHeap_at (vs := vs) (out := (us.map fun p => Value.ref p.1).toArray) hoL
    refine wpAny_pure ⟨_, rfl, hQ _ s1.heap.objs.size _ c us (fun b u e => ?_) g1 o1 hz hc rfl hus ?_⟩
    · have q := k1 b u e
      have hlt := Heap.lt_size q
      show (sortedHeap (s1.heap.push (seqObj "list" vs.toArray 0)) s1.heap.objs.size vs _).get? b = some u
      rw [sortedHeap_old (Nat.ne_of_lt hlt) (by rw [size_push']; exact Nat.lt_succ_of_lt hlt)]
      exact Heap.get?_push_of_some _ q
    · refine perm_srtd_eq (lt := HT.lexLt) (fun x y h1 h2 => lexLt_tot x y h1 h2) ?_ ?_ (sortL_sorted _)
      · have h3 := (hp.trans pm).map (TS.intsOf (s1.heap.push (seqObj "list" vs.toArray 0)))
        rw [back us hus, back L fun q h => h] at h3
        exact h3.trans (sortL_perm _).symm
      · have h4 : ((us.map fun p => Value.ref p.1).map (TS.intsOf (s1.heap.push (seqObj "list" vs.toArray 0)))).Pairwise fun a b => HT.lexLt b a = false := List.pairwise_map.mpr hs
        rw [back us hus] at h4
        exact h4
end
section
variable {X : Cx} {dk l : Addr} {W : WX} {pos p p2 pos2 : Pos} {e : Expr}
/-- sorted(s), s such a set -/
def rSortSet (K : PySem.W.Frag) (P : Program) (w : World) : List V → Hp → VK → Prop := fun vs H Q => ∃ (a : Addr) (L : List (Addr × List Int)), vs = [V.ref a] ∧ H a = some (SetTO P w a L) ∧ (∀ p ∈ L, SqT K H p.1 (p.2.map V.int)) ∧
  ∀ (us : List (Addr × List Int)) (p : Addr), (∀ q ∈ us, q ∈ L) → (L.map (·.2)).Nodup → us.map (·.2) = sortL (L.map (·.2)) → H p = none → Q (.ref p) (upd H p (.lst (ownTs us)))
theorem cr_sortSet (hc : X.calm = true) (hu : X.A.units + 8 < cLine) : CallR X (.builtin "sorted") (rSortSet X.K X.prog X.w) := by
  intro pins s σ H vs us Q I r h
  obtain ⟨a, L, rfl, ha, hk, q⟩ := h
  obtain ⟨es, ep, t, R⟩ := (show SetT0 X.prog X.w s.heap a L from (I.hok a _ ha).1).full fun p hp => I.isT (hk p hp)
  rw [Vals.ref1 r]
  refine sort_setL hu R (I.ok.hd hc) fun s' p out c us k g o hp hg hout hus es => ?_
  subst hout
  have hl : us.length < 64 := by
    have h1 : (us.map (·.2)).length = (sortL (L.map (·.2))).length := by rw [es]
    rw [List.length_map, (sortL_perm _).length_eq, List.length_map] at h1
    have := R.few
    omega
  have hlen : (ownTs us).length ≤ sizeLine := by unfold ownTs; rw [List.length_map, sizeLine_eq]; omega
  have hn : H p = none := I.hok.fresh hp
  have hv : Vals (ownTs us) (us.map fun q => Value.ref q.1) := ownTs_vals us
  have J : Inv X pins σ (upd H p (.lst (ownTs us))) { s with heap := s'.heap, gens := s'.gens, drawn := s'.drawn, toks := s'.toks } :=
    I.call (ch := []) (Un.laid k hp hn) (I.hok.laid k hp ⟨hlen, _, c, hv, hg⟩) (by rw [g]; exact I.bare) (fun _ z => nomatch z)
  have es' : s' = { s with heap := s'.heap, gens := s'.gens, drawn := s'.drawn, toks := s'.toks } := by
    obtain ⟨_, _, _, _, _⟩ := s'
    obtain ⟨_, _, _, _, _⟩ := s
    cases o
    rfl
  rw [es']
  exact ⟨.ref p, _, J, rfl, q us p hus R.nd es hn⟩
def sortSetL (nss : List (List Int)) : List (List Int) := sortL nss.eraseDups
def gSortSet : List D → Option OD
  | [.lst ds] => match tupIs? ds with
    | some nss => if nss.length < 64 then some (.lst ((sortSetL nss).map tupI)) else none
    | none => none
  | _ => none
theorem eraseDups_nodup {α : Type} [BEq α] [LawfulBEq α] : ∀ (n : Nat) (xs : List α), xs.length ≤ n → xs.eraseDups.Nodup ∧ ∀ x, x ∈ xs.eraseDups ↔ x ∈ xs
  | _, [], _ => by simp
  | 0, _ :: _, h => by simp at h
  | n + 1, x :: xs, h => by
    rw [List.eraseDups_cons]
    have hl : (xs.filter fun b => !b == x).length ≤ n := Nat.le_trans (List.length_filter_le _ _) (by simpa using h)
    obtain ⟨h1, h2⟩ := eraseDups_nodup n _ hl
    refine ⟨List.nodup_cons.mpr ⟨fun hx => ?_, h1⟩, fun y => ?_⟩
    · have := (h2 x).mp hx
      simp at this
    · rw [List.mem_cons, List.mem_cons, h2 y]
      by_cases hy : y = x
      · simp [hy]
      · simp [hy]
theorem sortL_same {xs ys : List (List Int)} (hx : xs.Nodup) (hy : ys.Nodup) (h : ∀ a, a ∈ xs ↔ a ∈ ys) : sortL xs = sortL ys :=
  perm_srtd_eq (lt := HT.lexLt) (fun x y h1 h2 => lexLt_tot x y h1 h2) ((sortL_perm xs).trans (((List.perm_ext_iff_of_nodup hx hy).mpr h).trans (sortL_perm ys).symm)) (sortL_sorted _) (sortL_sorted _)
theorem r_sortSet {n : En → M (List D)} (hc : X.calm = true) (hu : X.A.units + 64 < cLine) (hg : Gl X "sorted") (hm : X.mg "sorted" = none) (hg2 : Gl X "set") (hm2 : X.mg "set" = none) (ha : PA X [e] (liftA X.K dk l W n)) (hv : bootBuiltins "sorted" = some (.builtin "sorted")) (hv2 : bootBuiltins "set" = some (.type "set"))
    (hs : starEach [.Call (.Name "set" p2) [e] [] pos2] X.env = (false, eval (.Call (.Name "set" p2) [e] [] pos2) X.env) :: starEach [] X.env := by rfl) (hpl : (backTo pos (starEach [] X.env)).any (·.1) = false := by rfl)
    (hs2 : starEach [e] X.env = (false, eval e X.env) :: starEach [] X.env := by rfl) (hpl2 : (backTo pos2 (starEach [] X.env)).any (·.1) = false := by rfl) :
    PE X (.Call (.Name "sorted" p) [.Call (.Name "set" p2) [e] [] pos2] [] pos) (liftO X.K dk l W (eMapO gSortSet n)) :=
  PE_imp (pe_callB (cr_sortSet hc (by omega)) hg hm hv (pa_cons (pe_callTy (cr_setOfT hc hu) hg2 hm2 hv2 ha (by decide) (by decide) hs2 hpl2) pa_nil hs) (by decide) (by decide) hs hpl) fun σ H Q ⟨I, env, s, k, w, q⟩ => by
    refine ⟨I, env, s, k, w, q.bind.mono (fun ds s1 q vs I1 H1 x1 w1 r1 => ?_) fun _ _ _ h => h⟩
    obtain ⟨o, e1, q⟩ := q.opt
    unfold gSortSet at e1
    split at e1
    · rename_i ds
      split at e1
      · rename_i nss z
        by_cases hf : nss.length < 64
        · rw [if_pos hf] at e1
          cases e1
          obtain ⟨v, r', rfl, ⟨a, xs, rfl, h1, h2⟩, h3⟩ := r1
          have h4 : r' = [] := h3
          subst h4
          obtain ⟨ts, rfl, rfl, f3⟩ := tupIs_rep w1.sub h2 z
          have hf' : ts.length < 64 := by simpa using hf
          refine ⟨a, ts, rfl, .of (w1.sub _ _ h1), fun p hp => SqT.of (w1.sub _ _ (f3 p hp)), hf', fun b L hb hL1 hL2 => ?_⟩
          have keep : ∀ p ∈ L, upd H1 b (SetTO X.prog X.w b L) p.1 = some (.tup (p.2.map V.int)) := fun p hp => by
            have := w1.sub _ _ (f3 p (hL1 p hp))
            rw [upd_ne (ne_of_none this hb)]
            exact this
          refine ⟨b, L, rfl, upd_same, fun p hp => SqT.of (keep p hp), fun us c hus hnd hse hcn => ?_⟩
          have n1 : b ≠ dk := (ne_of_none w1.dko hb).symm
          have n2 : b ≠ l := (ne_of_none w1.lft hb).symm
          have x2 : Ext dk l I1 H1 I1 (upd H1 b (SetTO X.prog X.w b L)) := Ext.off w1 hb
          have w2 : Wo dk l I1 (upd H1 b (SetTO X.prog X.w b L)) s1 := w1.off (w1.sub.none hb) n1 n2
          have same : sortL (L.map (·.2)) = sortSetL (ts.map (·.2)) := by
            obtain ⟨d1, d2⟩ := eraseDups_nodup _ (ts.map (·.2)) (Nat.le_refl _)
            refine sortL_same hnd d1 fun a => ?_
            rw [d2 a]
            constructor
            · intro ha
              obtain ⟨p, hp, rfl⟩ := List.mem_map.mp ha
              exact List.mem_map.mpr ⟨p, hL1 p hp, rfl⟩
            · intro ha
              obtain ⟨p, hp, rfl⟩ := List.mem_map.mp ha
              exact hL2 p hp
          have rp : ∀ zs : List (Addr × List Int), (∀ q ∈ zs, q ∈ L) → RepL X.K I1 dk ((zs.map (·.2)).map tupI) (ownTs zs) := fun zs => by
            induction zs with
            | nil => exact fun _ => rfl
            | cons z zs ih => exact fun hz => ⟨V.ref z.1, ownTs zs, rfl, ⟨z.1, _, rfl, f3 z (hL1 z (hz z List.mem_cons_self)), RepL.ints _⟩, ih fun q hq => hz q (List.mem_cons_of_mem _ hq)⟩
          refine own_new w2 (rp us hus) (fun p I' H' x' w' hp ho m1 m2 m3 => ?_) c hcn
          rw [hse, same] at ho
          refine q p I' H' ((x1.trans x2 w2).trans x' w') w' ?_ ho m1 m2 m3
          exact own_back (s1 := s1) (I2 := I') (H2 := H') (x1.trans x2 w2) hp m1 m2
        · rw [if_neg hf] at e1; cases e1
      · cases e1
    · cases e1
end
end PV

end

section
set_option maxRecDepth 100000
namespace PV
open PySem PySem.Spec PyProof.Rows L2
/-! ### x.extend(e), e a list that is kept -/
def sExtendV (i : Nat) (m : En → M D) : En → M Fl := fun env => andThen (opt (ownL env i)) fun ds => andThen (m env) fun d => match d with
  | .lst es => if ds.length + es.length ≤ size7 then ret (.nx (env.set i (.own (.lst (ds ++ es))))) else bad
  | _ => bad
section
variable {X : Cx} {dk l : Addr} {W : WX} {pos : Pos} {I0 H0 : Hp} {o e : Expr} {apos cpos : Pos} {i : Nat}
theorem p_extendV {m : En → M D} (ho : PE X o (tVar i)) (he : PE X e (lift X.K dk l W m))
    (hbase : attributeBase o "extend" X.env (eval o X.env) = eval o X.env := by rfl)
    (hfew : ((backTo cpos (starEach [e] X.env)).all (fun x => !x.1) && (backToKw cpos (keywordEach [] X.env)).all (fun x => x.1.isSome)
      && decide ([e].length + ([] : List Keyword).length + (if ([] : List Keyword).isEmpty then 0 else 1) < 30)) = true := by rfl)
    (hline : (apos.endLine == cpos.line) = true := by rfl) (hs : starEach [e] X.env = (false, eval e X.env) :: starEach [] X.env := by rfl) (hplain : (backTo cpos (starEach [] X.env)).any (·.1) = false := by rfl)
    (hsw : swapsWith (.Call (.Attribute o "extend" apos) [e] [] cpos) none pos.line X.env = pure false := by rfl) :
    PS X (.Expr (.Call (.Attribute o "extend" apos) [e] [] cpos) pos) (liftS X.K dk l W I0 H0 (sExtendV i m)) := PS_imp (ps_expr (pe_bm PySem.F.plainAttrs_list PySem.F.slot_list_extend PySem.F.type_list_extend mt_extend ho (pa_cons he pa_nil hs) hbase hfew hline hs hplain) hsw) fun D σ H ⟨I, env, s, k, q⟩ => by
  obtain ⟨ds, hd, q⟩ := q.bind.opt
  have hd := ownL_eq hd
  obtain ⟨p, h1, ⟨vs, h2, h3⟩, n1, n2, n3⟩ := k.eok.own i _ hd
  refine ⟨.ref p, h1, .inl ⟨rfl, vs, .of h2⟩, I, env, s, k.eok, k.wo, q.bind.mono (fun d s1 q v I1 H1 x1 w1 r1 => ?_) fun _ _ _ h => k.exq h⟩
  cases d with
  | lst es =>
    by_cases hz : ds.length + es.length ≤ size7
    · simp only [hz, if_true] at q
      have k1 := k.grow x1 w1
      obtain ⟨p', g1, ⟨ws, g2, g3⟩, m1, m2, m3⟩ := k1.eok.own i _ hd
      rw [h1] at g1
      cases g1
      obtain ⟨b, us, rfl, f1, f2⟩ := r1
      refine ⟨p, b, ws, us, rfl, rfl, g2, w1.sub _ _ f1, by rw [← g3.length, ← f2.length]; exact Nat.le_trans hz (by decide), ?_⟩
      exact q σ I1 _ x1.grow (k1.put hd h1 m1 m2 m3 ⟨_, upd_same, g3.append f2⟩)
    · simp only [hz, if_false] at q
      exact q.elim
  | _ => exact q.elim
end
end PV

end

section
set_option maxRecDepth 100000
namespace PV
open PySem PySem.Spec PyProof.Rows L2
/-! ### the deck -/
inductive Fd where
  | mixed | draws
def Fd.nm : Fd → Str
  | .mixed => "mixed"
  | .draws => "draws"
def Fd.get : Fd → Dk → Int
  | .mixed, s => s.mixed
  | .draws, s => s.draws
def Fd.put : Fd → Dk → Int → Dk
  | .mixed, s, n => { s with mixed := n }
  | .draws, s, n => { s with draws := n }
def isDeck (env : En) (i : Nat) : Bool := match env[i]? with
  | some (.val .deck) => true
  | _ => false
theorem isDeck_eq {env : En} {i : Nat} (h : isDeck env i = true) : env[i]? = some (.val .deck) := by
  unfold isDeck at h
  cases z : env[i]? with
  | none => rw [z] at h; cases h
  | some y =>
    rw [z] at h
    cases y with
    | no => cases h
    | own o => cases h
    | val d => cases d <;> first | rfl | cases h
def eDkI (i : Nat) (f : Fd) : En → M D := fun env s => if isDeck env i = true then .ok (.int (f.get s)) s else .bad
def sDkSet (i : Nat) (f : Fd) (m : En → M D) : En → M Fl := fun env => andThen (m env) fun d => match d with
  | .int n => fun s => if isDeck env i = true then .ok (.nx env) (f.put s n) else .bad
  | _ => bad
def tDkNe (i : Nat) : En → M Bool := fun env s => if isDeck env i = true then .ok (!s.left.isEmpty) s else .bad
def eDkPop (i : Nat) : En → M D := fun env s => if isDeck env i = true then (match s.left.getLast? with
  | some c => .ok (.int c) { s with left := s.left.dropLast }
  | none => .bad) else .bad
def sDkApp (i : Nat) (m : En → M D) : En → M Fl := fun env => if isDeck env i = true then (andThen (m env) fun d => match d with
  | .int n => fun s => if s.left.length < size7 then .ok (.nx env) { s with left := s.left ++ [n] } else .bad
  | _ => bad) else bad
theorem dk_of {K : PySem.W.Frag} {dk l : Addr} {I H : Hp} {env : En} {σ : L2.St} {i : Nat} (e : EnvOk K dk l I H env σ) (h : isDeck env i = true) : σ[i]? = some (some (.ref dk)) := by
  obtain ⟨v, h1, h2⟩ := e.val i .deck (isDeck_eq h)
  rw [h1, show v = _ from h2]
/-- the deck's dict written, its list written -/
theorem Wo.dict {dk l : Addr} {I H : Hp} {s s' : Dk} (w : Wo dk l I H s) (h : s'.left = s.left) : Ext dk l I H I (upd H dk (deckO l s')) ∧ Wo dk l I (upd H dk (deckO l s')) s' :=
  ⟨⟨Sm.refl I, fun a o e n1 n2 => by rw [upd_ne n1]; exact e, fun a o e n => by rw [e] at n; cases n⟩,
   ⟨w.sub.off w.idk, upd_same, by rw [upd_ne w.ne.symm, h]; exact w.lft, w.idk, w.il⟩⟩
theorem Wo.list {dk l : Addr} {I H : Hp} {s s' : Dk} (w : Wo dk l I H s) (h1 : s'.mixed = s.mixed) (h2 : s'.draws = s.draws) : Ext dk l I H I (upd H l (.lst (s'.left.map V.int))) ∧ Wo dk l I (upd H l (.lst (s'.left.map V.int))) s' :=
  ⟨⟨Sm.refl I, fun a o e n1 n2 => by rw [upd_ne n2]; exact e, fun a o e n => by rw [e] at n; cases n⟩,
   ⟨w.sub.off w.il, by rw [upd_ne w.ne, w.dko]; unfold deckO; rw [h1, h2], upd_same, w.idk, w.il⟩⟩
section
variable {X : Cx} {dk l : Addr} {W : WX} {pos p1 p2 : Pos} {I0 H0 : Hp} {x : Str} {j : Nat}
theorem deck_left {H : Hp} {s : Dk} (h : H dk = some (deckO l s)) : DGet H dk (.str "left") (some (.ref l)) := by
  have := DGet.k (k := .inr "left") h
  have e : valV [((.inr "left" : Key), V.ref l), (.inr "mixed", .int s.mixed), (.inr "draws", .int s.draws)] (.inr "left") = some (.ref l) := by
    simp [valV]
  rw [e] at this
  exact this
theorem deck_fd {H : Hp} {s : Dk} (f : Fd) (h : H dk = some (deckO l s)) : DGet H dk (.str f.nm) (some (.int (f.get s))) := by
  cases f with
  | mixed =>
    have := DGet.k (k := .inr "mixed") h
    have e : valV [((.inr "left" : Key), V.ref l), (.inr "mixed", .int s.mixed), (.inr "draws", .int s.draws)] (.inr "mixed") = some (.int s.mixed) := by
      have e1 : decide ((Sum.inr ("left" : Str) : Key) = Sum.inr ("mixed" : Str)) = false := by decide
      have e2 : decide ((Sum.inr ("mixed" : Str) : Key) = Sum.inr ("mixed" : Str)) = true := by decide
      unfold valV
      simp only [List.find?_cons, e1, decide_true, Option.map_some]
    rw [e] at this
    exact this
  | draws =>
    have := DGet.k (k := .inr "draws") h
    have e : valV [((.inr "left" : Key), V.ref l), (.inr "mixed", .int s.mixed), (.inr "draws", .int s.draws)] (.inr "draws") = some (.int s.draws) := by
      have e1 : decide ((Sum.inr ("left" : Str) : Key) = Sum.inr ("draws" : Str)) = false := by decide
      have e2 : decide ((Sum.inr ("mixed" : Str) : Key) = Sum.inr ("draws" : Str)) = false := by decide
      have e3 : decide ((Sum.inr ("draws" : Str) : Key) = Sum.inr ("draws" : Str)) = true := by decide
      unfold valV
      simp only [List.find?_cons, e1, e2, decide_true, Option.map_some]
    rw [e] at this
    exact this
theorem putK_fd (f : Fd) (s : Dk) (n : Int) : HO.dK (putK [((.inr "left" : Key), V.ref l), (.inr "mixed", .int s.mixed), (.inr "draws", .int s.draws)] (.inr f.nm) (.int n)) = deckO l (f.put s n) := by
  have a1 : ((Sum.inr (Str.ofString "left") : Key) = Sum.inr (Str.ofString "mixed")) = False := by simp; decide
  have a2 : ((Sum.inr (Str.ofString "draws") : Key) = Sum.inr (Str.ofString "mixed")) = False := by simp; decide
  have a3 : ((Sum.inr (Str.ofString "left") : Key) = Sum.inr (Str.ofString "draws")) = False := by simp; decide
  have a4 : ((Sum.inr (Str.ofString "mixed") : Key) = Sum.inr (Str.ofString "draws")) = False := by simp; decide
  cases f with
  | mixed => simp only [putK, Fd.nm, Fd.put, deckO, a1, a2, List.any_cons, List.any_nil, List.map_cons, List.map_nil, decide_true, decide_false, Bool.or_true, Bool.true_or, Bool.or_false, if_true, if_false]
  | draws => simp only [putK, Fd.nm, Fd.put, deckO, a3, a4, List.any_cons, List.any_nil, List.map_cons, List.map_nil, decide_true, decide_false, Bool.or_true, Bool.true_or, Bool.or_false, if_true, if_false]
theorem r_dkI (i : Nat) (f : Fd) (hu : X.A.units + 1 < cLine) (h : PE X (.Name x p1) (tVar i)) (hs : NoSl (.Constant (.str f.nm) j p2) := by exact fun _ _ => rfl) : PE X (.Subscript (.Name x p1) (.Constant (.str f.nm) j p2) pos) (lift X.K dk l W (eDkI i f)) := PE_imp (pe_dget hu h pe_str hs) fun σ H Q ⟨I, env, s, e, w, q⟩ => by
  unfold eDkI at q
  by_cases hd : isDeck env i = true
  · rw [if_pos hd] at q
    exact ⟨_, dk_of e hd, dk, _, rfl, deck_fd f w.dko, q _ I H Ext.refl w rfl⟩
  · rw [if_neg hd] at q; exact q.elim
theorem p_dkSet {a : Expr} {m : En → M D} (i : Nat) (f : Fd) (hu : X.A.units + 1 < cLine) (h : PE X (.Name x p1) (tVar i)) (he : PE X a (lift X.K dk l W m)) (hs : swapsWith a (some (.Subscript (.Name x p1) (.Constant (.str f.nm) j p2) pos)) pos.line X.env = pure false := by rfl) {pos' : Pos} (hs' : swapsWith a (some (.Subscript (.Name x p1) (.Constant (.str f.nm) j p2) pos)) pos'.line X.env = pure false := by rfl) :
    PS X (.Assign [.Subscript (.Name x p1) (.Constant (.str f.nm) j p2) pos] a pos') (liftS X.K dk l W I0 H0 (sDkSet i f m)) := PS_imp (ps_dput hu h pe_str he hs') fun D σ H ⟨I, env, s, k, q⟩ => by
  refine ⟨I, env, s, k.eok, k.wo, q.bind.mono (fun d s1 q v I1 H1 x1 w1 r1 => ?_) fun _ _ _ h => k.exq h⟩
  have k1 := k.grow x1 w1
  cases d with
  | int n =>
    by_cases hd : isDeck env i = true
    · simp only [hd, if_true] at q
      have hv : v = .int n := r1
      subst hv
      obtain ⟨x2, w2⟩ := w1.dict (s' := f.put s1 n) (by cases f <;> rfl)
      have hp := DPut.k (k := .inr f.nm) (v := V.int n) w1.dko (by rw [sizeLine_eq]; exact (by decide : 3 < 16777216))
      rw [putK_fd] at hp
      exact ⟨_, dk_of k1.eok hd, dk, _, rfl, hp, q σ I1 _ x1.grow (k1.grow x2 w2)⟩
    · simp only [hd, if_false] at q; exact q.elim
  | _ => exact q.elim
theorem canLayAll_ints : ∀ ns : List Int, PyData.canLayAll0 (ns.map PyData.int) = true
  | [] => by simp [PyData.canLayAll0]
  | n :: ns => by simp [PyData.canLayAll0, PyData.canLay0, canLayAll_ints ns]
theorem depthAll_ints : ∀ ns : List Int, PyData.depthAll (ns.map PyData.int) = 0
  | [] => by simp [PyData.depthAll]
  | n :: ns => by simp [PyData.depthAll, PyData.depth, depthAll_ints ns]
theorem shaped_ints (ns : List Int) : SeqAt.shaped (.list (ns.map PyData.int)) = true := by
  unfold SeqAt.shaped
  simp [PyData.canLay0, PyData.depth, canLayAll_ints, depthAll_ints]
theorem dpAll_ints {K : PySem.W.Frag} {H : Hp} : ∀ ns : List Int, DpAll K H (ns.map V.int) (ns.map PyData.int)
  | [] => .nil
  | n :: ns => .cons (.int n) (dpAll_ints ns)
theorem r_dkNe (i : Nat) {p3 p4 : Pos} (hu1 : X.A.units + 1 < cLine) (hu : X.A.units + 64 < cLine) (h : PE X (.Name x p1) (tVar i)) (hs : NoSl (.Constant (.str "left") j p2) := by exact fun _ _ => rfl) : PT X (.Compare (.Subscript (.Name x p1) (.Constant (.str "left") j p2) p3) [.NotEq] [.List [] p4] pos) (liftT X.K dk l W (tDkNe i)) := PT_imp (pt_cmpR (op_neD hu) (pe_dget hu1 h pe_str hs) (pe_lst pa_nil) (nomark _)) fun σ H Q ⟨I, env, s, e, w, q⟩ => by
  unfold tDkNe at q
  by_cases hd : isDeck env i = true
  · rw [if_pos hd] at q
    refine ⟨_, dk_of e hd, dk, _, rfl, deck_left w.dko, Nat.zero_le _, fun p hp => ?_⟩
    have n1 : p ≠ dk := (ne_of_none w.dko hp).symm
    have n2 : p ≠ l := (ne_of_none w.lft hp).symm
    have n3 : I p = none := w.sub.none hp
    have x1 := Ext.off (o := .lst []) w hp
    have w1 := w.off (o := .lst []) n3 n1 n2
    refine ⟨.list (s.left.map PyData.int), .list [], .lst (.of w1.lft) (dpAll_ints _), .lst (.of upd_same) .nil, shaped_ints _, shaped_ints [], _, rfl, ?_⟩
    have ev : (!PyData.eqv (.list (s.left.map PyData.int)) (.list [])) = !s.left.isEmpty := by
      cases s.left <;> simp [PyData.eqv, PyData.eqvAll]
    rw [ev]
    exact q I _ x1 w1
  · rw [if_neg hd] at q; exact q.elim
theorem r_dkPop (i : Nat) {p3 apos cpos : Pos} (hu1 : X.A.units + 1 < cLine) (h : PE X (.Name x p1) (tVar i)) (hs : NoSl (.Constant (.str "left") j p2) := by exact fun _ _ => rfl)
    (hbase : attributeBase (.Subscript (.Name x p1) (.Constant (.str "left") j p2) p3) "pop" X.env (eval (.Subscript (.Name x p1) (.Constant (.str "left") j p2) p3) X.env) = eval (.Subscript (.Name x p1) (.Constant (.str "left") j p2) p3) X.env := by rfl) (hline : (apos.endLine == cpos.line) = true := by rfl) :
    PE X (.Call (.Attribute (.Subscript (.Name x p1) (.Constant (.str "left") j p2) p3) "pop" apos) [] [] cpos) (lift X.K dk l W (eDkPop i)) := PE_imp (pe_bm0 PySem.F.plainAttrs_list PySem.F.slot_list_pop PySem.F.type_list_pop mt_pop (pe_dget hu1 h pe_str hs) hbase hline) fun σ H Q ⟨I, env, s, e, w, q⟩ => by
  unfold eDkPop at q
  by_cases hd : isDeck env i = true
  · rw [if_pos hd] at q
    refine ⟨_, dk_of e hd, dk, _, rfl, deck_left w.dko, .inl ⟨rfl, _, .of w.lft⟩, ?_⟩
    cases z : s.left.getLast? with
    | none => rw [z] at q; exact q.elim
    | some c =>
      rw [z] at q
      obtain ⟨x1, w1⟩ := w.list (s' := { s with left := s.left.dropLast }) rfl rfl
      refine ⟨l, s.left.map V.int, .int c, rfl, rfl, w.lft, ?_, ?_⟩
      · rw [List.length_map, List.getElem?_map]
        rw [List.getLast?_eq_getElem?] at z
        rw [z]
        rfl
      · rw [← List.map_dropLast]
        exact q _ I _ x1 w1 rfl
  · rw [if_neg hd] at q; exact q.elim
theorem p_dkApp (i : Nat) {a : Expr} {m : En → M D} {p3 apos cpos : Pos} (hu1 : X.A.units + 1 < cLine) (h : PE X (.Name x p1) (tVar i)) (he : PE X a (lift X.K dk l W m)) (hs : NoSl (.Constant (.str "left") j p2) := by exact fun _ _ => rfl)
    (hbase : attributeBase (.Subscript (.Name x p1) (.Constant (.str "left") j p2) p3) "append" X.env (eval (.Subscript (.Name x p1) (.Constant (.str "left") j p2) p3) X.env) = eval (.Subscript (.Name x p1) (.Constant (.str "left") j p2) p3) X.env := by rfl)
    (hfew : ((backTo cpos (starEach [a] X.env)).all (fun x => !x.1) && (backToKw cpos (keywordEach [] X.env)).all (fun x => x.1.isSome)
      && decide ([a].length + ([] : List Keyword).length + (if ([] : List Keyword).isEmpty then 0 else 1) < 30)) = true := by rfl)
    (hline : (apos.endLine == cpos.line) = true := by rfl) (hst : starEach [a] X.env = (false, eval a X.env) :: starEach [] X.env := by rfl) (hplain : (backTo cpos (starEach [] X.env)).any (·.1) = false := by rfl)
    (hsw : swapsWith (.Call (.Attribute (.Subscript (.Name x p1) (.Constant (.str "left") j p2) p3) "append" apos) [a] [] cpos) none pos.line X.env = pure false := by rfl) :
    PS X (.Expr (.Call (.Attribute (.Subscript (.Name x p1) (.Constant (.str "left") j p2) p3) "append" apos) [a] [] cpos) pos) (liftS X.K dk l W I0 H0 (sDkApp i m)) :=
  PS_imp (ps_expr (pe_bm PySem.F.plainAttrs_list PySem.F.slot_list_append PySem.F.type_list_append mt_append (pe_dget hu1 h pe_str hs) (pa_cons he pa_nil hst) hbase hfew hline hst hplain) hsw) fun D σ H ⟨I, env, s, k, q⟩ => by
  unfold sDkApp at q
  by_cases hd : isDeck env i = true
  · rw [if_pos hd] at q
    refine ⟨_, dk_of k.eok hd, dk, _, rfl, deck_left k.wo.dko, .inl ⟨rfl, _, .of k.wo.lft⟩, I, env, s, k.eok, k.wo, q.bind.mono (fun d s1 q v I1 H1 x1 w1 r1 => ?_) fun _ _ _ h => k.exq h⟩
    have k1 := k.grow x1 w1
    cases d with
    | int n =>
      by_cases hz : s1.left.length < size7
      · simp only [hz, if_true] at q
        have hv : v = .int n := r1
        subst hv
        obtain ⟨x2, w2⟩ := w1.list (s' := { s1 with left := s1.left ++ [n] }) rfl rfl
        refine ⟨l, _, .int n, rfl, rfl, w1.lft, by rw [List.length_map]; exact Nat.lt_of_lt_of_le hz (by decide), ?_⟩
        have hm : s1.left.map V.int ++ [V.int n] = (s1.left ++ [n]).map V.int := by simp
        rw [hm]
        exact q σ I1 _ x1.grow (k1.grow x2 w2)
      · simp only [hz, if_false] at q; exact q.elim
    | _ => exact q.elim
  · rw [if_neg hd] at q; exact q.elim
end
end PV

end

section
/-- the i-th statement of a program's text -/
def nthS : List PySem.Stmt → Nat → Option PySem.Stmt
  | [], _ => none
  | s :: _, 0 => some s
  | _ :: r, n + 1 => nthS r n
structure PickS (b : List PySem.Stmt) (i : Nat) where
  st : PySem.Stmt
  eq : nthS b i = some st
namespace PV
open PySem PySem.Spec PyProof.Rows L2
theorem bt_isinstance : bootBuiltins "isinstance" = some (.builtin "isinstance") := by kernel_rfl
theorem bt_all : bootBuiltins "all" = some (.builtin "all") := by kernel_rfl
theorem bt_any : bootBuiltins "any" = some (.builtin "any") := by kernel_rfl
theorem bt_sum : bootBuiltins "sum" = some (.builtin "sum") := by kernel_rfl
theorem bt_max : bootBuiltins "max" = some (.builtin "max") := by kernel_rfl
theorem bt_abs : bootBuiltins "abs" = some (.builtin "abs") := by kernel_rfl
theorem bt_repr : bootBuiltins "repr" = some (.builtin "repr") := by kernel_rfl
theorem bt_sorted : bootBuiltins "sorted" = some (.builtin "sorted") := by kernel_rfl
theorem bt_int : bootBuiltins "int" = some (.type "int") := by kernel_rfl
theorem bt_bool : bootBuiltins "bool" = some (.type "bool") := by kernel_rfl
theorem bt_str : bootBuiltins "str" = some (.type "str") := by kernel_rfl
theorem bt_tuple : bootBuiltins "tuple" = some (.type "tuple") := by kernel_rfl
theorem bt_list : bootBuiltins "list" = some (.type "list") := by kernel_rfl
theorem bt_dict : bootBuiltins "dict" = some (.type "dict") := by kernel_rfl
end PV

end

section
set_option maxRecDepth 100000
namespace PV
open PySem PySem.Spec PyProof.Rows L2
def spDk (K : PySem.W.Frag) : Sp := fun vs H Q E => ∃ (a : Addr) (ns : List Int) (n : Int), vs = [.ref a, .int n] ∧ SqL K H a (ns.map V.int) ∧ ns.length ≤ 63 ∧
  ∀ (H' : Hp) (dk l : Addr) (s : Dk), (∀ b o, H b = some o → H' b = some o) → H' dk = some (deckO l s) → H' l = some (.lst (s.left.map V.int)) → s.left.length ≤ 63 → Q (.ref dk) H'
theorem cut_ints (ns : List Int) (lo hi : Option Int) : ∃ ms : List Int, cutV (ns.map V.int) lo hi = ms.map V.int ∧ ms.length ≤ ns.length := by
  refine ⟨(ns.drop (HT.sIx ns.length 0 lo)).take (HT.sIx ns.length ns.length hi - HT.sIx ns.length 0 lo), ?_, ?_⟩
  · unfold cutV
    rw [List.length_map, ← List.map_drop, ← List.map_take]
  · rw [List.length_take, List.length_drop]; omega
/-- what the deck's making reads of its body -/
theorem deck_read {K : PySem.W.Frag} {H : Hp} {a : Addr} {ns : List Int} (hS : SqL K H a (ns.map V.int)) {H2 : Hp} (k : ∀ b o, H b = some o → H2 b = some o) : SqL K H2 a (ns.map V.int) := Sm.sqL k hS
end PV
namespace PV
open PySem PySem.Spec PyProof.Rows L2
/-! ### the law's own body: the deck is made, the rest goes by the mirror -/
section
variable {X : Cx} {W : WX} {k : Nat} {f : Addr} {fd : FuncData} {ps : List Str} {x : Str} {p pos : Pos} {e : Expr} {es : List Expr} {sp : Sp} {t : TA}
theorem pe_callG (G : FnG X.prog X.w X.K X.mg X.base k f fd ps sp) (hG : X.A.guards = some []) (hr : Room k X.A) (hg : Gl X x) (hm : X.mg x = some (.ref f)) (hk : PySem.W.keepIn X.K (.ref f) = true) (hb : Binds X.K fd ps []) (hx : ∀ σ, PassesAt (L2.CX X.prog X.w) X σ (fun c d H => W c d σ H))
    (ha : PA X (e :: es) t) (hdb : (x == ("__debug__" : Str)) = false := by decide) (he : starEach (e :: es) X.env = (false, eval e X.env) :: starEach es X.env := by rfl) (hpl : (backTo pos (starEach es X.env)).any (·.1) = false := by rfl) :
    PE X (.Call (.Name x p) (e :: es) [] pos) (fun σ H Q => t σ H fun vs H1 => sp vs H1 Q (fun c d H => W c d σ H)) := by
  refine ⟨fun pins z σ H Q J h => wpAny_Call_Name_kw (ld_glob J hg hm ?_ hdb)⟩
  refine PySem.W.callWith_K (h₀ := X.base) J.ok.mod.kin hk (thn (ha.run pos pins z σ H _ J h) fun us z1 ⟨vs, H1, J1, r, y⟩ => ⟨J1.kIn, ?_⟩) he hpl
  have hl : us.length = ps.length := by rw [← r.length]; exact G.len _ _ _ _ y
  have b := hb z1 us J1.kIn (by rw [List.append_nil]; exact hl)
  rw [List.append_nil] at b
  refine wpAny_call (codeAny_mono (run_def G hG hr b (hx σ) J1 r y) fun rr z2 t => ?_)
  cases rr with
  | error e => exact t
  | ok fl =>
    cases fl with
    | ret u => exact t
    | next => exact t.elim
    | brk => exact t.elim
    | cont => exact t.elim
end
def spLaw (K : PySem.W.Frag) : Sp := fun vs H Q _ => ∃ (a : Addr) (ns : List Int), vs = [.ref a] ∧ SqL K H a (ns.map V.int) ∧ ns.length ≤ 63 ∧ ∀ H', Q (.bl true) H'
def lawEnv (n : Nat) : En := .no :: .val .deck :: List.replicate (n - 2) .no
theorem pss_any {X : Cx} {rest : List Stmt} {W : WX} {B : En → M Fl} (h : ∀ (dk l : Addr) (I0 H0 : Hp), PSs X rest (liftS X.K dk l W I0 H0 B)) : PSs X rest (fun D σ H => ∃ dk l I0 H0, liftS X.K dk l W I0 H0 B D σ H) := ⟨fun pins s σ H Q J ⟨dk, l, I0, H0, q⟩ => (h dk l I0 H0).run pins s σ H Q J q⟩
theorem lawEnv_no {n i : Nat} {o : OD} (h : (lawEnv n)[i]? = some (.own o)) : False := by
  match i with
  | 0 => cases h
  | 1 => cases h
  | i + 2 =>
    have h' : (List.replicate (n - 2) Slot.no)[i]? = some (.own o) := h
    rw [List.getElem?_replicate] at h'
    split at h' <;> cases h'
theorem law_start {K : PySem.W.Frag} {W : WX} {B : En → M Fl} {n : Nat} {D : Ends} {a dk l : Addr} {H : Hp} {s : Dk} (hn : 2 ≤ n) (h1 : H dk = some (deckO l s)) (h2 : H l = some (.lst (s.left.map V.int))) (hB : ∃ s', B (lawEnv n) s = .ok (.rt (.bl true)) s') (q : ∀ H', D.rt (.bl true) H') :
    ∃ dk' l' I0 H0, liftS K dk' l' W I0 H0 B D (some (.ref a) :: some (.ref dk) :: List.replicate (n - 2) none) H := by
  obtain ⟨s', e⟩ := hB
  refine ⟨dk, l, fun _ => none, H, fun _ => none, lawEnv n, s, ⟨⟨by simp [lawEnv], fun i d h => ?_, fun i o h => (lawEnv_no h).elim, fun i j o u p h => (lawEnv_no h).elim⟩, ⟨fun _ _ h => (by cases h), h1, h2, rfl, rfl⟩, Ext.refl, fun i o p h => (lawEnv_no h).elim⟩, ?_⟩
  · match i with
    | 0 => cases h
    | 1 => cases h; exact ⟨_, rfl, rfl⟩
    | i + 2 =>
      exfalso
      have h' : (List.replicate (n - 2) Slot.no)[i]? = some (.val d) := h
      rw [List.getElem?_replicate] at h'
      split at h' <;> cases h'
  · rw [e]
    intro v I' H' _ _ r
    rw [show v = _ from r]
    exact q H'
end PV
namespace PV
open PySem PySem.Spec PyProof.Rows L2
theorem law_start' {K : PySem.W.Frag} {W : WX} {B : En → M Fl} {n : Nat} {D : Ends} {a dk l : Addr} {H : Hp} {s : Dk} {σ : L2.St} (hσ : σ = some (.ref a) :: some (.ref dk) :: List.replicate (n - 2) none) (hn : 2 ≤ n) (h1 : H dk = some (deckO l s)) (h2 : H l = some (.lst (s.left.map V.int))) (hB : ∃ s', B (lawEnv n) s = .ok (.rt (.bl true)) s') (q : ∀ H', D.rt (.bl true) H') :
    ∃ dk' l' I0 H0, liftS K dk' l' W I0 H0 B D σ H := by
  subst hσ
  exact law_start hn h1 h2 hB q
end PV

end

section
set_option maxRecDepth 100000
namespace PV
open PySem PySem.Spec PyProof.Rows L2
/-! ### the row's end for a law's def whose promise wants that nothing guards around it -/
abbrev Good (s₁ : Shared) : Result → Shared → Prop := fun r s' => r = .ok (.ret (.bool true)) ∧ OldK s₁.heap s'.heap ∧ s'.os = s₁.os ∧ AllBare s'.gens
section
variable {P : Program} {w : World} {K : PySem.W.Frag} {mg mb : Str → Option Value} {k : Nat} {fa a : Addr} {fd : FuncData} {s₁ : Shared} {vs : List Value} {ns : List Int}
/-- from a heap of which at most the script is tracked -/
theorem ask_from (hM : ∀ H : Hp, (∀ b, H b ≠ none → b = a) → (H a ≠ none → K.lookup a = none) → Mod K mg (hidT s₁.heap H)) (hgen : s₁.gens = #[]) (room : Room k callerA)
    (F : ∀ base : Heap, K.In base → base.Ns mainGlobals mg → FnG P w K mg base k fa fd ["script"] (spLaw K)) (bind : ∀ (s : Shared) (u : Value), BindsTo s fd ⟨[u], []⟩ [("script", u)]) (hl : ns.length ≤ 63)
    (T : Hp) (only : ∀ b, T b = none ∨ ∃ o xs, T b = some (.frz o (.lst xs))) (hS : SqL K T a (ns.map V.int)) (ok : HOk P w T s₁.heap) (hA : ∀ b, T b ≠ none → b = a) (hK : T a ≠ none → K.lookup a = none) :
    codeAny (model P w) callerA (.call (.ref fa) ⟨[.ref a], []⟩) (Good s₁) s₁ := by
  have mod := hM T hA hK
  have env : Env0 P w K mg (hidT s₁.heap T) callerA [] s₁ T := ⟨rfl, mod, fun b o e => of_hidT e, Nat.le_of_eq (hidT_size _ _), trivial, fun b hb => (by cases hb), ok, .of_eq hgen⟩
  have run := (F _ mod.kin mod.glob).run callerA [] s₁ T ⟨[.ref a], []⟩ [.ref a] [.ref a] (fun v _ => v = .bl true) (fun _ _ _ => False) rfl room env (bind s₁ (.ref a)) (.cons rfl .nil) ⟨a, ns, rfl, hS, hl, fun _ => rfl⟩
  refine codeAny_mono run fun res s' got => ?_
  match res, got with
  | .error e, got =>
    obtain ⟨_, _, _, _, _, _, _, _, _, _, _, _, y⟩ := got
    exact y.elim
  | .ok .next, got => exact got.elim
  | .ok .brk, got => exact got.elim
  | .ok .cont, got => exact got.elim
  | .ok (.ret u), got =>
    obtain ⟨v, H', os, bare, un, ok', rv, ev⟩ := got
    have ev' : v = .bl true := ev
    subst ev'
    have eu : u = Value.bool true := rv
    subst eu
    refine ⟨rfl, OldK.of_keep fun b o e => ?_, os, bare⟩
    cases tb : T b with
    | none => exact un.keep b o e tb (fun z => by cases z) (fun z => by cases z)
    | some t =>
      rcases only b with z | ⟨ob, xs, z⟩
      · rw [tb] at z; cases z
      · have later := un.frzs b ob _ z
        obtain ⟨was, _⟩ := ok b _ z
        obtain ⟨now, _⟩ := ok' b _ later
        rw [e] at was
        cases was
        exact now
theorem ask (KX : K.In s₁.heap) (hns : s₁.heap.Ns mainGlobals mg) (hb : s₁.heap.Ns builtinsNs mb) (hbb : ∀ x : Str, x ≠ "__name__" → mb x = bootBuiltins x) (lim : s₁.heap.NoLimit) (hgen : s₁.gens = #[])
    (ha : s₁.heap.get? a = some { cls := .type "list", data := .seq vs.toArray }) (hi : IntsAre vs ns) (hl : ns.length ≤ 63) (room : Room k callerA)
    (F : ∀ base : Heap, K.In base → base.Ns mainGlobals mg → FnG P w K mg base k fa fd ["script"] (spLaw K)) (bind : ∀ (s : Shared) (u : Value), BindsTo s fd ⟨[u], []⟩ [("script", u)]) :
    codeAny (model P w) callerA (.call (.ref fa) ⟨[.ref a], []⟩) (Good s₁) s₁ := by
  have nums := vals_ints hi
  have size : ns.length ≤ sizeLine := Nat.le_trans hl (by decide)
  have hM : ∀ T : Hp, (∀ b, T b ≠ none → b = a) → (T a ≠ none → K.lookup a = none) → Mod K mg (hidT s₁.heap T) := fun T hA hK => by
    have free : ∀ {b : Addr} {o : Obj} {es : Array DictEntry} {ep : Nat}, s₁.heap.get? b = some o → o.data = .dict es ep → T b = none := fun {b o es ep} e d => by
      cases tb : T b with
      | none => rfl
      | some u =>
        have eb : b = a := hA b (by rw [tb]; simp)
        rw [eb, ha] at e
        cases e
        cases (show Data.seq vs.toArray _ = Data.dict es ep from d)
    have move : ∀ {b : Addr} {m : Str → Option Value}, s₁.heap.Ns b m → (hidT s₁.heap T).Ns b m := fun ⟨o, es, ep, e, d, r⟩ => ⟨o, es, ep, hidT_get e (free e d), d, r⟩
    refine ⟨fun b o e => hidT_get (KX b o e) ?_, move hns, ⟨mb, move hb, hbb⟩, (let ⟨mc, h1, h2⟩ := lim; ⟨mc, move h1, h2⟩)⟩
    cases tb : T b with
    | none => rfl
    | some u =>
      have eb : b = a := hA b (by rw [tb]; simp)
      rw [eb] at tb e
      rw [hK (by rw [tb]; simp)] at e
      cases e
  cases known : K.lookup a with
  | some o =>
    have e := KX a o known
    rw [ha] at e
    cases e
    exact ask_from hM hgen room F bind hl (fun _ => none) (fun _ => .inl rfl) (.inr ⟨_, vs.toArray, _, known, rfl, rfl, rfl, by rw [List.size_toArray, hi.length]; exact size, by simpa using nums⟩) (fun b u z => by cases (show (none : Option HO) = some u from z)) (fun b z => absurd rfl z) fun z => absurd rfl z
  | none =>
    refine ask_from hM hgen room F bind hl (L2.upd (fun _ => none) a (.frz { cls := .type "list", data := .seq vs.toArray } (.lst (ns.map V.int)))) (fun b => ?_) (.inl (.inr ⟨{ cls := .type "list", data := .seq vs.toArray }, upd_same⟩)) (fun b u z => ?_) (fun b z => ?_) fun _ => known
    · by_cases hb : b = a
      · subst hb; exact .inr ⟨_, _, upd_same⟩
      · exact .inl (by rw [upd_ne hb])
    · by_cases hb : b = a
      · subst hb
        rw [upd_same] at z
        cases z
        exact ⟨ha, by rw [List.length_map]; exact size, vs, _, nums, ha⟩
      · rw [upd_ne hb] at z; cases z
    · refine Classical.byContradiction fun hb => z ?_
      rw [upd_ne hb]
end
theorem walkG {l : PySem.W.OpenLaw} {k : Nat} {q : Program} {loose : List Str} {XP : (Str → Option Value) → Heap → Prop} {YP : World → Heap → Prop} {d : DefRec} {K : Params → PySem.W.Frag}
    (most : l.most = some 63) (noD : d.params.defaults = []) (room : Room k callerA) (have_ : ∀ (w : World) (h : Heap), YP w h → (K w.params).In h)
    (F : ∀ (w : World) (mg : Str → Option Value) (fa : Addr) (h : Heap), (K w.params).In h → h.Ns mainGlobals mg → mg d.name = some (.ref fa) →
      ∃ fd : FuncData, (∀ (s : Shared) (u : Value), BindsTo s fd ⟨[u], []⟩ [("script", u)]) ∧ ∀ base : Heap, (K w.params).In base → base.Ns mainGlobals mg → FnG l.prog w (K w.params) mg base k fa fd ["script"] (spLaw (K w.params))) :
    PySem.W.WalkO q loose XP YP l.row.toRowW d [] (fun f vs => PySem.call f vs) := by
  refine Att.attach_call most noD fun w s₀ s₁ mg mb fa o pm cd doc a vs ns G Y ho hd hcd hmg hobj hints hlen hg => ?_
  have KX := have_ w _ Y
  obtain ⟨fd, bind, hF⟩ := F w mg fa _ KX G.T.g hmg
  exact ask KX G.T.g G.T.b G.T.builtins G.T.nolimit hg hobj hints hlen room hF bind
end PV

end

section
set_option maxRecDepth 100000
namespace PV
open PySem PySem.Spec PyProof.Rows L2
/-! ### what a mirror comes to, step by step -/
def Ev {α : Type} (m : M α) (s : Dk) (a : α) (s' : Dk) : Prop := m s = .ok a s'
theorem ev_ret {α : Type} {a : α} {s : Dk} : Ev (PV.ret a) s a s := rfl
theorem ev_bind {α β : Type} {m : M α} {f : α → M β} {s s1 s2 : Dk} {a : α} {b : β} (h : Ev m s a s1) (h2 : Ev (f a) s1 b s2) : Ev (andThen m f) s b s2 := by
  unfold Ev at h h2 ⊢
  unfold andThen
  rw [h]
  exact h2
theorem ev_opt {α : Type} {o : Option α} {a : α} {s : Dk} (h : o = some a) : Ev (PV.opt o) s a s := by rw [h]; rfl
section
variable {env : En} {s s1 s2 s3 : Dk} {d x y z : D} {b c : Bool} {i : Nat}
theorem ev_var (h : env[i]? = some (.val d)) : Ev (eVar i env) s d s := by unfold eVar; rw [h]; rfl
theorem ev_c : Ev (eC d env) s d s := rfl
theorem ev_op {g : D → D → Option D} {m n : En → M D} (h1 : Ev (m env) s x s1) (h2 : Ev (n env) s1 y s2) (h3 : g x y = some d) : Ev (eOp g m n env) s d s2 := ev_bind h1 (ev_bind h2 (ev_opt h3))
theorem ev_un {g : D → Option D} {m : En → M D} (h1 : Ev (m env) s x s1) (h3 : g x = some d) : Ev (eUn g m env) s d s1 := ev_bind h1 (ev_opt h3)
theorem ev_if {t : En → M Bool} {m n : En → M D} (h : Ev (t env) s c s1) (h1 : c = true → Ev (m env) s1 d s2) (h2 : c = false → Ev (n env) s1 d s2) : Ev (eIf t m n env) s d s2 := ev_bind h (by cases c with
  | true => exact h1 rfl
  | false => exact h2 rfl)
theorem ev_anil : Ev (eAnil env) s [] s := rfl
theorem ev_acons {m : En → M D} {n : En → M (List D)} {ds : List D} (h1 : Ev (m env) s d s1) (h2 : Ev (n env) s1 ds s2) : Ev (eAcons m n env) s (d :: ds) s2 := ev_bind h1 (ev_bind h2 ev_ret)
theorem ev_astar {m : En → M D} {n : En → M (List D)} {ds es : List D} (h1 : Ev (m env) s d s1) (h3 : seqOf d = some es) (h2 : Ev (n env) s1 ds s2) : Ev (eAstar m n env) s (es ++ ds) s2 := ev_bind h1 (ev_bind (ev_opt h3) (ev_bind h2 ev_ret))
theorem ev_mapA {g : List D → Option D} {n : En → M (List D)} {ds : List D} (h1 : Ev (n env) s ds s1) (h2 : g ds = some d) : Ev (eMapA g n env) s d s1 := ev_bind h1 (ev_opt h2)
theorem ev_mapO {g : List D → Option OD} {n : En → M (List D)} {ds : List D} {o : OD} (h1 : Ev (n env) s ds s1) (h2 : g ds = some o) : Ev (eMapO g n env) s o s1 := ev_bind h1 (ev_opt h2)
theorem ev_mapI {g : List D → Option (List D)} {n : En → M (List D)} {ds o : List D} (h1 : Ev (n env) s ds s1) (h2 : g ds = some o) : Ev (eMapI g n env) s o s1 := ev_bind h1 (ev_opt h2)
theorem ev_items {m : En → M D} {o : List D} (h1 : Ev (m env) s d s1) (h2 : seqOf d = some o) : Ev (eItems m env) s o s1 := ev_bind h1 (ev_opt h2)
theorem ev_call {F : List D → M D} {n : En → M (List D)} {ds : List D} {k : Nat} (h1 : Ev (n env) s ds s1) (hk : ds.length = k) (h2 : Ev (F ds) s1 d s2) : Ev (eCall (cN k F) n env) s d s2 := ev_bind h1 (by unfold cN; rw [if_pos hk]; exact h2)
theorem ev_callK {F : List D → M D} {n : En → M (List D)} {ds es : List D} {k : Nat} {π : List Nat} (h1 : Ev (n env) s ds s1) (he : permL π ds = es) (hk : es.length = k) (h2 : Ev (F es) s1 d s2) : Ev (eCallK (cN k F) π n env) s d s2 := ev_bind h1 (by subst he; unfold cN; rw [if_pos hk]; exact h2)
theorem ev_frz {m : En → M OD} {o : OD} (h : Ev (m env) s o s1) : Ev (eFrz m env) s o.d s1 := ev_bind h ev_ret
theorem ev_andT {t u : En → M Bool} (h : Ev (t env) s c s1) (h1 : c = true → Ev (u env) s1 b s2) (h2 : c = false → b = false ∧ s2 = s1) : Ev (tAnd' t u env) s b s2 := ev_bind h (by cases c with
  | true => exact h1 rfl
  | false => obtain ⟨rfl, rfl⟩ := h2 rfl; exact ev_ret)
theorem ev_orT {t u : En → M Bool} (h : Ev (t env) s c s1) (h1 : c = false → Ev (u env) s1 b s2) (h2 : c = true → b = true ∧ s2 = s1) : Ev (tOr' t u env) s b s2 := ev_bind h (by cases c with
  | false => exact h1 rfl
  | true => obtain ⟨rfl, rfl⟩ := h2 rfl; exact ev_ret)
theorem ev_notT {t : En → M Bool} (h : Ev (t env) s c s1) : Ev (tNot' t env) s (!c) s1 := ev_bind h ev_ret
theorem ev_tval {m : En → M D} (h : Ev (m env) s (.bl c) s1) : Ev (tVal m env) s c s1 := ev_bind h (ev_opt rfl)
theorem ev_andV {m n : En → M D} (h : Ev (m env) s (.bl c) s1) (h1 : c = true → Ev (n env) s1 d s2) (h2 : c = false → d = .bl false ∧ s2 = s1) : Ev (eAndV m n env) s d s2 := ev_bind h (by cases c with
  | true => exact h1 rfl
  | false => obtain ⟨rfl, rfl⟩ := h2 rfl; exact ev_ret)
theorem ev_orV {m n : En → M D} (h : Ev (m env) s (.bl c) s1) (h1 : c = false → Ev (n env) s1 d s2) (h2 : c = true → d = .bl true ∧ s2 = s1) : Ev (eOrV m n env) s d s2 := ev_bind h (by cases c with
  | false => exact h1 rfl
  | true => obtain ⟨rfl, rfl⟩ := h2 rfl; exact ev_ret)
theorem ev_notV {m : En → M D} (h : Ev (m env) s (.bl c) s1) : Ev (eNotV m env) s (.bl (!c)) s1 := ev_bind h ev_ret
theorem ev_chain {g g' : D → D → Option D} {m n k : En → M D} (h1 : Ev (m env) s x s1) (h2 : Ev (n env) s1 y s2) (h3 : g x y = some (.bl c)) (h4 : c = true → ∃ w, Ev (k env) s2 w s3 ∧ g' y w = some d) (h5 : c = false → d = .bl false ∧ s3 = s2) : Ev (eChain g g' m n k env) s d s3 :=
  ev_bind h1 (ev_bind h2 (ev_bind (ev_opt h3) (by cases c with
    | true => obtain ⟨w, a, e⟩ := h4 rfl; exact ev_bind a (ev_opt e)
    | false => obtain ⟨rfl, rfl⟩ := h5 rfl; exact ev_ret)))
/-! statements -/
theorem ev_seq {a b' : En → M Fl} {e : En} {f : Fl} (h1 : Ev (a env) s (.nx e) s1) (h2 : Ev (b' e) s1 f s2) : Ev (sSeq a b' env) s f s2 := ev_bind h1 h2
theorem ev_seqR {a b' : En → M Fl} (h1 : Ev (a env) s (.rt d) s1) : Ev (sSeq a b' env) s (.rt d) s1 := ev_bind h1 ev_ret
theorem ev_rt {m : En → M D} (h : Ev (m env) s d s1) : Ev (sRet m env) s (.rt d) s1 := ev_bind h ev_ret
theorem ev_sif {t : En → M Bool} {a b' : En → M Fl} {f : Fl} (h : Ev (t env) s c s1) (h1 : c = true → Ev (a env) s1 f s2) (h2 : c = false → Ev (b' env) s1 f s2) : Ev (sIf t a b' env) s f s2 := ev_bind h (by cases c with
  | true => exact h1 rfl
  | false => exact h2 rfl)
theorem ev_next : Ev (sNext env) s (.nx env) s := rfl
theorem ev_asg {p : Pat} {m : En → M D} {e : En} (h : Ev (m env) s d s1) (h2 : bindP p d env = some e) : Ev (sAsg p m env) s (.nx e) s1 := ev_bind h (ev_bind (ev_opt h2) ev_ret)
theorem ev_asgN {m : En → M D} (h : Ev (m env) s d s1) : Ev (sAsg (.nm i) m env) s (.nx (env.set i (.val d))) s1 := ev_asg h (by simp only [bindP])
theorem ev_asgO {m : En → M OD} {o : OD} (h : Ev (m env) s o s1) : Ev (sAsgO i m env) s (.nx (env.set i (.own o))) s1 := ev_bind h ev_ret
theorem ev_2nil : Ev (e2nil env) s [] s := rfl
theorem ev_2val {m : En → M D} {r : En → M (List It2)} {xs : List It2} (h : Ev (m env) s d s1) (h2 : Ev (r env) s1 xs s2) : Ev (e2val m r env) s (.val d :: xs) s2 := ev_bind h (ev_bind h2 ev_ret)
theorem ev_2own {m : En → M OD} {r : En → M (List It2)} {xs : List It2} {o : OD} (h : Ev (m env) s o s1) (h2 : Ev (r env) s1 xs s2) : Ev (e2own m r env) s (.own o :: xs) s2 := ev_bind h (ev_bind h2 ev_ret)
theorem ev_asg2 {is : List Nat} {m : En → M (List It2)} {xs : List It2} {e : En} (h : Ev (m env) s xs s1) (hl : xs.length ≤ 1000) (h2 : bind2 is xs env = some e) : Ev (sAsg2 is m env) s (.nx e) s1 := ev_bind h (by rw [if_pos hl]; exact ev_bind (ev_opt h2) ev_ret)
theorem ev_run {n : Nat} {B : En → M Fl} {ds : List D} (h : Ev (B (env0 n ds)) s (.rt d) s1) : Ev (runF n B ds) s d s1 := ev_bind h ev_ret
theorem ev_runN {n : Nat} {B : En → M Fl} {ds : List D} {e : En} (h : Ev (B (env0 n ds)) s (.nx e) s1) : Ev (runF n B ds) s .non s1 := ev_bind h ev_ret
theorem ev_sfrz {is : List Nat} {m : En → M Fl} {f : Fl} {e : En} (he : frzAll is env = e) (h : Ev (m e) s f s1) : Ev (sFrz is m env) s f s1 := by subst he; exact h
theorem ev_for {it : En → M (List D)} {p : Pat} {b' : En → M Fl} {ds : List D} {f : Fl} (h : Ev (it env) s ds s1) (h2 : Ev (forM' p b' ds env) s1 f s2) : Ev (sFor it p b' env) s f s2 := ev_bind h h2
theorem ev_for0 {p : Pat} {b' : En → M Fl} : Ev (forM' p b' [] env) s (.nx env) s := rfl
theorem ev_for1 {p : Pat} {b' : En → M Fl} {ds : List D} {e e2 : En} {f : Fl} (h1 : bindP p d env = some e) (h2 : Ev (b' e) s (.nx e2) s1) (h3 : Ev (forM' p b' ds e2) s1 f s2) : Ev (forM' p b' (d :: ds) env) s f s2 := ev_bind (ev_opt h1) (ev_bind h2 h3)
theorem ev_append {m : En → M D} {ds : List D} (ho : ownL env i = some ds) (h : Ev (m env) s d s1) (hl : ds.length < size7) : Ev (sAppend i m env) s (.nx (env.set i (.own (.lst (ds ++ [d]))))) s1 := ev_bind (ev_opt ho) (ev_bind h (by rw [if_pos hl]; exact ev_ret))
theorem ev_extend {m : En → M OD} {ds es : List D} (ho : ownL env i = some ds) (h : Ev (m env) s (.lst es) s1) (hl : ds.length + es.length ≤ size7) : Ev (sExtend i m env) s (.nx (env.set i (.own (.lst (ds ++ es))))) s1 := ev_bind (ev_opt ho) (ev_bind h (by
  show Ev (if ds.length + es.length ≤ size7 then _ else _) _ _ _
  rw [if_pos hl]; exact ev_ret))
theorem ev_lc {it : En → M (List D)} {p : Pat} {vs : List Nat} {t : En → M Bool} {e : En → M D} {ds ys : List D} (h : Ev (it env) s ds s1) (hl : ds.length ≤ size7) (h2 : Ev (lcM p t e (wipeE env vs) ds) s1 ys s2) : Ev (eLc it p vs t e env) s (.lst ys) s2 := ev_bind h (by rw [if_pos hl]; exact ev_bind h2 ev_ret)
theorem ev_noX {α : Type} {m : M α} {a : α} (h : Ev m s a s1) : Ev (noX m) s a s1 := by unfold Ev noX at *; rw [h]
theorem ev_lc0 {p : Pat} {t : En → M Bool} {e : En → M D} : Ev (lcM p t e env []) s [] s := rfl
theorem ev_lc1 {p : Pat} {t : En → M Bool} {e : En → M D} {ds ys : List D} {e1 : En} (h1 : bindP p d env = some e1) (ht : Ev (t e1) s true s1) (he : Ev (e e1) s1 x s2) (h : Ev (lcM p t e env ds) s2 ys s3) : Ev (lcM p t e env (d :: ds)) s (x :: ys) s3 :=
  ev_bind (ev_opt h1) (ev_bind (ev_noX ht) (by rw [if_pos rfl]; exact ev_bind (ev_noX he) (ev_bind h ev_ret)))
theorem ev_lc2 {p : Pat} {t : En → M Bool} {e : En → M D} {ds ys : List D} {e1 : En} (h1 : bindP p d env = some e1) (ht : Ev (t e1) s false s1) (h : Ev (lcM p t e env ds) s1 ys s3) : Ev (lcM p t e env (d :: ds)) s ys s3 :=
  ev_bind (ev_opt h1) (ev_bind (ev_noX ht) (by rw [if_neg Bool.false_ne_true]; exact h))
/-- a pure comprehension without a test -/
theorem ev_lcMap {p : Pat} {e : En → M D} (f : D → D) : ∀ {ds : List D}, (∀ d ∈ ds, ∃ e1, bindP p d env = some e1 ∧ Ev (e e1) s (f d) s) → Ev (lcM p tYes' e env ds) s (ds.map f) s
  | [], _ => rfl
  | d :: ds, h => by
    obtain ⟨e1, h1, h2⟩ := h d List.mem_cons_self
    exact ev_lc1 h1 rfl h2 (ev_lcMap f fun d' hd => h d' (List.mem_cons_of_mem _ hd))
end
end PV

end

section
set_option maxRecDepth 100000
namespace PV
open PySem PySem.Spec PyProof.Rows L2
section
variable {env : En} {s s1 s2 s3 : Dk} {d x y z : D} {b c : Bool} {i : Nat} {n a k : Int}
theorem ev_dkI {f : Fd} (h : isDeck env i = true) : Ev (eDkI i f env) s (.int (f.get s)) s := if_pos h
theorem ev_dkSet {f : Fd} {m : En → M D} (h : Ev (m env) s (.int n) s1) (hd : isDeck env i = true) : Ev (sDkSet i f m env) s (.nx env) (f.put s1 n) := ev_bind h (if_pos hd)
theorem ev_dkNe (hd : isDeck env i = true) : Ev (tDkNe i env) s (!s.left.isEmpty) s := if_pos hd
theorem ev_dkPop (hd : isDeck env i = true) (h : s.left.getLast? = some n) : Ev (eDkPop i env) s (.int n) { s with left := s.left.dropLast } := by
  unfold Ev eDkPop
  rw [if_pos hd, h]
theorem ev_dkApp {m : En → M D} (hd : isDeck env i = true) (h : Ev (m env) s (.int n) s1) (hl : s1.left.length < size7) : Ev (sDkApp i m env) s (.nx env) { s1 with left := s1.left ++ [n] } := by
  unfold sDkApp
  rw [if_pos hd]
  exact ev_bind h (if_pos hl)
theorem mulD_r (h : small64b k = true) : mulD (.int a) (.int k) = some (.int (a * k)) := by simp only [mulD, h, Bool.or_true, if_true]
theorem mulD_l (h : small64b a = true) : mulD (.int a) (.int k) = some (.int (a * k)) := by simp only [mulD, h, Bool.true_or, if_true]
theorem modD_i (h : k ≠ 0) : modD (.int a) (.int k) = some (.int (a.fmod k)) := by simp only [modD, ne_eq, h, not_false_eq_true, if_true]
theorem fdivD_i (h : k ≠ 0 ∧ k.natAbs < 1073741824) : fdivD (.int a) (.int k) = some (.int (a.fdiv k)) := by
  simp only [fdivD]
  exact if_pos h
theorem ev_int1 {m : En → M D} (h : Ev (m env) s (.int a) s1) : Ev (eMapA (g1 intD) (eAcons m eAnil) env) s (.int a) s1 := ev_mapA (ev_acons h ev_anil) rfl
theorem ev_iop {g : D → D → Option D} {m1 m2 : En → M D} (h1 : Ev (m1 env) s x s1) (h2 : Ev (m2 env) s1 y s2) (h3 : g x y = some d) : Ev (eOp g m1 m2 env) s d s2 := ev_op h1 h2 h3
end
theorem fmod_small {a p : Int} (h : 0 < p) (hp : p ≤ 2147483648) : small64b (a.fmod p) = true := by
  have h1 := Int.fmod_nonneg_of_pos a h
  have h2 := Int.fmod_lt_of_pos a h
  unfold small64b
  simp only [Bool.and_eq_true, decide_eq_true_eq]
  omega
end PV

end

section
set_option maxRecDepth 100000
namespace PV
open PySem PySem.Spec PyProof.Rows L2
section
variable {env : En} {s : Dk}
theorem ev_lc2Map {p p1 : Pat} {it1 : En → M (List D)} {vs1 : List Nat} {e : En → M D} (f : D → List D) : ∀ {ds : List D}, (∀ d ∈ ds, ∃ e1 ds1, bindP p d env = some e1 ∧ Ev (it1 e1) s ds1 s ∧ ds1.length ≤ 1000 ∧ Ev (lcM p1 tYes' e (wipeE e1 vs1) ds1) s (f d) s) → Ev (lc2M p tYes' it1 vs1 p1 tYes' e env ds) s (ds.flatMap f) s
  | [], _ => rfl
  | d :: ds, h => by
    obtain ⟨e1, ds1, h1, h2, h3, h4⟩ := h d List.mem_cons_self
    have ih := ev_lc2Map (p := p) (p1 := p1) (it1 := it1) (vs1 := vs1) (e := e) f fun d' hd => h d' (List.mem_cons_of_mem _ hd)
    refine ev_bind (ev_opt h1) (ev_bind (ev_noX (show Ev (tYes' e1) s true s from rfl)) ?_)
    rw [if_pos rfl]
    refine ev_bind (ev_noX h2) ?_
    rw [if_pos h3]
    rw [List.flatMap_cons]
    exact ev_bind h4 (ev_bind ih ev_ret)
theorem ev_clc2 {it : En → M (List D)} {p p1 : Pat} {vs : List Nat} {t : En → M Bool} {it1 : En → M (List D)} {vs1 : List Nat} {t1 : En → M Bool} {e : En → M D} {s1 s2 : Dk} {ds ys : List D} (h : Ev (it env) s ds s1) (hl : ds.length ≤ 1000) (h2 : Ev (lc2M p t it1 vs1 p1 t1 e (wipeE env vs) ds) s1 ys s2) : Ev (eLc2 it p vs t it1 vs1 p1 t1 e env) s (.lst ys) s2 := ev_bind h (by rw [if_pos hl]; exact ev_bind h2 ev_ret)
end
/-! ### words -/
def upto (n : Int) : List Int := (List.range n.toNat).map fun (i : Nat) => (i : Int)
def grow (fd : List (List Int)) (n : Int) : List (List Int) := fd.flatMap fun w => (upto n).map fun x => w ++ [x]
def wordsL (ns : List Int) : List (List Int) := ns.foldl grow [[]]
theorem rangeD_upto (n : Int) : rangeD 0 n = (upto n).map D.int := by
  unfold rangeD upto
  rw [List.map_map, Int.sub_zero]
  exact List.map_congr_left fun i _ => by simp
theorem tupI_snoc (w : List Int) (x : Int) : tupI (w ++ [x]) = .tup (w.map D.int ++ [.int x]) := by unfold tupI; simp
theorem grow_map (fd : List (List Int)) (n : Int) : (grow fd n).map tupI = (fd.map tupI).flatMap fun d => match d with
  | .tup es => (upto n).map fun x => .tup (es ++ [.int x])
  | _ => [] := by
  unfold grow
  rw [List.map_flatMap, List.flatMap_map]
  refine congrArg (fun f => List.flatMap f fd) (funext fun w => ?_)
  show List.map tupI _ = List.map _ _
  rw [List.map_map]
  exact List.map_congr_left fun x _ => tupI_snoc w x
end PV

end

section
set_option maxRecDepth 100000
namespace PV
open PySem PySem.Spec PyProof.Rows L2
/-! ### what repr shows -/
abbrev okS (x : Str) : Prop := ∀ c ∈ x.cps.toList, c < 0x110000
theorem okS_of {x : Str} (h : okS x) : PyData.strOk x = true := by
  unfold PyData.strOk
  rw [Array.all_eq_true_iff_forall_mem]
  intro c hc
  exact decide_eq_true (h c (Array.mem_toList_iff.mpr hc))
theorem okS_string (s : String) : okS (Str.ofString s) := by
  intro c hc
  rw [Str.ofString_eq_toList] at hc
  obtain ⟨a, _, rfl⟩ := List.mem_map.mp (show c ∈ s.toList.map Char.toNat from hc)
  have := a.valid
  unfold Char.toNat
  rcases this with h | h
  · have : a.val.toNat < 0xd800 := h
    omega
  · have : a.val.toNat < 0x110000 := h.2
    omega
theorem okS_append {a b : Str} (ha : okS a) (hb : okS b) : okS (a ++ b) := by
  intro c hc
  have e : (a ++ b).cps.toList = a.cps.toList ++ b.cps.toList := by
    show (a.cps ++ b.cps).toList = _
    rw [Array.toList_append]
  rw [e] at hc
  rcases List.mem_append.mp hc with h | h
  · exact ha c h
  · exact hb c h
theorem okS_join {sep : Str} (hs : okS sep) : ∀ (ts : List Str), (∀ t ∈ ts, okS t) → okS (Str.join sep ts)
  | [], _ => by intro c hc; cases hc
  | [x], h => h x List.mem_cons_self
  | x :: y :: r, h => okS_append (okS_append (h x List.mem_cons_self) hs) (okS_join hs (y :: r) fun t ht => h t (List.mem_cons_of_mem _ ht))
theorem okS_tuple {ts : List Str} (h : ∀ t ∈ ts, okS t) : okS (tupleText ts) := by
  unfold tupleText
  exact okS_append (okS_append (okS_string _) (okS_join (okS_string _) ts h)) (okS_string _)
theorem piled_bound {n : Nat} : ∀ {ts : List Str}, (∀ t ∈ ts, t.length ≤ n) → piled ts ≤ ts.length * (n + 2)
  | [], _ => by simp [piled]
  | t :: ts, h => by
    have h1 := h t List.mem_cons_self
    have h2 := piled_bound fun u hu => h u (List.mem_cons_of_mem t hu)
    rw [piled_cons, List.length_cons, Nat.succ_mul]
    omega
theorem tuple_len {n : Nat} {ts : List Str} (h : ∀ t ∈ ts, t.length ≤ n) : (tupleText ts).length ≤ ts.length * (n + 2) + 3 := by
  have hb := piled_bound h
  unfold tupleText
  rw [strLen_append, strLen_append]
  have e1 : ((("(" : String) : Str)).length = 1 := rfl
  have e3 : (((if ts.length == 1 then ",)" else ")" : String) : Str)).length ≤ 2 := by split <;> decide
  have e2 : (Str.join ", " ts).length ≤ piled ts := by
    by_cases hz : ts = []
    · subst hz; simp [piled, Str.join, Str.empty, Str.length]
    · have := join_length_add ts hz; omega
  omega
theorem okS_textFrom : ∀ (ts : List Str) (k : Nat) (acc : Str), okS acc → (∀ t ∈ ts, okS t) → okS (textFrom k acc ts)
  | [], k, acc, h, _ => by unfold textFrom; exact h
  | t :: ts, k, acc, h, ht => by
    unfold textFrom
    exact okS_textFrom ts _ _ (okS_append (okS_append h (okS_string _)) (ht t List.mem_cons_self)) fun u hu => ht u (List.mem_cons_of_mem _ hu)
theorem okS_list {ts : List Str} (h : ∀ t ∈ ts, okS t) : okS (listText ts) := by
  unfold listText
  exact okS_append (okS_textFrom ts 0 _ (okS_string _) h) (okS_string _)
theorem shown_all (ps : List PyData) : PyData.shownAll ps = ps.map PyData.shown := by
  induction ps with
  | nil => rfl
  | cons p ps ih => simp only [PyData.shownAll, List.map_cons, ih]
theorem showable_all {ps : List PyData} (h : ∀ p ∈ ps, p.showable = true) : PyData.showableAll ps = true := by
  induction ps with
  | nil => rfl
  | cons p ps ih =>
    simp only [PyData.showableAll, Bool.and_eq_true]
    exact ⟨h p List.mem_cons_self, ih fun q hq => h q (List.mem_cons_of_mem _ hq)⟩
theorem lay_all {ps : List PyData} (h : ∀ p ∈ ps, p.canLay0 = true) : PyData.canLayAll0 ps = true := by
  induction ps with
  | nil => rfl
  | cons p ps ih =>
    simp only [PyData.canLayAll0, Bool.and_eq_true]
    exact ⟨h p List.mem_cons_self, ih fun q hq => h q (List.mem_cons_of_mem _ hq)⟩
theorem depth_all {ps : List PyData} {k : Nat} (h : ∀ p ∈ ps, p.depth ≤ k) : PyData.depthAll ps ≤ k := by
  induction ps with
  | nil => simp [PyData.depthAll]
  | cons p ps ih =>
    simp only [PyData.depthAll]
    exact Nat.max_le.mpr ⟨h p List.mem_cons_self, ih fun q hq => h q (List.mem_cons_of_mem _ hq)⟩
/-- what can be shown: at most h deep, in at most n signs -/
structure Sh (d : D) (p : PyData) (h n : Nat) : Prop where
  toP : d.toP = some p
  able : p.showable = true
  lay : p.canLay0 = true
  deep : p.depth ≤ h
  len : p.shown.length ≤ n
  ok : okS p.shown
def Shw (d : D) (h n : Nat) : Prop := ∃ p, Sh d p h n
theorem shw_mono {d : D} {h h' n n' : Nat} (s : Shw d h n) (a : h ≤ h') (b : n ≤ n') : Shw d h' n' := by
  obtain ⟨p, s⟩ := s
  exact ⟨p, s.toP, s.able, s.lay, Nat.le_trans s.deep a, Nat.le_trans s.len b, s.ok⟩
theorem shw_int {i : Int} {k : Nat} (h0 : 0 < k) (hk : k ≤ 500) (h : i.natAbs < 10 ^ k) : Shw (.int i) 0 (k + 1) := by
  refine ⟨.int i, rfl, ?_, rfl, ?_, ?_, ?_⟩
  · simp only [PyData.showable]
    refine decide_eq_true ?_
    by_cases hz : i.natAbs = 0
    · rw [hz]; decide
    · refine (Nat.log2_lt hz).mpr (Nat.lt_of_lt_of_le h ?_)
      refine Nat.le_trans (Nat.pow_le_pow_right (by decide) hk) (by decide +kernel)
  · simp [PyData.depth]
  · simp only [PyData.shown]
    show (Str.ofString (toString i)).length ≤ k + 1
    rw [PySem.ofString_length]
    exact int_text_length_le10 h0 h
  · simp only [PyData.shown]
    exact okS_string _
theorem shw_bl (b : Bool) : Shw (.bl b) 0 5 := by
  refine ⟨.bool b, rfl, rfl, rfl, by simp [PyData.depth], ?_, ?_⟩
  · simp only [PyData.shown]; cases b <;> decide
  · simp only [PyData.shown]; cases b <;> exact okS_string _
theorem shws {h n : Nat} : ∀ {ds : List D}, (∀ d ∈ ds, Shw d h n) → ∃ ps : List PyData, D.toPs ds = some ps ∧ ps.length = ds.length ∧ (∀ p ∈ ps, p.showable = true) ∧ (∀ p ∈ ps, p.canLay0 = true) ∧ (∀ p ∈ ps, p.depth ≤ h) ∧ (∀ p ∈ ps, p.shown.length ≤ n) ∧ ∀ p ∈ ps, okS p.shown
  | [], _ => ⟨[], rfl, rfl, by simp, by simp, by simp, by simp, by simp⟩
  | d :: ds, H => by
    obtain ⟨p, s⟩ := H d List.mem_cons_self
    obtain ⟨ps, e, l, a1, a2, a3, a4, a5⟩ := shws fun d' hd => H d' (List.mem_cons_of_mem _ hd)
    refine ⟨p :: ps, by simp only [D.toPs, s.toP, e], by simp [l], ?_, ?_, ?_, ?_, ?_⟩
    · intro q hq; rcases List.mem_cons.mp hq with rfl | hq; exact s.able; exact a1 q hq
    · intro q hq; rcases List.mem_cons.mp hq with rfl | hq; exact s.lay; exact a2 q hq
    · intro q hq; rcases List.mem_cons.mp hq with rfl | hq; exact s.deep; exact a3 q hq
    · intro q hq; rcases List.mem_cons.mp hq with rfl | hq; exact s.len; exact a4 q hq
    · intro q hq; rcases List.mem_cons.mp hq with rfl | hq; exact s.ok; exact a5 q hq
theorem shw_tup {ds : List D} {h n : Nat} (H : ∀ d ∈ ds, Shw d h n) : Shw (.tup ds) (h + 1) (ds.length * (n + 2) + 3) := by
  obtain ⟨ps, e, l, a1, a2, a3, a4, a5⟩ := shws H
  refine ⟨.tuple ps, by simp only [D.toP, e, Option.map_some], by simp only [PyData.showable]; exact showable_all a1, by simp only [PyData.canLay0]; exact lay_all a2, ?_, ?_, ?_⟩
  · simp only [PyData.depth]
    have := depth_all a3
    omega
  · simp only [PyData.shown, shown_all]
    refine Nat.le_trans (tuple_len (n := n) fun t ht => ?_) (by rw [List.length_map, l]; exact Nat.le_refl _)
    obtain ⟨p, hp, rfl⟩ := List.mem_map.mp ht
    exact a4 p hp
  · simp only [PyData.shown, shown_all]
    refine okS_tuple fun t ht => ?_
    obtain ⟨p, hp, rfl⟩ := List.mem_map.mp ht
    exact a5 p hp
theorem shw_repr {d : D} {h n : Nat} (s : Shw d h n) (hh : h ≤ 64) (hn : n ≤ 10000000) : ∃ t : Str, reprD d = some (.str t) ∧ PyData.strOk t = true := by
  obtain ⟨p, s⟩ := s
  refine ⟨p.shown, ?_, okS_of s.ok⟩
  unfold reprD
  rw [s.toP, Option.bind_some, if_pos]
  rw [Bool.and_eq_true, Bool.and_eq_true]
  refine ⟨⟨s.able, ?_⟩, decide_eq_true (Nat.le_trans s.len hn)⟩
  unfold SeqAt.shaped
  rw [Bool.and_eq_true]
  exact ⟨s.lay, decide_eq_true (Nat.le_trans s.deep hh)⟩
theorem str_eq {t : Str} (h : PyData.strOk t = true) : eqD (.str t) (.str t) = some (.bl true) := by
  have hs : SeqAt.shaped (.str t) = true := by
    unfold SeqAt.shaped
    simp [PyData.canLay0, h, PyData.depth]
  unfold eqD
  simp only [D.toP, hs, Bool.and_self, if_true]
  rw [SeqAt.eqv_refl _ (by simp [PyData.canLay0, h])]
theorem str_ne {t : Str} (h : PyData.strOk t = true) : neD (.str t) (.str t) = some (.bl false) := by
  have hs : SeqAt.shaped (.str t) = true := by
    unfold SeqAt.shaped
    simp [PyData.canLay0, h, PyData.depth]
  unfold neD
  simp only [D.toP, hs, Bool.and_self, if_true]
  rw [SeqAt.eqv_refl _ (by simp [PyData.canLay0, h])]
  rfl
section
variable {env : En} {s s1 s2 : Dk} {d : D} {m n : En → M D} {h k : Nat}
/-- repr(a) == repr(b), both alike -/
theorem ev_reprEq (h1 : Ev (m env) s d s1) (h2 : Ev (n env) s1 d s2) (sh : Shw d h k) (hh : h ≤ 64 := by decide) (hk : k ≤ 10000000 := by decide) : Ev (eOp eqD (eMapA (g1 reprD) (eAcons m eAnil)) (eMapA (g1 reprD) (eAcons n eAnil)) env) s (.bl true) s2 := by
  obtain ⟨t, e, ok⟩ := shw_repr sh hh hk
  exact ev_op (ev_mapA (ev_acons h1 ev_anil) e) (ev_mapA (ev_acons h2 ev_anil) e) (str_eq ok)
theorem ev_reprNe (h1 : Ev (m env) s d s1) (h2 : Ev (n env) s1 d s2) (sh : Shw d h k) (hh : h ≤ 64 := by decide) (hk : k ≤ 10000000 := by decide) : Ev (tVal (eOp neD (eMapA (g1 reprD) (eAcons m eAnil)) (eMapA (g1 reprD) (eAcons n eAnil))) env) s false s2 := by
  obtain ⟨t, e, ok⟩ := shw_repr sh hh hk
  exact ev_tval (ev_op (ev_mapA (ev_acons h1 ev_anil) e) (ev_mapA (ev_acons h2 ev_anil) e) (str_ne ok))
end
end PV

end

section
set_option maxRecDepth 100000
namespace PV
open PySem PySem.Spec PyProof.Rows L2
abbrev iL (ns : List Int) : List D := ns.map D.int
/-- few enough numbers are left -/
abbrev Fit (s : Dk) : Prop := s.left.length ≤ 63
section
variable {env : En} {s s1 s2 s3 : Dk} {d x y z : D} {b c : Bool} {i : Nat}
theorem ev_tbor {t : En → M Bool} {is : List Nat} (h : Ev (t (frzAll is env)) s c s1) : Ev (tBor is t env) s c s1 := ev_noX h
theorem ev_store {ds : List D} {mi mv : En → M D} {k : Int} {j : Nat} (ho : ownL env i = some ds) (hv : Ev (mv env) s d s1) (hi : Ev (mi env) s1 (.int k) s2) (hx : ixN ds.length k = some j) : Ev (sStore i mi mv env) s (.nx (env.set i (.own (.lst (ds.set j d))))) s2 := ev_bind (ev_opt ho) (ev_bind hv (ev_bind hi (by
  simp only [hx]; exact ev_ret)))
theorem ev_ownLen {ds : List D} (ho : ownL env i = some ds) : Ev (eOwnLen i env) s (.int ds.length) s := ev_bind (ev_opt ho) ev_ret
theorem ev_appendPop {ds es : List D} {m : En → M D} {j n : Nat} {k : Int} (ho : ownL env i = some ds) (hp : ownL env j = some es) (hm : Ev (m env) s (.int k) s1) (hx : ixN es.length k = some n) (hd : es[n]? = some d) (hl : ds.length < size7 ∧ i ≠ j ∧ es.length ≤ size7) :
    Ev (sAppendPop i j m env) s (.nx ((env.set j (.own (.lst (es.eraseIdx n)))).set i (.own (.lst (ds ++ [d]))))) s1 := ev_bind (ev_opt ho) (ev_bind (ev_opt hp) (ev_bind hm (by
  simp only [hx, hd, if_pos hl]; exact ev_ret)))
theorem ev_opO {g : D → D → Option OD} {m n : En → M D} {o : OD} (h1 : Ev (m env) s x s1) (h2 : Ev (n env) s1 y s2) (h3 : g x y = some o) : Ev (eOpO g m n env) s o s2 := ev_bind h1 (ev_bind h2 (ev_opt h3))
theorem ev_index {m n : En → M D} {ds : List D} (h1 : Ev (m env) s (.lst ds) s1) (h2 : Ev (n env) s1 y s2) (h3 : indexD (.lst ds) y = some d) : Ev (eIndex m n env) s d s2 := ev_bind h1 (by
  show Ev (andThen (n env) fun y => opt (indexD (.lst ds) y)) s1 d s2
  exact ev_bind h2 (ev_opt h3))
theorem ev_iter {t : En → M Bool} {m n : En → M D} (h : Ev (t env) s c s1) (h1 : c = true → Ev (m env) s1 d s2) (h2 : c = false → Ev (n env) s1 d s2) : Ev (eIf t m n env) s d s2 := ev_if h h1 h2
end
theorem ixN_nn {n : Nat} {k : Int} (h0 : 0 ≤ k) (h1 : k < n) : ixN n k = some k.toNat := by
  unfold ixN
  rw [if_pos h0, if_pos h1]
/-- a comprehension that draws -/
theorem lc_ints {p : Pat} {e : En → M D} {env : En} (P : Int → Prop) : ∀ (ds : List D) (s : Dk), Fit s → (∀ d ∈ ds, ∃ e1, bindP p d env = some e1 ∧ ∀ s, Fit s → ∃ x s', Ev (e e1) s (.int x) s' ∧ P x ∧ Fit s') → ∃ ns s', Ev (lcM p tYes' e env ds) s (iL ns) s' ∧ ns.length = ds.length ∧ (∀ n ∈ ns, P n) ∧ Fit s'
  | [], s, h, _ => ⟨[], s, rfl, rfl, fun n hn => (by cases hn), h⟩
  | d :: ds, s, h, H => by
    obtain ⟨e1, h1, h2⟩ := H d List.mem_cons_self
    obtain ⟨x, s1, e2, px, f1⟩ := h2 s h
    obtain ⟨ns, s2, e3, l, hP, f2⟩ := lc_ints P ds s1 f1 fun d' hd => H d' (List.mem_cons_of_mem _ hd)
    refine ⟨x :: ns, s2, ev_lc1 h1 rfl e2 e3, by simp [l], fun n hn => ?_, f2⟩
    rcases List.mem_cons.mp hn with rfl | hn
    · exact px
    · exact hP n hn
/-- .. that leaves some out -/
theorem lc_some {i : Nat} {t : En → M Bool} {e : En → M D} {env : En} : ∀ (ns : List Int) (s : Dk), Fit s → (∀ n ∈ ns, ∀ s, Fit s → ∃ c s', Ev (t (env.set i (.val (.int n)))) s c s' ∧ Fit s') → (∀ n ∈ ns, ∀ s, Ev (e (env.set i (.val (.int n)))) s (.int n) s) → ∃ ms s', Ev (lcM (.nm i) t e env (iL ns)) s (iL ms) s' ∧ ms.Sublist ns ∧ Fit s'
  | [], s, h, _, _ => ⟨[], s, rfl, .slnil, h⟩
  | n :: ns, s, h, ht, he => by
    obtain ⟨c, s1, e1, f1⟩ := ht n List.mem_cons_self s h
    obtain ⟨ms, s2, e2, sb, f2⟩ := lc_some (i := i) (t := t) (e := e) (env := env) ns s1 f1 (fun m hm => ht m (List.mem_cons_of_mem _ hm)) (fun m hm => he m (List.mem_cons_of_mem _ hm))
    cases c with
    | true => exact ⟨n :: ms, s2, ev_lc1 (by simp only [bindP]) e1 (he n List.mem_cons_self s1) e2, sb.cons_cons n, f2⟩
    | false => exact ⟨ms, s2, ev_lc2 (by simp only [bindP]) e1 e2, sb.cons n, f2⟩
end PV

end

section
set_option maxRecDepth 100000
namespace PV
open PySem PySem.Spec PyProof.Rows L2
/-! ### bool(i), str(i), a display of two pairs -/
def boolD : D → Option D
  | .int i => some (.bl (i != 0))
  | .bl b => some (.bl b)
  | _ => none
def strD : D → Option D
  | .int i => if i.natAbs.log2 < 1920 then some (.str (toString i)) else none
  | _ => none
section
variable {X : Cx} {dk l : Addr} {W : WX}
theorem c_bool : CallD X dk l (.type "bool") (g1 boolD) := callD1 call_bool1 fun I H s x v d Q w r e q => by
  cases x with
  | int i =>
    cases e
    exact .inl ⟨i, by rw [show v = _ from r], q _ I H Ext.refl w rfl⟩
  | bl b =>
    cases e
    exact .inr ⟨b, by rw [show v = _ from r], q _ I H Ext.refl w rfl⟩
  | _ => cases e
theorem c_strI : CallD X dk l (.type "str") (g1 strD) := callD1 call_str_int fun I H s x v d Q w r e q => by
  cases x with
  | int i =>
    unfold strD at e
    by_cases h : i.natAbs.log2 < 1920
    · simp only [h, if_true] at e
      cases e
      exact ⟨i, by rw [show v = _ from r], h, q _ I H Ext.refl w rfl⟩
    · simp only [h, if_false] at e
      cases e
  | _ => cases e
def eDisp2 (k1 k2 : Key) (m1 m2 : En → M D) : En → M OD := fun env => andThen (m1 env) fun d1 => andThen (m2 env) fun d2 => ret (.dK [(k1, d1), (k2, d2)])
theorem r_disp2 {k1 k2 : Key} {a b e1 e2 : Expr} {m1 m2 : En → M D} {pos : Pos} (hne : k1 ≠ k2) (ha : PE X a (tC (kV k1))) (hb : PE X b (tC (kV k2))) (h1 : PE X e1 (lift X.K dk l W m1)) (h2 : PE X e2 (lift X.K dk l W m2)) :
    PE X (.Dict [some a, some b] [e1, e2] pos) (liftO X.K dk l W (eDisp2 k1 k2 m1 m2)) := by
  refine PE_imp (pe_disp (pps_cons ha h1 (pps_cons hb h2 pps_nil)) rfl rfl (by intro z; cases z) (by show 2 ≤ 15; decide)) fun σ H Q ⟨I, env, s, e, w, q⟩ p hp => ?_
  have np1 : p ≠ dk := fun z => by rw [z, w.dko] at hp; cases hp
  have np2 : p ≠ l := fun z => by rw [z, w.lft] at hp; cases hp
  have x0 := Ext.off (o := .dK []) w hp
  have w0 := Wo.off (o := .dK []) w (w.sub.none hp) np1 np2
  have sf : ∀ {I2 H2 : Hp} {s2 : Dk}, Ext dk l I (upd H p (.dK [])) I2 H2 → Wo dk l I2 H2 s2 → I2 p = none := fun {I2 H2 s2} x w2 => by
    cases z : I2 p with
    | none => rfl
    | some u =>
      rcases x.fresh p u z (w.sub.none hp) with h | ⟨_, h⟩
      · rw [upd_same] at h; cases h
      · rw [upd_same] at h; cases h
  show lift X.K dk l W m1 σ (upd H p (.dK [])) _
  refine ⟨I, env, s, e.ext x0, w0, q.bind.mono (fun d1 s1 q v1 I1 H1 x1 w1 r1 => ?_) fun _ _ _ h => h.shift x0⟩
  show lift X.K dk l W m2 σ H1 _
  refine ⟨I1, env, s1, (e.ext x0).ext x1, w1, q.bind.mono (fun d2 s2 q v2 I2 H2 x2 w2 r2 => ?_) fun _ _ _ h => (h.shift x0).shift x1⟩
  have x12 := x1.trans x2 w2
  have hp2 : H2 p = some (.dK []) := x12.keep p _ upd_same np1 np2
  refine ⟨hp2, [(k1, v1), (k2, v2)], rfl, by show 2 ≤ 15; decide, ?_⟩
  have em : mergeK [] [(k1, v1), (k2, v2)] = [(k1, v1), (k2, v2)] := by
    simp [mergeK, putK, hne]
  rw [em]
  have hi := sf x12 w2
  have xt := x0.trans x12 w2
  have w3 : Wo dk l I2 (upd H2 p (.dK [(k1, v1), (k2, v2)])) s2 := Wo.off (o := .dK [(k1, v1), (k2, v2)]) w2 hi np1 np2
  have x3 : Ext dk l I H I2 (upd H2 p (.dK [(k1, v1), (k2, v2)])) := ⟨xt.grow, fun c o h n1 n2 => by rw [upd_ne (ne_of_none h hp)]; exact xt.keep c o h n1 n2, xt.fresh⟩
  exact q p I2 _ x3 w3 hp ⟨[(k1, v1), (k2, v2)], upd_same, v1, _, rfl, Rep.mono x2.grow d1 v1 r1, v2, _, rfl, r2, rfl⟩ np1 np2 hi
end
end PV

end

section
set_option maxRecDepth 100000
namespace PV
open PySem PySem.Spec PyProof.Rows L2
/-! ### repr of data with dicts within -/
def keyP : Key → PyData
  | .inl i => .int i
  | .inr x => .str x
mutual
def D.toQ : D → Option PyData
  | .non => some .none
  | .bl b => some (.bool b)
  | .int i => some (.int i)
  | .str x => some (.str x)
  | .tup ds => (D.toQs ds).map .tuple
  | .lst ds => (D.toQs ds).map .list
  | .dK kvs => (D.toQk kvs).map .dict
  | .dT _ => none
  | .deck => none
  | .exc _ _ => none
  | .fK _ => none
def D.toQs : List D → Option (List PyData)
  | [] => some []
  | d :: ds => match D.toQ d, D.toQs ds with
    | some p, some ps => some (p :: ps)
    | _, _ => none
def D.toQk : List (Key × D) → Option (List (PyData × PyData))
  | [] => some []
  | (k, d) :: r => match D.toQ d, D.toQk r with
    | some p, some ps => some ((keyP k, p) :: ps)
    | _, _ => none
end
section
variable {X : Cx} {pins : List (Addr × Obj)} {σ : L2.St} {I0 H : Hp} {s : Shared} {dk : Addr}
theorem key_reads {h : Heap} {k : Key} {u : Value} (e : keyIs k u = true) : Reads h u (keyP k) [] := by
  rcases keyIs_shape e with ⟨i, t, rfl, rfl⟩ | ⟨x, t, rfl, rfl⟩
  · exact .int i t
  · exact .str x t
mutual
theorem reads_of (J : Inv X pins σ H s) (e : Sm I0 H) : ∀ (d : D) (v : V) (u : Value) (p : PyData), Rep X.K I0 dk d v → d.toQ = some p → RelV v u → ∃ as, Reads s.heap u p as ∧ ∀ a ∈ as, H a ≠ none
  | .non, v, u, p, h, q, r => by
    cases q; rw [show v = _ from h] at r; rw [show u = Value.none from r]; exact ⟨_, .none, by simp⟩
  | .bl b, v, u, p, h, q, r => by
    cases q; rw [show v = _ from h] at r; rw [show u = Value.bool b from r]; exact ⟨_, .bool b, by simp⟩
  | .int b, v, u, p, h, q, r => by
    cases q; rw [show v = _ from h] at r; obtain ⟨t, rfl⟩ := r; exact ⟨_, .int b t, by simp⟩
  | .str b, v, u, p, h, q, r => by
    cases q; rw [show v = _ from h] at r; obtain ⟨t, rfl⟩ := r; exact ⟨_, .str b t, by simp⟩
  | .tup ds, v, u, p, h, q, r => by
    obtain ⟨a, vs, rfl, h1, h2⟩ := h
    obtain rfl : u = Value.ref a := r
    simp only [D.toQ] at q
    cases z : D.toQs ds with
    | none => rw [z] at q; cases q
    | some ps =>
      rw [z] at q; cases q
      obtain ⟨its, rv, ⟨o, ho, hc, n, hd⟩, _⟩ := J.tuple (.inl (.inl (e _ _ h1)))
      obtain ⟨as, ra, hm⟩ := readsAll_of J e ds vs its ps h2 z rv
      exact ⟨as, .tuple ho hc hd (by simpa using ra), hm⟩
  | .lst ds, v, u, p, h, q, r => by
    obtain ⟨a, vs, rfl, h1, h2⟩ := h
    obtain rfl : u = Value.ref a := r
    simp only [D.toQ] at q
    cases z : D.toQs ds with
    | none => rw [z] at q; cases q
    | some ps =>
      rw [z] at q; cases q
      obtain ⟨its, rv, ⟨o, n, ho, hc, _, hd⟩, _⟩ := J.list (.inl (.inl (e _ _ h1)))
      obtain ⟨as, ra, hm⟩ := readsAll_of J e ds vs its ps h2 z rv
      refine ⟨a :: as, .list ho hc hd (by simpa using ra), fun b hb => ?_⟩
      rcases List.mem_cons.mp hb with rfl | hb
      · rw [e _ _ h1]; simp
      · exact hm b hb
  | .dK kvs, v, u, p, h, q, r => by
    obtain ⟨a, ws, rfl, h1, h2⟩ := h
    obtain rfl : u = Value.ref a := r
    simp only [D.toQ] at q
    cases z : D.toQk kvs with
    | none => rw [z] at q; cases q
    | some ps =>
      rw [z] at q; cases q
      obtain ⟨_, _, vs, kv, o, es, ep, ho, hx, hd, _, hp, _⟩ := L2.dk_of J.hok (e _ _ h1)
      obtain ⟨as, bs, ra, rb, hm, hm2⟩ := readsK_of J e kvs ws vs es.toList ps h2 z kv hp
      refine ⟨a :: as ++ bs, .dict ho hx.1 hd ra rb, fun b hb => ?_⟩
      rcases List.mem_append.mp hb with hb | hb
      · rcases List.mem_cons.mp hb with rfl | hb
        · rw [e _ _ h1]; simp
        · exact hm b hb
      · exact hm2 b hb
  | .dT _, _, _, _, _, q, _ => by cases q
  | .deck, _, _, _, _, q, _ => by cases q
  | .exc _ _, _, _, _, _, q, _ => by cases q
  | .fK _, _, _, _, _, q, _ => by cases q
theorem readsAll_of (J : Inv X pins σ H s) (e : Sm I0 H) : ∀ (ds : List D) (vs : List V) (us : List Value) (ps : List PyData), RepL X.K I0 dk ds vs → D.toQs ds = some ps → Vals vs us → ∃ as, ReadsAll s.heap us ps as ∧ ∀ a ∈ as, H a ≠ none
  | [], vs, us, ps, h, q, r => by
    cases q
    rw [show vs = _ from h] at r
    cases r
    exact ⟨_, .nil, by simp⟩
  | d :: ds, vs, us, ps, h, q, r => by
    obtain ⟨v, rs, rfl, h1, h2⟩ := h
    cases r with
    | @cons _ u _ ur r1 r2 =>
    simp only [D.toQs] at q
    cases z : D.toQ d with
    | none => rw [z] at q; cases q
    | some p =>
      cases z2 : D.toQs ds with
      | none => rw [z, z2] at q; cases q
      | some ps2 =>
        rw [z, z2] at q; cases q
        obtain ⟨as, ra, hm⟩ := reads_of J e d v u p h1 z r1
        obtain ⟨bs, rb, hm2⟩ := readsAll_of J e ds rs ur ps2 h2 z2 r2
        exact ⟨as ++ bs, .cons ra rb, fun b hb => (List.mem_append.mp hb).elim (hm b) (hm2 b)⟩
theorem readsK_of (J : Inv X pins σ H s) (e : Sm I0 H) : ∀ (kvs : List (Key × D)) (ws : List (Key × V)) (vs : List (Key × Value)) (es : List DictEntry) (ps : List (PyData × PyData)), RepK X.K I0 dk kvs ws → D.toQk kvs = some ps → KV ws vs → Pairs (mixKind X.prog X.w) es vs →
    ∃ as bs, ReadsAll s.heap (es.map (·.key)) (ps.map (·.1)) as ∧ ReadsAll s.heap (es.map (·.val)) (ps.map (·.2)) bs ∧ (∀ a ∈ as, H a ≠ none) ∧ ∀ a ∈ bs, H a ≠ none
  | [], ws, vs, es, ps, h, q, kv, hp => by
    cases q
    rw [show ws = _ from h] at kv
    cases kv
    cases hp
    exact ⟨[], [], .nil, .nil, by simp, by simp⟩
  | (k, d) :: kvs, ws, vs, es, ps, h, q, kv, hp => by
    obtain ⟨v, rs, rfl, h1, h2⟩ := h
    cases kv with
    | @cons _ w2 _ wr r1 r2 =>
    cases hp with
    | @cons en _ es2 _ p1 p2 p3 =>
    simp only [D.toQk] at q
    cases z : D.toQ d with
    | none => rw [z] at q; cases q
    | some p =>
      cases z2 : D.toQk kvs with
      | none => rw [z, z2] at q; cases q
      | some ps2 =>
        rw [z, z2] at q; cases q
        obtain ⟨r1a, r1b⟩ := r1
        obtain ⟨as, ra, hm⟩ := reads_of J e d v en.val p h1 z (by rw [p2]; exact r1b)
        obtain ⟨as2, bs2, ra2, rb2, hm2, hm3⟩ := readsK_of J e kvs rs wr es2 ps2 h2 z2 r2 p3
        have pk : keyIs k en.key = true := by
          have y : keyIs w2.1 en.key = true := p1
          rw [← r1a] at y
          exact y
        refine ⟨[] ++ as2, as ++ bs2, .cons (key_reads pk) ra2, .cons ra rb2, fun b hb => hm2 b (by simpa using hb), fun b hb => (List.mem_append.mp hb).elim (hm b) (hm3 b)⟩
end
end
def reprD2 (d : D) : Option D := d.toQ.bind fun p => if p.showable && decide (p.depth ≤ 64) && decide (p.shown.length ≤ size7) then some (.str p.shown) else none
section
variable {X : Cx} {dk l : Addr} {W : WX}
theorem sys_free {pins : List (Addr × Obj)} {σ : L2.St} {H : Hp} {s : Shared} (J : Inv X pins σ H s) (hs : (X.K.lookup sysModules).isSome = true) : H sysModules = none := by
  obtain ⟨o, ho⟩ := Option.isSome_iff_exists.mp hs
  exact (J.bs _ _ (J.mod.kin _ _ ho)).2
theorem call_reprQ (hG : X.A.guards = some []) (hu : X.A.units + 128 < cLine) (hs : (X.K.lookup sysModules).isSome = true) : CallR X (.builtin "repr") (fun xs H Q => ∃ (I0 : Hp) (dk : Addr) (d : D) (v : V) (p : PyData), xs = [v] ∧ Sm I0 H ∧ Rep X.K I0 dk d v ∧ d.toQ = some p ∧ p.showable = true ∧ p.depth ≤ 64 ∧ p.shown.length ≤ size7 ∧ Q (.str p.shown) H) := by
  intro pins z σ H xs us Q J r h
  obtain ⟨I0, dk, d, v, p, rfl, e, hr, hq, hsh, hdep, hz, q⟩ := h
  obtain ⟨u, rfl, ru⟩ := vals1 r
  obtain ⟨as, rd, hm⟩ := reads_of J e d v u p hr hq ru
  have hsys : sysModules ∉ as := fun hin => hm _ hin (sys_free J hs)
  have ref : ∀ {a : Addr}, u = .ref a → wpAny (model X.prog X.w) X.A (call (.builtin "repr") [u]) (EP X pins σ Q) X.xe z := fun {a} eu => by
    subst eu
    exact repr_of_reads' rd hsh (fun _ => hsys) hG (by omega) (fun _ _ e => e) (fun h' t tk kp => ⟨.str _, H, J.kept kp, ⟨t, rfl⟩, q⟩) (size7_le hz)
  cases d with
  | non =>
    cases hq
    rw [show v = _ from hr] at ru
    rw [show u = Value.none from ru]
    exact PySem.P.repr_of_none ⟨.str _, H, J.tok _, ⟨_, rfl⟩, by simpa only [PyData.shown] using q⟩
  | bl b =>
    cases hq
    rw [show v = _ from hr] at ru
    rw [show u = Value.bool b from ru]
    exact PySem.P.repr_of_bool ⟨.str _, H, J.tok _, ⟨_, rfl⟩, by simpa only [PyData.shown] using q⟩
  | int i =>
    cases hq
    rw [show v = _ from hr] at ru
    obtain ⟨t, rfl⟩ := ru
    simp only [PyData.showable] at hsh
    exact PySem.P.repr_of_int (of_decide_eq_true hsh) ⟨.str _, H, J.tok _, ⟨_, rfl⟩, by simpa only [PyData.shown] using q⟩
  | str y =>
    cases hq
    rw [show v = _ from hr] at ru
    obtain ⟨t, rfl⟩ := ru
    simp only [PyData.shown] at hz q
    exact PySem.P.repr_of_str ⟨.str _, H, J.tok _, ⟨_, rfl⟩, q⟩ (size7_le hz)
  | tup ds => obtain ⟨a, _, rfl, _⟩ := hr; exact ref ru
  | lst ds => obtain ⟨a, _, rfl, _⟩ := hr; exact ref ru
  | dK ds => obtain ⟨a, _, rfl, _⟩ := hr; exact ref ru
  | dT ds => cases hq
  | deck => cases hq
  | exc c d => cases hq
  | fK ds => cases hq
theorem c_repr2 (hG : X.A.guards = some []) (hu : X.A.units + 128 < cLine) (hs : (X.K.lookup sysModules).isSome = true) : CallD X dk l (.builtin "repr") (g1 reprD2) := callD1 (call_reprQ hG hu hs) fun I H s x v d Q w r e q => by
  unfold reprD2 at e
  cases z : x.toQ with
  | none => rw [z] at e; cases e
  | some p =>
    rw [z] at e
    by_cases h : (p.showable && decide (p.depth ≤ 64) && decide (p.shown.length ≤ size7)) = true
    · have e2 : some (D.str p.shown) = some d := by rw [← e]; exact (if_pos h).symm
      cases e2
      rw [Bool.and_eq_true, Bool.and_eq_true] at h
      exact ⟨I, dk, x, v, p, rfl, w.sub, r, z, h.1.1, of_decide_eq_true h.1.2, of_decide_eq_true h.2, q _ I H Ext.refl w rfl⟩
    · have e2 : none = some d := by rw [← e]; exact (if_neg h).symm
      cases e2
end
end PV

end

section
set_option maxRecDepth 100000
namespace PV
open PySem PySem.Spec PyProof.Rows L2
section
variable {X : Cx} {pins : List (Addr × Obj)} {σ : L2.St} {I0 H : Hp} {s : Shared} {dk : Addr}
theorem key_show {P : Program} {w : World} {h : Heap} {k : Key} {u : Value} (e : keyIs k u = true) (hs : (keyP k).showable = true) (hz : (keyP k).shown.length ≤ sizeLine) : ReprK P w [] h (keyP k).depth u (keyP k).shown := by
  rcases keyIs_shape e with ⟨i, t, rfl, rfl⟩ | ⟨x, t, rfl, rfl⟩
  · show ReprK P w [] h (PyData.int i).depth _ (PyData.int i).shown
    simp only [PyData.shown]
    exact .of_is (ReprIs.int t (by simpa [keyP, PyData.showable] using hs)) _ _ _
  · show ReprK P w [] h (PyData.str x).depth _ (PyData.str x).shown
    simp only [PyData.shown]
    exact .of_is (ReprIs.str x t (by simpa only [keyP, PyData.shown] using hz)) _ _ _
theorem most_app {h : Heap} {d : PyData} {ds : List PyData} {b1 b2 : List Addr} (hb1 : ReadAtMost h d.depth b1) (hb2 : ReadAtMost h (PyData.depthAll ds) b2) : ReadAtMost h (PyData.depthAll (d :: ds)) (b1 ++ b2) := fun b hm => by
  simp only [PyData.depthAll]
  rcases List.mem_append.mp hm with hm | hm
  · obtain ⟨d', as', r', hd'⟩ := hb1 b hm
    exact ⟨d', as', r', Nat.le_trans hd' (Nat.le_max_left _ _)⟩
  · obtain ⟨d', as', r', hd'⟩ := hb2 b hm
    exact ⟨d', as', r', Nat.le_trans hd' (Nat.le_max_right _ _)⟩
theorem repr_app {P : Program} {w : World} {h : Heap} {d : PyData} {ds : List PyData} {b1 b2 : List Addr} {u : Value} {us : List Value} (k1 : ReprK P w b1 h d.depth u d.shown) (k2 : ReprAllK P w b2 h (PyData.depthAll ds) us (PyData.shownAll ds)) :
    ReprAllK P w (b1 ++ b2) h (PyData.depthAll (d :: ds)) (u :: us) (PyData.shownAll (d :: ds)) := by
  simp only [PyData.depthAll, PyData.shownAll]
  exact .cons ((k1.more fun b hb => List.mem_append_left _ hb).level_le (Nat.le_max_left _ _)) (k2.more_le (fun b hb => List.mem_append_right _ hb) (Nat.le_max_right _ _))
mutual
/-- what repr makes of it, with the addresses that it walks -/
theorem show_of (J : Inv X pins σ H s) (e : Sm I0 H) : ∀ (d : D) (v : V) (u : Value) (p : PyData), Rep X.K I0 dk d v → d.toQ = some p → RelV v u → p.showable = true → p.shown.length ≤ sizeLine →
    ∃ bs, ReadAtMost s.heap p.depth bs ∧ ReprK X.prog X.w bs s.heap p.depth u p.shown
  | .non, v, u, p, h, q, r, hs, hz => by
    cases q; rw [show v = _ from h] at r; rw [show u = Value.none from r]; exact ⟨[], (fun _ h => nomatch h), by simp only [PyData.shown]; exact .of_is ReprIs.none _ _ _⟩
  | .bl b, v, u, p, h, q, r, hs, hz => by
    cases q; rw [show v = _ from h] at r; rw [show u = Value.bool b from r]; exact ⟨[], (fun _ h => nomatch h), by simp only [PyData.shown]; exact .of_is (ReprIs.bool b) _ _ _⟩
  | .int b, v, u, p, h, q, r, hs, hz => by
    cases q; rw [show v = _ from h] at r; obtain ⟨t, rfl⟩ := r; exact ⟨[], (fun _ h => nomatch h), by simp only [PyData.shown]; exact .of_is (ReprIs.int t (by simpa [PyData.showable] using hs)) _ _ _⟩
  | .str b, v, u, p, h, q, r, hs, hz => by
    cases q; rw [show v = _ from h] at r; obtain ⟨t, rfl⟩ := r; exact ⟨[], (fun _ h => nomatch h), by simp only [PyData.shown]; exact .of_is (ReprIs.str b t (by simpa only [PyData.shown] using hz)) _ _ _⟩
  | .tup ds, v, u, p, h, q, r, hs, hz => by
    obtain ⟨a, vs, rfl, h1, h2⟩ := h
    obtain rfl : u = Value.ref a := r
    simp only [D.toQ] at q
    cases z : D.toQs ds with
    | none => rw [z] at q; cases q
    | some ps =>
      rw [z] at q; cases q
      obtain ⟨its, rv, ⟨o, ho, hc, n, hd⟩, _⟩ := J.tuple (.inl (.inl (e _ _ h1)))
      obtain ⟨as, ra, _⟩ := readsAll_of J e ds vs its ps h2 z rv
      have hz' : (tupleText (PyData.shownAll ps)).length ≤ sizeLine := by simpa only [PyData.shown] using hz
      obtain ⟨bs, hb, hk⟩ := showAll_of J e ds vs its ps h2 z rv (by simpa [PyData.showable] using hs) fun t ht => Nat.le_trans (tupleText_mem_le ht) hz'
      have rr : Reads s.heap (.ref a) (.tuple ps) _ := .tuple ho hc hd (by simpa using ra)
      have hna : a ∉ bs := not_mem_of_deeper rr (by simp only [PyData.depth]; omega) hb
      refine ⟨a :: bs, ReadAtMost.cons rr (by simp only [PyData.depth]; omega) hb, ?_⟩
      simp only [PyData.depth, PyData.shown]
      exact ReprK.tuple ho hc hd hna (by simpa using hk)
  | .lst ds, v, u, p, h, q, r, hs, hz => by
    obtain ⟨a, vs, rfl, h1, h2⟩ := h
    obtain rfl : u = Value.ref a := r
    simp only [D.toQ] at q
    cases z : D.toQs ds with
    | none => rw [z] at q; cases q
    | some ps =>
      rw [z] at q; cases q
      obtain ⟨its, rv, ⟨o, n, ho, hc, _, hd⟩, _⟩ := J.list (.inl (.inl (e _ _ h1)))
      obtain ⟨as, ra, _⟩ := readsAll_of J e ds vs its ps h2 z rv
      have hz' : (listText (PyData.shownAll ps)).length ≤ sizeLine := by simpa only [PyData.shown] using hz
      obtain ⟨bs, hb, hk⟩ := showAll_of J e ds vs its ps h2 z rv (by simpa [PyData.showable] using hs) fun t ht => Nat.le_trans (listText_mem_le ht) hz'
      have rr : Reads s.heap (.ref a) (.list ps) _ := .list ho hc hd (by simpa using ra)
      have hna : a ∉ bs := not_mem_of_deeper rr (by simp only [PyData.depth]; omega) hb
      refine ⟨a :: bs, ReadAtMost.cons rr (by simp only [PyData.depth]; omega) hb, ?_⟩
      simp only [PyData.depth, PyData.shown]
      cases its with
      | nil =>
        cases ra
        simp only [PyData.shownAll, listText_nil]
        exact ReprK.listEmpty ho hc hd
      | cons x l => exact ReprK.list ho hc hd hna (by simpa using hk.length_eq) (fun i y e => hk.item i y (by simpa using e))
  | .dK kvs, v, u, p, h, q, r, hs, hz => by
    obtain ⟨a, ws, rfl, h1, h2⟩ := h
    obtain rfl : u = Value.ref a := r
    simp only [D.toQ] at q
    cases z : D.toQk kvs with
    | none => rw [z] at q; cases q
    | some ps =>
      rw [z] at q; cases q
      obtain ⟨_, hsys, vs, kv, o, es, ep, ho, hx, hd, _, hp, _⟩ := L2.dk_of J.hok (e _ _ h1)
      obtain ⟨as, bs, ra, rb, _, _⟩ := readsK_of J e kvs ws vs es.toList ps h2 z kv hp
      have hz' : (dictText (PyData.shownKv ps)).length ≤ sizeLine := by simpa only [PyData.shown] using hz
      obtain ⟨hs1, hs2⟩ := PyData.showableKv_split ps (by simpa [PyData.showable] using hs)
      obtain ⟨b1, b2, hb1, k1, hb2, k2⟩ := showK_of J e kvs ws vs es.toList ps h2 z kv hp hs1 hs2 (fun t ht => let ⟨p, hp, hl⟩ := PyData.shownKv_key_le ps t ht; Nat.le_trans hl (Nat.le_trans (dictText_mem_le hp) hz')) (fun t ht => let ⟨p, hp, hl⟩ := PyData.shownKv_val_le ps t ht; Nat.le_trans hl (Nat.le_trans (dictText_mem_le hp) hz'))
      have rr : Reads s.heap (.ref a) (.dict ps) _ := .dict ho hx.1 hd ra rb
      have hb : ReadAtMost s.heap (PyData.depthKv ps) (b1 ++ b2) := (hb1.mono (PyData.depthAll_keys_le ps)).append (hb2.mono (PyData.depthAll_vals_le ps))
      have hna : a ∉ b1 ++ b2 := not_mem_of_deeper rr (by simp only [PyData.depth]; omega) hb
      refine ⟨a :: (b1 ++ b2), ReadAtMost.cons rr (by simp only [PyData.depth]; omega) hb, ?_⟩
      simp only [PyData.depth, PyData.shown, PyData.shownKv_eq]
      exact ReprK.dict ho hx.1 hd hsys hna (ReprEntriesK.of_two es.toList _ _
        (k1.more_le (fun b hb => List.mem_append_left _ hb) (PyData.depthAll_keys_le ps)) (k2.more_le (fun b hb => List.mem_append_right _ hb) (PyData.depthAll_vals_le ps)))
  | .dT _, _, _, _, _, q, _, _, _ => by cases q
  | .deck, _, _, _, _, q, _, _, _ => by cases q
  | .exc _ _, _, _, _, _, q, _, _, _ => by cases q
  | .fK _, _, _, _, _, q, _, _, _ => by cases q
theorem showAll_of (J : Inv X pins σ H s) (e : Sm I0 H) : ∀ (ds : List D) (vs : List V) (us : List Value) (ps : List PyData), RepL X.K I0 dk ds vs → D.toQs ds = some ps → Vals vs us → PyData.showableAll ps = true → (∀ t ∈ PyData.shownAll ps, t.length ≤ sizeLine) →
    ∃ bs, ReadAtMost s.heap (PyData.depthAll ps) bs ∧ ReprAllK X.prog X.w bs s.heap (PyData.depthAll ps) us (PyData.shownAll ps)
  | [], vs, us, ps, h, q, r, hs, hz => by
    cases q
    rw [show vs = _ from h] at r
    cases r
    exact ⟨[], (fun _ h => nomatch h), by simp only [PyData.shownAll]; exact .nil⟩
  | d :: ds, vs, us, ps, h, q, r, hs, hz => by
    obtain ⟨v, rs, rfl, h1, h2⟩ := h
    cases r with
    | @cons _ u _ ur r1 r2 =>
    simp only [D.toQs] at q
    cases z : D.toQ d with
    | none => rw [z] at q; cases q
    | some p =>
      cases z2 : D.toQs ds with
      | none => rw [z, z2] at q; cases q
      | some ps2 =>
        rw [z, z2] at q; cases q
        have hs' : p.showable = true ∧ PyData.showableAll ps2 = true := by simpa [PyData.showableAll] using hs
        obtain ⟨b1, hb1, k1⟩ := show_of J e d v u p h1 z r1 hs'.1 (hz _ (by simp only [PyData.shownAll]; exact List.mem_cons_self ..))
        obtain ⟨b2, hb2, k2⟩ := showAll_of J e ds rs ur ps2 h2 z2 r2 hs'.2 fun t ht => hz t (by simp only [PyData.shownAll]; exact List.mem_cons_of_mem _ ht)
        refine ⟨b1 ++ b2, fun b hm => ?_, ?_⟩
        · simp only [PyData.depthAll]
          rcases List.mem_append.mp hm with hm | hm
          · obtain ⟨d', as', r', hd'⟩ := hb1 b hm
            exact ⟨d', as', r', Nat.le_trans hd' (Nat.le_max_left _ _)⟩
          · obtain ⟨d', as', r', hd'⟩ := hb2 b hm
            exact ⟨d', as', r', Nat.le_trans hd' (Nat.le_max_right _ _)⟩
        · simp only [PyData.depthAll, PyData.shownAll]
          exact .cons ((k1.more fun b hb => List.mem_append_left _ hb).level_le (Nat.le_max_left _ _)) (k2.more_le (fun b hb => List.mem_append_right _ hb) (Nat.le_max_right _ _))
theorem showK_of (J : Inv X pins σ H s) (e : Sm I0 H) : ∀ (kvs : List (Key × D)) (ws : List (Key × V)) (vs : List (Key × Value)) (es : List DictEntry) (ps : List (PyData × PyData)), RepK X.K I0 dk kvs ws → D.toQk kvs = some ps → KV ws vs → Pairs (mixKind X.prog X.w) es vs →
    PyData.showableAll (ps.map (·.1)) = true → PyData.showableAll (ps.map (·.2)) = true → (∀ t ∈ PyData.shownAll (ps.map (·.1)), t.length ≤ sizeLine) → (∀ t ∈ PyData.shownAll (ps.map (·.2)), t.length ≤ sizeLine) →
    ∃ b1 b2, ReadAtMost s.heap (PyData.depthAll (ps.map (·.1))) b1 ∧ ReprAllK X.prog X.w b1 s.heap (PyData.depthAll (ps.map (·.1))) (es.map (·.key)) (PyData.shownAll (ps.map (·.1))) ∧
      ReadAtMost s.heap (PyData.depthAll (ps.map (·.2))) b2 ∧ ReprAllK X.prog X.w b2 s.heap (PyData.depthAll (ps.map (·.2))) (es.map (·.val)) (PyData.shownAll (ps.map (·.2)))
  | [], ws, vs, es, ps, h, q, kv, hp, _, _, _, _ => by
    cases q
    rw [show ws = _ from h] at kv
    cases kv
    cases hp
    exact ⟨[], [], (fun _ h => nomatch h), by simp only [List.map_nil, PyData.shownAll]; exact .nil, (fun _ h => nomatch h), by simp only [List.map_nil, PyData.shownAll]; exact .nil⟩
  | (k, d) :: kvs, ws, vs, es, ps, h, q, kv, hp, s1, s2, z1, z2 => by
    obtain ⟨v, rs, rfl, h1, h2⟩ := h
    cases kv with
    | @cons _ w2 _ wr r1 r2 =>
    cases hp with
    | @cons en _ es2 _ p1 p2 p3 =>
    simp only [D.toQk] at q
    cases z : D.toQ d with
    | none => rw [z] at q; cases q
    | some p =>
      cases z3 : D.toQk kvs with
      | none => rw [z, z3] at q; cases q
      | some ps2 =>
        rw [z, z3] at q; cases q
        obtain ⟨r1a, r1b⟩ := r1
        have pk : keyIs k en.key = true := by
          have y : keyIs w2.1 en.key = true := p1
          rw [← r1a] at y
          exact y
        simp only [List.map_cons, PyData.showableAll, Bool.and_eq_true] at s1 s2
        simp only [List.map_cons, PyData.shownAll] at z1 z2
        obtain ⟨b1, hb1, k1⟩ := show_of J e d v en.val p h1 z (by rw [p2]; exact r1b) s2.1 (z2 _ (List.mem_cons_self ..))
        obtain ⟨c1, c2, hc1, m1, hc2, m2⟩ := showK_of J e kvs rs wr es2 ps2 h2 z3 r2 p3 s1.2 s2.2 (fun t ht => z1 t (List.mem_cons_of_mem _ ht)) fun t ht => z2 t (List.mem_cons_of_mem _ ht)
        have kk := key_show (P := X.prog) (w := X.w) (h := s.heap) pk s1.1 (z1 _ (List.mem_cons_self ..))
        exact ⟨[] ++ c1, b1 ++ c2, most_app (fun _ h => nomatch h) hc1, repr_app kk m1, most_app hb1 hc2, repr_app k1 m2⟩
end
/-- repr, called -/
theorem shows_top (J : Inv X pins σ H s) (e : Sm I0 H) {d : D} {a : Addr} {p : PyData} (h : Rep X.K I0 dk d (.ref a)) (q : d.toQ = some p) (hs : p.showable = true) (hz : p.shown.length ≤ sizeLine) : ∃ T idr, ShowsBy X.prog X.w s.heap a p T idr := by
  cases d with
  | tup ds =>
    obtain ⟨a', vs, ea, h1, h2⟩ := h
    cases ea
    simp only [D.toQ] at q
    cases z : D.toQs ds with
    | none => rw [z] at q; cases q
    | some ps =>
      rw [z] at q; cases q
      obtain ⟨its, rv, ⟨o, ho, hc, n, hd⟩, _⟩ := J.tuple (.inl (.inl (e _ _ h1)))
      obtain ⟨as, ra, _⟩ := readsAll_of J e ds vs its ps h2 z rv
      have hz' : (tupleText (PyData.shownAll ps)).length ≤ sizeLine := by simpa only [PyData.shown] using hz
      obtain ⟨bs, hb, hk⟩ := showAll_of J e ds vs its ps h2 z rv (by simpa [PyData.showable] using hs) fun t ht => Nat.le_trans (tupleText_mem_le ht) hz'
      have rr : Reads s.heap (.ref a) (.tuple ps) _ := .tuple ho hc hd (by simpa using ra)
      have hna : a ∉ bs := not_mem_of_deeper rr (by simp only [PyData.depth]; omega) hb
      refine ⟨"tuple", "tuple.__repr__", F.slot_tuple_repr, F.slot_tuple_str, F.slot_tuple_format, fun s hk0 => ⟨o, hk0 _ _ ho, hc⟩, fun A E s Q hg hu hk0 hQ => ?_⟩
      simp only [PyData.depth] at hu
      simp only [PyData.shown] at hQ
      exact call_tuple_reprK ho hc hd hna (by simpa using hk) hg (fun b _ => Clear.nil b) hu hk0 hQ hz'
  | lst ds =>
    obtain ⟨a', vs, ea, h1, h2⟩ := h
    cases ea
    simp only [D.toQ] at q
    cases z : D.toQs ds with
    | none => rw [z] at q; cases q
    | some ps =>
      rw [z] at q; cases q
      obtain ⟨its, rv, ⟨o, n, ho, hc, _, hd⟩, _⟩ := J.list (.inl (.inl (e _ _ h1)))
      obtain ⟨as, ra, _⟩ := readsAll_of J e ds vs its ps h2 z rv
      have hz' : (listText (PyData.shownAll ps)).length ≤ sizeLine := by simpa only [PyData.shown] using hz
      obtain ⟨bs, hb, hk⟩ := showAll_of J e ds vs its ps h2 z rv (by simpa [PyData.showable] using hs) fun t ht => Nat.le_trans (listText_mem_le ht) hz'
      have rr : Reads s.heap (.ref a) (.list ps) _ := .list ho hc hd (by simpa using ra)
      have hna : a ∉ bs := not_mem_of_deeper rr (by simp only [PyData.depth]; omega) hb
      refine ⟨"list", "list.__repr__", F.slot_list_repr.toG, F.slot_list_str, F.slot_list_format, fun s hk0 => ⟨o, hk0 _ _ ho, hc⟩, fun A E s Q hg hu hk0 hQ => ?_⟩
      simp only [PyData.depth] at hu
      simp only [PyData.shown] at hQ
      cases its with
      | nil =>
        cases ra
        simp only [PyData.shownAll, listText_nil] at hQ
        exact call_list_repr_empty ⟨o, hk0 _ _ ho, hc⟩ (hk0 _ _ ho) hd (hQ s.heap _ _ fun _ _ e => e)
      | cons x l => exact call_list_reprK ho hc hd hna (by simpa using hk.length_eq) (fun i y e => hk.item i y (by simpa using e)) hg (fun b _ => Clear.nil b) hu hk0 hQ hz'
  | dK kvs =>
    obtain ⟨a', ws, ea, h1, h2⟩ := h
    cases ea
    simp only [D.toQ] at q
    cases z : D.toQk kvs with
    | none => rw [z] at q; cases q
    | some ps =>
      rw [z] at q; cases q
      obtain ⟨_, hsys, vs, kv, o, es, ep, ho, hx, hd, _, hp, _⟩ := L2.dk_of J.hok (e _ _ h1)
      obtain ⟨as, bs, ra, rb, _, _⟩ := readsK_of J e kvs ws vs es.toList ps h2 z kv hp
      have hz' : (dictText (PyData.shownKv ps)).length ≤ sizeLine := by simpa only [PyData.shown] using hz
      obtain ⟨hs1, hs2⟩ := PyData.showableKv_split ps (by simpa [PyData.showable] using hs)
      obtain ⟨b1, b2, hb1, k1, hb2, k2⟩ := showK_of J e kvs ws vs es.toList ps h2 z kv hp hs1 hs2 (fun t ht => let ⟨p, hp, hl⟩ := PyData.shownKv_key_le ps t ht; Nat.le_trans hl (Nat.le_trans (dictText_mem_le hp) hz')) (fun t ht => let ⟨p, hp, hl⟩ := PyData.shownKv_val_le ps t ht; Nat.le_trans hl (Nat.le_trans (dictText_mem_le hp) hz'))
      have rr : Reads s.heap (.ref a) (.dict ps) _ := .dict ho hx.1 hd ra rb
      have hb : ReadAtMost s.heap (PyData.depthKv ps) (b1 ++ b2) := (hb1.mono (PyData.depthAll_keys_le ps)).append (hb2.mono (PyData.depthAll_vals_le ps))
      have hna : a ∉ b1 ++ b2 := not_mem_of_deeper rr (by simp only [PyData.depth]; omega) hb
      refine ⟨"dict", "dict.__repr__", F.slot_dict_repr, F.slot_dict_str, F.slot_dict_format, fun s hk0 => ⟨o, hk0 _ _ ho, hx.1⟩, fun A E s Q hg hu hk0 hQ => ?_⟩
      simp only [PyData.depth] at hu
      simp only [PyData.shown, PyData.shownKv_eq] at hQ
      exact call_dict_reprK ho hx.1 hd hsys hna (ReprEntriesK.of_two es.toList _ _
        (k1.more_le (fun b hb => List.mem_append_left _ hb) (PyData.depthAll_keys_le ps)) (k2.more_le (fun b hb => List.mem_append_right _ hb) (PyData.depthAll_vals_le ps))) hg (fun b _ => Clear.nil b) hu hk0 hQ (by rw [← PyData.shownKv_eq]; exact hz')
  | dT ds => cases q
  | deck => cases q
  | exc c d => cases q
  | fK ds => cases q
  | _ => first | cases (show V.ref a = _ from h)
end
section
variable {X : Cx} {dk l : Addr} {W : WX}
theorem call_repr3 (hG : X.A.guards = some []) (hu : X.A.units + 128 < cLine) : CallR X (.builtin "repr") (fun xs H Q => ∃ (I0 : Hp) (dk : Addr) (d : D) (v : V) (p : PyData), xs = [v] ∧ Sm I0 H ∧ Rep X.K I0 dk d v ∧ d.toQ = some p ∧ p.showable = true ∧ p.depth ≤ 64 ∧ p.shown.length ≤ size7 ∧ Q (.str p.shown) H) := by
  intro pins z σ H xs us Q J r h
  obtain ⟨I0, dk, d, v, p, rfl, e, hr, hq, hsh, hdep, hz, q⟩ := h
  obtain ⟨u, rfl, ru⟩ := vals1 r
  obtain ⟨as, rd, hm⟩ := reads_of J e d v u p hr hq ru
  have ref : ∀ {a : Addr}, u = .ref a → wpAny (model X.prog X.w) X.A (call (.builtin "repr") [u]) (EP X pins σ Q) X.xe z := fun {a} eu => by
    subst eu
    have hr' : Rep X.K I0 dk d (.ref a) := by
      cases v with
      | ref b => rw [← Value.ref.inj (show Value.ref a = Value.ref b from ru)] at hr; exact hr
      | non => exact absurd (show Value.ref a = Value.none from ru) (by simp)
      | bl b => exact absurd (show Value.ref a = Value.bool b from ru) (by simp)
      | ty n => exact absurd (show Value.ref a = Value.type n from ru) (by simp)
      | _ => obtain ⟨t, et⟩ := (show ∃ t, Value.ref a = _ from ru); cases et
    obtain ⟨T, idr, S⟩ := shows_top J e hr' hq hsh (size7_le hz)
    exact call_repr_slot (by omega) (S.typeIs z fun _ _ e => e) S.slotRepr (S.call X.A.in1 X.xe z _ hG (by show X.A.units + 1 + p.depth < cLine; omega) (fun _ _ e => e) fun h' u tk hk' => ⟨_, _, rfl, ⟨.str _, H, J.kept hk', ⟨u, rfl⟩, q⟩⟩)
  cases d with
  | non =>
    cases hq
    rw [show v = _ from hr] at ru
    rw [show u = Value.none from ru]
    exact PySem.P.repr_of_none ⟨.str _, H, J.tok _, ⟨_, rfl⟩, by simpa only [PyData.shown] using q⟩
  | bl b =>
    cases hq
    rw [show v = _ from hr] at ru
    rw [show u = Value.bool b from ru]
    exact PySem.P.repr_of_bool ⟨.str _, H, J.tok _, ⟨_, rfl⟩, by simpa only [PyData.shown] using q⟩
  | int i =>
    cases hq
    rw [show v = _ from hr] at ru
    obtain ⟨t, rfl⟩ := ru
    simp only [PyData.showable] at hsh
    exact PySem.P.repr_of_int (of_decide_eq_true hsh) ⟨.str _, H, J.tok _, ⟨_, rfl⟩, by simpa only [PyData.shown] using q⟩
  | str y =>
    cases hq
    rw [show v = _ from hr] at ru
    obtain ⟨t, rfl⟩ := ru
    simp only [PyData.shown] at hz q
    exact PySem.P.repr_of_str ⟨.str _, H, J.tok _, ⟨_, rfl⟩, q⟩ (size7_le hz)
  | tup ds => obtain ⟨a, _, rfl, _⟩ := hr; exact ref ru
  | lst ds => obtain ⟨a, _, rfl, _⟩ := hr; exact ref ru
  | dK ds => obtain ⟨a, _, rfl, _⟩ := hr; exact ref ru
  | dT ds => cases hq
  | deck => cases hq
  | exc c d => cases hq
  | fK ds => cases hq
theorem c_repr3 (hG : X.A.guards = some []) (hu : X.A.units + 128 < cLine) : CallD X dk l (.builtin "repr") (g1 reprD2) := callD1 (call_repr3 hG hu) fun I H s x v d Q w r e q => by
  unfold reprD2 at e
  cases z : x.toQ with
  | none => rw [z] at e; cases e
  | some p =>
    rw [z] at e
    by_cases h : (p.showable && decide (p.depth ≤ 64) && decide (p.shown.length ≤ size7)) = true
    · have e2 : some (D.str p.shown) = some d := by rw [← e]; exact (if_pos h).symm
      cases e2
      rw [Bool.and_eq_true, Bool.and_eq_true] at h
      exact ⟨I, dk, x, v, p, rfl, w.sub, r, z, h.1.1, of_decide_eq_true h.1.2, of_decide_eq_true h.2, q _ I H Ext.refl w rfl⟩
    · have e2 : none = some d := by rw [← e]; exact (if_neg h).symm
      cases e2
end
end PV

end

section
set_option maxRecDepth 100000
namespace PV
open PySem PySem.Spec PyProof.Rows L2
/-! ### == [], != [], == (), != (), whatever the items are -/
def eqN : D → D → Option D
  | .lst ds, .lst [] => some (.bl ds.isEmpty)
  | .tup ds, .tup [] => some (.bl ds.isEmpty)
  | _, _ => none
def neN : D → D → Option D
  | .lst ds, .lst [] => some (.bl (!ds.isEmpty))
  | .tup ds, .tup [] => some (.bl (!ds.isEmpty))
  | _, _ => none
def rNil (K : PySem.W.Frag) (g : Bool → Bool) : R2 := fun x y H Q => ∃ (a b : Addr) (xs : List V), x = .ref a ∧ y = .ref b ∧ ((SqL K H a xs ∧ SqL K H b []) ∨ (SqT K H a xs ∧ SqT K H b [])) ∧ Q (.bl (g xs.isEmpty)) H
section
variable {X : Cx} {dk l : Addr}
theorem vals_size {xs : List V} {its : List Value} (r : Vals xs its) : its.toArray.size = xs.length := by
  rw [List.size_toArray, ← r.length]
theorem vals_nil {its : List Value} (r : Vals [] its) : its = [] := by cases r; rfl
theorem op_eqN (hu : X.A.units + 64 < cLine) : OpR X (compareOp .Eq) (rNil X.K id) := by
  intro pins s σ H x y v u Q J rx ry h
  obtain ⟨a, b, xs, rfl, rfl, h, q⟩ := h
  obtain rfl : v = Value.ref a := rx
  obtain rfl : u = Value.ref b := ry
  have hu0 : X.A.units < cLine := by omega
  rcases h with ⟨h1, h2⟩ | ⟨h1, h2⟩
  · obtain ⟨i1, r1, p1, _⟩ := J.list h1
    obtain ⟨i2, r2, p2, _⟩ := J.list h2
    obtain rfl := vals_nil r2
    have l1 := p1.isList
    have l2 := p2.isList
    cases xs with
    | nil =>
      obtain rfl := vals_nil r1
      exact SeqAt.eq_listAt (e := fun _ => true) l1 l2 rfl hu0 (fun j z => absurd z (by simp)) ⟨.bl true, H, J, rfl, q⟩
    | cons y ys => exact SeqAt.eq_list_lengthsAt l1 l2 (by rw [vals_size r1]; simp) hu0 ⟨.bl false, H, J, rfl, q⟩
  · obtain ⟨i1, r1, p1, _⟩ := J.tuple h1
    obtain ⟨i2, r2, p2, _⟩ := J.tuple h2
    obtain rfl := vals_nil r2
    refine SeqAt.eq_tupleAt (e := fun _ => true) p1 p2 hu0 (fun j _ z => absurd z (by simp)) ⟨.bl xs.isEmpty, H, J, ?_, q⟩
    show Value.bool _ = Value.bool _
    cases xs with
    | nil => obtain rfl := vals_nil r1; rfl
    | cons y ys => rw [vals_size r1]; simp
theorem op_neN (hu : X.A.units + 64 < cLine) : OpR X (compareOp .NotEq) (rNil X.K not) := by
  intro pins s σ H x y v u Q J rx ry h
  obtain ⟨a, b, xs, rfl, rfl, h, q⟩ := h
  obtain rfl : v = Value.ref a := rx
  obtain rfl : u = Value.ref b := ry
  have hu0 : X.A.units < cLine := by omega
  rcases h with ⟨h1, h2⟩ | ⟨h1, h2⟩
  · obtain ⟨i1, r1, p1, _⟩ := J.list h1
    obtain ⟨i2, r2, p2, _⟩ := J.list h2
    obtain rfl := vals_nil r2
    have l1 := p1.isList
    have l2 := p2.isList
    cases xs with
    | nil =>
      obtain rfl := vals_nil r1
      exact SeqAt.RcNeAt.lists (e := fun _ => true) l1 l2 rfl hu0 (fun j z => absurd z (by simp)) _ _ _ _ ⟨.bl false, H, J, rfl, q⟩
    | cons y ys => exact SeqAt.RcNeAt.lists_lengths l1 l2 (by rw [vals_size r1]; simp) hu0 _ _ _ _ ⟨.bl true, H, J, rfl, q⟩
  · obtain ⟨i1, r1, p1, _⟩ := J.tuple h1
    obtain ⟨i2, r2, p2, _⟩ := J.tuple h2
    obtain rfl := vals_nil r2
    refine SeqAt.RcNeAt.tuples (e := fun _ => true) p1 p2 hu0 (fun j _ z => absurd z (by simp)) _ _ _ _ ⟨.bl (!xs.isEmpty), H, J, ?_, q⟩
    show Value.bool _ = Value.bool _
    cases xs with
    | nil => obtain rfl := vals_nil r1; rfl
    | cons y ys => rw [vals_size r1]; simp
theorem repL_nil {K : PySem.W.Frag} {I : Hp} {ds : List D} {vs : List V} (r : RepL K I dk ds vs) : vs.isEmpty = ds.isEmpty := by
  have e := r.length
  cases ds <;> cases vs <;> simp at e ⊢
theorem nil_rd {g : Bool → Bool} {f : D → D → Option D} (h1 : ∀ ds, f (.lst ds) (.lst []) = some (.bl (g ds.isEmpty))) (h2 : ∀ ds, f (.tup ds) (.tup []) = some (.bl (g ds.isEmpty)))
    (h3 : ∀ x y d, f x y = some d → (∃ ds, x = .lst ds ∧ y = .lst []) ∨ ∃ ds, x = .tup ds ∧ y = .tup []) : ∀ I H s x y v u d Q, Wo dk l I H s → Rep X.K I dk x v → Rep X.K I dk y u → f x y = some d →
    (∀ w I' H', Ext dk l I H I' H' → Wo dk l I' H' s → Rep X.K I' dk d w → Q w H') → rNil X.K g v u H Q := fun I H s x y v u d Q w rx ry e q => by
  rcases h3 x y d e with ⟨ds, rfl, rfl⟩ | ⟨ds, rfl, rfl⟩
  · rw [h1] at e
    cases e
    obtain ⟨a, vs, rfl, i1, r1⟩ := rx
    obtain ⟨b, ws, rfl, i2, r2⟩ := ry
    rw [show ws = _ from r2] at i2
    exact ⟨a, b, vs, rfl, rfl, .inl ⟨.inl (.inl (w.sub _ _ i1)), .inl (.inl (w.sub _ _ i2))⟩, q _ I H Ext.refl w (by rw [repL_nil r1]; rfl)⟩
  · rw [h2] at e
    cases e
    obtain ⟨a, vs, rfl, i1, r1⟩ := rx
    obtain ⟨b, ws, rfl, i2, r2⟩ := ry
    rw [show ws = _ from r2] at i2
    exact ⟨a, b, vs, rfl, rfl, .inr ⟨.inl (.inl (w.sub _ _ i1)), .inl (.inl (w.sub _ _ i2))⟩, q _ I H Ext.refl w (by rw [repL_nil r1]; rfl)⟩
theorem o_eqN (hu : X.A.units + 64 < cLine) : OpD X dk l (compareOp .Eq) eqN := ⟨_, op_eqN hu, nil_rd (fun _ => rfl) (fun _ => rfl) fun x y d e => by
  unfold eqN at e
  split at e
  · exact .inl ⟨_, rfl, rfl⟩
  · exact .inr ⟨_, rfl, rfl⟩
  · cases e⟩
theorem o_neN (hu : X.A.units + 64 < cLine) : OpD X dk l (compareOp .NotEq) neN := ⟨_, op_neN hu, nil_rd (fun _ => rfl) (fun _ => rfl) fun x y d e => by
  unfold neN at e
  split at e
  · exact .inl ⟨_, rfl, rfl⟩
  · exact .inr ⟨_, rfl, rfl⟩
  · cases e⟩
end
end PV

end

section
set_option maxRecDepth 100000
namespace PV
open PySem PySem.Spec PyProof.Rows L2
/-! ### a new list of one's own by an if-expression; a copy of one's own list -/
section
variable {X : Cx} {dk l : Addr} {W : WX} {pos : Pos}
def eIfO (t : En → M Bool) (a b : En → M OD) : En → M OD := fun env => andThen (t env) fun c => if c = true then a env else b env
theorem r_ifO {c a b : Expr} {m : En → M Bool} {ma mb : En → M OD} (hc : PT X c (liftT X.K dk l W m)) (ha : PE X a (liftO X.K dk l W ma)) (hb : PE X b (liftO X.K dk l W mb)) : PE X (.IfExp c a b pos) (liftO X.K dk l W (eIfO m ma mb)) := PE_imp (pe_ifExp hc ha hb) fun σ H Q ⟨I, env, s, e, w, q⟩ => by
  refine ⟨I, env, s, e, w, q.bind.mono (fun c s1 q I1 H1 x1 w1 => ?_) fun _ _ _ h => h⟩
  cases c with
  | true => exact ⟨I1, env, s1, e.ext x1, w1, q.mono (fun b s2 q p I2 H2 x2 w2 hp ho n1 n2 n3 => q p I2 H2 (x1.trans x2 w2) w2 (own_back (I2 := I2) (H2 := H2) (s1 := s1) x1 hp n1 n2) ho n1 n2 n3) fun _ _ _ h => h.shift x1⟩
  | false => exact ⟨I1, env, s1, e.ext x1, w1, q.mono (fun b s2 q p I2 H2 x2 w2 hp ho n1 n2 n3 => q p I2 H2 (x1.trans x2 w2) w2 (own_back (I2 := I2) (H2 := H2) (s1 := s1) x1 hp n1 n2) ho n1 n2 n3) fun _ _ _ h => h.shift x1⟩
def eOwnList (i : Nat) : En → M OD := fun env => andThen (opt (ownL env i)) fun ds => ret (.lst ds)
theorem r_ownList {x y : Str} {p p2 : Pos} (i : Nat) (hg : Gl X x) (hm : X.mg x = none) (hv : bootBuiltins x = some (.type "list")) (h : PE X (.Name y p2) (tVar i)) (hn : x ≠ "__name__" := by decide) (hdb : (x == ("__debug__" : Str)) = false := by decide)
    (he : starEach [.Name y p2] X.env = (false, eval (.Name y p2) X.env) :: starEach [] X.env := by rfl) (hpl : (backTo pos (starEach [] X.env)).any (·.1) = false := by rfl) :
    PE X (.Call (.Name x p) [.Name y p2] [] pos) (liftO X.K dk l W (eOwnList i)) := PE_imp (pe_callTy call_list_of hg hm hv (pa_cons h pa_nil he) hn hdb he hpl) fun σ H Q ⟨I, env, s, e, w, q⟩ => by
  obtain ⟨ds, hd, q⟩ := q.bind.opt
  have hd := ownL_eq hd
  obtain ⟨p, h1, ⟨vs, h2, h3⟩, _⟩ := e.own i _ hd
  refine ⟨_, h1, p, vs, rfl, .inl (.of h2), own_new w h3 fun p' I' H' x' w' => q p' I' H' x' w'⟩
end
end PV

end

section
set_option maxRecDepth 100000
namespace PV
open PySem PySem.Spec PyProof.Rows L2
/-! ### f(e, .., k = v, ..): places and names mixed -/
def eCallX (F : List D → M D) (j : Nat) (π : List Nat) (a b : En → M (List D)) : En → M D := fun env => andThen (a env) fun xs => andThen (b env) fun ys => if xs.length = j then F (xs ++ permL π ys) else bad
theorem vals_append {xs ys : List V} {us ws : List Value} (h : Vals xs us) (h2 : Vals ys ws) : Vals (xs ++ ys) (us ++ ws) := by
  induction h with
  | nil => exact h2
  | cons r _ ih => exact .cons r ih
section
variable {X : Cx} {dk l : Addr} {W : WX} {k n j : Nat} {f : Addr} {fd : FuncData} {ps : List Str} {F : List D → M D} {x : Str} {p pos : Pos} {e : Expr} {es : List Expr}
theorem r_callX {N N2 : En → M (List D)} {kws : List Keyword} {ks : List Str} (j : Nat) (π : List Nat) (G : FnG X.prog X.w X.K X.mg X.base k f fd ps (spF X.K n F)) (hG : X.A.guards = some []) (hr : Room k X.A) (hg : Gl X x) (hm : X.mg x = some (.ref f)) (hk : PySem.W.keepIn X.K (.ref f) = true)
    (hb : ∀ us ws : List Value, us.length = j → (us ++ permL π ws).length = ps.length → bindArgs fd ⟨us, ks.zip ws⟩ = pure (ps.zip (us ++ permL π ws))) (hx : ∀ σ, PassesAt (L2.CX X.prog X.w) X σ (fun c d H => W c d σ H))
    (ha : PA X (e :: es) (liftA X.K dk l W N)) (hkw : PK X kws (liftA X.K dk l W N2)) (hall : (backToKw pos (keywordEach kws X.env)).all (·.1.isSome) = true := by rfl) (hks : (backToKw pos (keywordEach kws X.env)).filterMap (·.1) = ks := by rfl) (hdb : (x == ("__debug__" : Str)) = false := by decide)
    (he : starEach (e :: es) X.env = (false, eval e X.env) :: starEach es X.env := by rfl)
    (hpl : ((backTo pos (starEach (e :: es) X.env)).any (·.1) || (backToKw pos (keywordEach kws X.env)).any (·.1.isNone)) = false := by rfl) :
    PE X (.Call (.Name x p) (e :: es) kws pos) (lift X.K dk l W (eCallX (fun ds => if ds.length = n then F ds else bad) j π N N2)) := by
  refine ⟨fun pins z σ H Q J h => ?_⟩
  obtain ⟨I, env, s, k1, w1, q⟩ := h
  refine wpAny_Call_Name_kw (ld_glob J hg hm ?_ hdb)
  have rd : liftA X.K dk l W N σ H (fun vs H1 => liftA X.K dk l W N2 σ H1 (fun zs H2 => vs.length = j ∧ spF X.K n F (vs ++ permL π zs) H2 Q (fun c d H => W c d σ H))) := by
    refine ⟨I, env, s, k1, w1, q.bind.mono (fun ds s1 q vs I1 H1 x1 w2 r1 => ?_) fun _ _ _ h => h⟩
    refine ⟨I1, env, s1, k1.ext x1, w2, q.bind.mono (fun es s2 q zs I2 H2 x2 w3 r2 => ?_) fun _ _ _ h => h.shift x1⟩
    by_cases hj : ds.length = j
    · simp only [hj, if_true] at q
      have r1' : RepL X.K I2 dk ds vs := RepL.mono x2.grow ds vs r1
      have x12 := x1.trans x2 w3
      by_cases hl : (ds ++ permL π es).length = n
      · simp only [hl, if_true] at q
        exact ⟨by rw [← r1.length]; exact hj, spF_of w3 (RepL.append r1' (permL_rep r2)) hl (q.mono (fun d s3 h v I3 H3 x3 w4 r3 => h v I3 H3 (x12.trans x3 w4) w4 r3) fun _ _ _ h => h.shift x12)⟩
      · simp only [hl, if_false] at q
        exact q.elim
    · simp only [hj, if_false] at q
      exact q.elim
  refine PySem.W.callWith_KW (h₀ := X.base) J.ok.mod.kin hk hall (thn (ha.run pos pins z σ H _ J rd) fun us z1 ⟨vs, H1, J1, r, y⟩ => ?_) hpl he
  refine thn (hkw.run pos pins z1 σ H1 _ J1 y) fun ws z2 ⟨zs, H2, J2, rz, hj, y2⟩ => ⟨J2.kIn, ?_⟩
  have r2 : Vals (vs ++ permL π zs) (us ++ permL π ws) := vals_append r (permL_vals (π := π) rz)
  have hl : (us ++ permL π ws).length = ps.length := by rw [← r2.length]; exact G.len _ _ _ _ y2
  rw [hks]
  show wpAny _ _ (call (.ref f) us (ks.zip ws)) _ _ _
  refine wpAny_call (codeAny_mono (run_def G hG hr (.of_eq (hb us ws (by rw [← r.length]; exact hj) hl)) (hx σ) J2 r2 y2) fun rr z3 t => ?_)
  cases rr with
  | error e => exact t
  | ok fl =>
    cases fl with
    | ret u => exact t
    | next => exact t.elim
    | brk => exact t.elim
    | cont => exact t.elim
end
theorem bindsX {K : PySem.W.Frag} {x qual : Str} {st : Stmt} {f : Addr} {fd : FuncData} {ps : List Str} (F : Fun K x qual st f fd) (ks : List Str) (j : Nat) (π : List Nat)
    (h : ∀ (kV doc pm : Value) (an : Option Addr) (cdv ct : Value) (us ws : List Value), us.length = j → (us ++ permL π ws).length = ps.length → bindArgs (PySem.W.fnOf x qual (defArgs st) (defBody st) (defScope st) .none kV doc pm an cdv ct) ⟨us, ks.zip ws⟩ = pure (ps.zip (us ++ permL π ws))) :
    ∀ us ws : List Value, us.length = j → (us ++ permL π ws).length = ps.length → bindArgs fd ⟨us, ks.zip ws⟩ = pure (ps.zip (us ++ permL π ws)) := by
  obtain ⟨oc, od, kV, doc, pm, an, cdv, ct, osl, rfl, lk, hcd⟩ := F.ex
  exact h kV doc pm an cdv ct
end PV

end

section
set_option maxRecDepth 100000
namespace PV
open PySem PySem.Spec PyProof.Rows L2
/-! ### t >= u of tuples of whole numbers -/
theorem rcGe_int (A : Around) (s : Shared) (a : Int) (t : Tok) (c : Int) (u : Tok) (prog : Program) (w : World) (E : Value → Shared → Prop) (Q : Value → Shared → Prop) (h : Q (.bool (decide (a ≥ c))) s) :
    wpAny (model prog w) A (richCompare .GtE (.int a t) (.int c u)) Q E s :=
  (PyProof.Rows.ge_int h : wpAny (model prog w) A (compareOp .GtE (.int a t) (.int c u)) Q E s)
section
open PySem.SeqAt
open PySem.AutoSeq1 (wpAny_loadPart')
open PySem.MeetsSeq PySem.MeetsSeq2 PySem.MeetsSeq3
theorem tuple_ge_ints (l b : Addr) (items items2 : Array Value) (n n2 : Nat) (dd dd2 : Option Addr) (sl sl2 : Array (Option Value)) (ns ms : List Int) (hi : IntsAre items.toList ns) (hj : IntsAre items2.toList ms) :
    Meets (Builtin.«tuple.__ge__» ⟨[.ref l, .ref b], []⟩)
      (fun _ R s => s.heap.get? l = some { cls := .type "tuple", dict := dd, data := .seq items n, slots := sl } ∧ s.heap.get? b = some { cls := .type "tuple", dict := dd2, data := .seq items2 n2, slots := sl2 } ∧
        R (.ok (.ret (.bool (!HT.lexLt ns ms)))) s) :=
  .of_wp fun prog w A R s h => by
    obtain ⟨hp, g, d, tk, os⟩ := s; obtain ⟨hl, hb, h⟩ := h
    have f2 := AutoSeq1.sub_tuple_tuple
    have z1 : items.size = ns.length := by rw [← hi.length]; simp
    have z2 : items2.size = ms.length := by rw [← hj.length]; simp
    wp_walk using wpAny_loadPart' hl, wpAny_loadPart' hb, wpAny_forIn_list _ (fun rest b s' => b.1 = none ∧ s' = ⟨hp, g, d, tk, os⟩ ∧ ∃ (vs ws : List Value) (ns' ms' : List Int), rest = vs.zip ws ∧
      IntsAre vs ns' ∧ IntsAre ws ms' ∧ ns'.length + items2.size = ms'.length + items.size ∧ R (.ok (.ret (.bool (!HT.lexLt ns' ms')))) ⟨hp, g, d, tk, os⟩) _
    case turn =>
      rintro ⟨y, x⟩ rest b s' ⟨hb', rfl, vs, ws, ns', ms', hz, hvi, hwi, hlen, hR⟩
      cases hvi with
      | nil => rw [List.zip_nil_left] at hz; cases hz
      | cons a t hvi' =>
        cases hwi with
        | nil => rw [List.zip_nil_right] at hz; cases hz
        | cons c u hwi' =>
          rw [List.zip_cons_cons] at hz
          injection hz with hyx hrest
          injection hyx with hy hx
          subst hy hx
          rw [HT.lexLt_cons] at hR
          simp only [List.length_cons] at hlen
          obtain ⟨e, he, hiff⟩ := HT.eqAt_int A.in1 ⟨hp, g, d, tk, os⟩ a t c u
          refine wpAny_bind (he prog w _ _ ?_)
          cases e with
          | true =>
            rw [if_pos (hiff.mp rfl)] at hR
            wp_walk
            exact ⟨rfl, rfl, _, _, _, _, hrest, hvi', hwi', by omega, hR⟩
          | false =>
            have hne : ¬ a = c := fun q => absurd (hiff.mpr q) Bool.false_ne_true
            rw [if_neg hne] at hR
            have hde : (!decide (a < c)) = decide (a ≥ c) := by
              rw [← decide_not]
              by_cases hac : a ≥ c
              · rw [decide_eq_true hac, decide_eq_true (show ¬ a < c by omega)]
              · rw [decide_eq_false hac, decide_eq_false (show ¬ ¬ a < c by omega)]
            rw [hde] at hR
            have hri := rcGe_int A.in1 ⟨hp, g, d, tk, os⟩ a t c u prog w
            wp_walk using hri
            exact ⟨_, rfl, by simpa using hR⟩
    case fin =>
      rintro ⟨b1, b2⟩ s' ⟨hb', rfl, vs, ws, ns', ms', hz, hvi, hwi, hlen, hR⟩
      simp only at hb'
      subst hb'
      have hv : (!HT.lexLt ns' ms') = decide (items.size ≥ items2.size) := by
        cases hvi with
        | nil =>
          cases hwi with
          | nil =>
            simp only [List.length_nil] at hlen
            rw [HT.lexLt_nil_nil]
            exact (decide_eq_true (by omega)).symm
          | cons c u hw =>
            simp only [List.length_nil, List.length_cons] at hlen
            rw [HT.lexLt_nil_cons]
            exact (decide_eq_false (by omega)).symm
        | cons a t hv =>
          cases hwi with
          | nil =>
            simp only [List.length_nil, List.length_cons] at hlen
            rw [HT.lexLt_cons_nil]
            exact (decide_eq_true (by omega)).symm
          | cons c u hw =>
            rw [List.zip_cons_cons] at hz
            cases hz
      rw [hv] at hR
      wp_walk
      exact ⟨_, rfl, by simpa [Builtin.Tuple.tupleCompareSizes] using hR⟩
    case h =>
      exact ⟨rfl, rfl, items.toList, items2.toList, ns, ms, rfl, hi, hj, by omega, h⟩
end
theorem ge_tupInts {prog : Program} {w : World} {A : Around} {E : Value → Shared → Prop} {s : Shared} {l b : Addr} {items items2 : Array Value} {ns ms : List Int} {Q : Value → Shared → Prop} (hl : IsTup s.heap l items) (hb : IsTup s.heap b items2) (hi : IntsAre items.toList ns) (hj : IntsAre items2.toList ms)
    (hu : A.units < cLine) (h : Q (.bool (!HT.lexLt ns ms)) s) : wpAny (model prog w) A (compareOp .GtE (.ref l) (.ref b)) Q E s := by
  obtain ⟨⟨cls, dd, data, sl⟩, ho, hc, n, hd⟩ := id hl
  obtain ⟨⟨cls2, dd2, data2, sl2⟩, ho2, hc2, n2, hd2⟩ := id hb
  simp only at hc hd hc2 hd2
  subst hc hd hc2 hd2
  exact richCompare_meets_room (op := .GtE) ⟨_, ho, rfl⟩ ⟨_, ho2, rfl⟩ PySem.F.slot_tuple_ge PySem.F.entry_tuple_ge (PySem.F.args_tuple_ge_2 _ _) (tuple_ge_ints l b items items2 n n2 dd dd2 sl sl2 ns ms hi hj)
    ⟨ho, ho2, show Value.bool (!HT.lexLt ns ms) ≠ Value.notImplemented ∧ Q (.bool (!HT.lexLt ns ms)) s from ⟨(fun x => nomatch x), h⟩⟩ hu
def rGeT (K : PySem.W.Frag) : R2 := fun x y H Q => ∃ a b ns ms, x = .ref a ∧ y = .ref b ∧ SqT K H a (ns.map V.int) ∧ SqT K H b (ms.map V.int) ∧ Q (.bl (!HT.lexLt ns ms)) H
def geT : D → D → Option D
  | .int a, .int b => some (.bl (decide (b ≤ a)))
  | .tup a, .tup b => (ints? a).bind fun ns => (ints? b).map fun ms => .bl (!HT.lexLt ns ms)
  | _, _ => none
section
variable {X : Cx} {dk l : Addr}
theorem op_geT (hu : X.A.units < cLine) : OpR X (compareOp .GtE) (rGeT X.K) := by
  intro pins s σ H x y v u Q I rx ry h
  obtain ⟨a, b, ns, ms, rfl, rfl, ha, hb, q⟩ := h
  cases rx
  cases ry
  obtain ⟨its, r1, p1, _⟩ := I.tuple ha
  obtain ⟨its2, r2, p2, _⟩ := I.tuple hb
  have i1 : IntsAre its.toArray.toList ns := intsAre_of r1
  have i2 : IntsAre its2.toArray.toList ms := intsAre_of r2
  exact ge_tupInts p1 p2 i1 i2 hu ⟨.bl (!HT.lexLt ns ms), H, I, rfl, q⟩
theorem o_geT (hu : X.A.units < cLine) : OpD X dk l (compareOp .GtE) geT := by
  obtain ⟨r, hr, h⟩ := o_ge (X := X) (dk := dk) (l := l)
  refine ⟨_, OpR.or hr (op_geT hu), fun I H s x y v u d Q w rx ry e q => ?_⟩
  cases x with
  | int i =>
    cases y with
    | int j => exact .inl (h I H s (.int i) (.int j) v u d Q w rx ry e q)
    | _ => cases e
  | tup a =>
    cases y with
    | tup b =>
      simp only [geT] at e
      cases e1 : ints? a with
      | none => rw [e1] at e; cases e
      | some ns =>
        cases e2 : ints? b with
        | none => rw [e1, e2] at e; cases e
        | some ms =>
          rw [e1, e2] at e
          cases e
          obtain ⟨p, vs, rfl, h1, h2⟩ := rx
          obtain ⟨p', vs', rfl, h1', h2'⟩ := ry
          rw [ints?_eq e1] at h2
          rw [ints?_eq e2] at h2'
          have z1 := h2.ints_of
          have z2 := h2'.ints_of
          subst z1 z2
          exact .inr ⟨p, p', ns, ms, rfl, rfl, SqT.of (w.sub _ _ h1), SqT.of (w.sub _ _ h1'), q _ I H Ext.refl w rfl⟩
    | _ => cases e
  | _ => cases e
end
end PV

end

section
set_option maxRecDepth 100000
namespace PV
open PySem PySem.Spec PyProof.Rows L2
/-! ### (x, ..) * 0 -/
theorem tuple_mul0 (l : Addr) (items : Array Value) (n : Nat) (dd : Option Addr) (sl : Array (Option Value)) (u : Tok) (hi : items.isEmpty = false) :
    Meets (Builtin.«tuple.__mul__» ⟨[.ref l, .int 0 u], []⟩) (fun _ R s => s.heap.get? l = some { cls := .type "tuple", dict := dd, data := .seq items n, slots := sl } ∧
      R (.ok (.ret (Value.ref s.heap.objs.size))) { s with heap := s.heap.push { cls := Value.type "tuple", data := Data.seq #[] }, toks := s.toks }) :=
  .of_wp fun prog w A R s h => by
    obtain ⟨hp, g, d, tk, os⟩ := s
    obtain ⟨hl, h⟩ := h
    have f1 := AutoSeq1.idx_int
    wp_walk using wpAny_loadPart' hl
    repeat (first
      | (refine wpAny_ite_false (decide_eq_false (by decide)) ?_; wp_walk using wpAny_loadPart' hl)
      | (refine wpAny_ite_false (decide_eq_false (by rw [hi]; decide)) ?_; wp_walk using wpAny_loadPart' hl)
      | (refine wpAny_ite_true (decide_eq_true (by simp)) ?_; wp_walk using wpAny_loadPart' hl))
    exact ⟨_, rfl, h⟩
section
variable {X : Cx} {dk l : Addr}
theorem op_rep0 : OpR X (binaryOp .Mult) (fun x y H Q => ∃ (a : Addr) (xs : List V), x = .ref a ∧ y = .int 0 ∧ SqT X.K H a xs ∧ xs ≠ [] ∧ ∀ p, H p = none → Q (.ref p) (upd H p (.tup []))) := by
  intro pins s σ H x y v u Q I rx ry h
  obtain ⟨l, xs, rfl, rfl, hT, hne, q⟩ := h
  cases rx
  obtain ⟨t, rfl⟩ := ry
  obtain ⟨its, r, ⟨⟨cls, dd, data, sl⟩, ho, hc, n, hd⟩, hs⟩ := I.tuple hT
  simp only at hc hd
  subst hc hd
  have hn : its ≠ [] := fun e => hne (by
    have := r.length
    rw [e] at this
    exact List.eq_nil_of_length_eq_zero this)
  have hi : its.toArray.isEmpty = false := by
    cases its with
    | nil => exact absurd rfl hn
    | cons a b => rfl
  exact wpAny_binaryOp_repeat_ref (T := "tuple") (U := "int") (by decide) ⟨_, ho, rfl⟩ (fun s' => typeIs_int s' 0 t) noFill_tuple_mul PySem.F.fills_int_mul PySem.F.slot_int_rmul repeat_tuple PySem.F.slot_int_index.lookup
    (call_meets PySem.F.slot_int_rmul (typeIs_int s 0 t) PySem.F.entry_int_rmul (PySem.F.args_int_rmul_2 _ _) (int_rmul_tuple 0 t l its.toArray n dd sl)
      ⟨ho, rfl, ⟨_, ho, rfl⟩, call_meets PySem.F.slot_tuple_mul ⟨_, ho, rfl⟩ PySem.F.entry_tuple_mul (PySem.F.args_tuple_mul_2 _ _) (tuple_mul0 l its.toArray n dd sl t hi)
        ⟨ho, by
          refine ⟨.ref _, _, I.laid (t' := s.toks) (o := .tup []) (fun b ob e => Heap.get?_push_of_some _ e) (Nat.le_refl _) ?_, rfl, q _ (I.hok.fresh (Nat.le_refl _))⟩
          exact ⟨Nat.zero_le _, [], .nil, IsTup.new _ _⟩⟩⟩)
/-- (x, ..) * n, n from 0 on -/
def mulZ : D → D → Option D
  | .tup a, .int k => if k = 0 ∧ a ≠ [] then some (.tup []) else mulT (.tup a) (.int k)
  | x, y => mulT x y
theorem o_mulZ : OpD X dk l (binaryOp .Mult) mulZ := by
  obtain ⟨r, hr, h⟩ := o_mulT (X := X) (dk := dk) (l := l)
  refine ⟨_, OpR.or op_rep0 hr, fun I H s x y v u d Q w rx ry e q => ?_⟩
  by_cases hz : ∃ a, x = .tup a ∧ y = .int 0 ∧ a ≠ []
  · obtain ⟨a, rfl, rfl, hne⟩ := hz
    have e' : some (D.tup []) = some d := by
      rw [← e]
      exact (if_pos ⟨rfl, hne⟩).symm
    cases e'
    obtain ⟨p, vs, rfl, h1, h2⟩ := rx
    refine .inl ⟨p, vs, rfl, ry, SqT.of (w.sub _ _ h1), fun z => hne (List.eq_nil_of_length_eq_zero (by rw [h2.length, z]; rfl)), fun t ht => q _ _ _ (Ext.new w ht) (w.new ht) ⟨t, _, rfl, upd_same, rfl⟩⟩
  · refine .inr (h I H s x y v u d Q w rx ry ?_ q)
    rw [← e]
    cases x with
    | tup a =>
      cases y with
      | int k =>
        show _ = (if k = 0 ∧ a ≠ [] then some (D.tup []) else mulT (.tup a) (.int k))
        rw [if_neg fun hk => hz ⟨a, rfl, by rw [hk.1], hk.2⟩]
      | _ => rfl
    | _ => rfl
end
end PV

end

section
set_option maxRecDepth 100000
namespace PV
open PySem PySem.Spec PyProof.Rows L2
/-! ### x == "text", whatever x holds -/
section
open PySem.SeqAt
open PySem.AutoSeq1 (wpAny_loadPart')
theorem sub_dict_str' : isSubtype (.type "dict") (.type "str") = pure false := by rw [isSubtype_type]; kernel_rfl
theorem dict_eq_declines_str (l : Addr) (data : Data) (dd : Option Addr) (sl : Array (Option Value)) (b : Str) (u : Tok) :
    Meets (Builtin.«dict.__eq__» ⟨[.ref l, .str b u], []⟩) (fun _ R s => s.heap.get? l = some { cls := .type "dict", dict := dd, data := data, slots := sl } ∧ R (.ok (.ret .notImplemented)) s) :=
  .of_wp fun prog w A R s h => by obtain ⟨hp, g, d, tk, os⟩ := s; obtain ⟨hl, h⟩ := h; have f1 := F.sub_str_dict; wp_walk using wpAny_loadPart' hl; exact ⟨_, rfl, h⟩
theorem str_eq_declines_dict (b : Str) (u : Tok) (l : Addr) (c : Value) (es : Array DictEntry) (ep : Nat) (dd : Option Addr) (sl : Array (Option Value)) :
    Meets (Builtin.«str.__eq__» ⟨[.str b u, .ref l], []⟩) (fun _ R s => s.heap.get? l = some { cls := c, dict := dd, data := .dict es ep, slots := sl } ∧ R (.ok (.ret .notImplemented)) s) :=
  .of_wp fun prog w A R s h => by obtain ⟨hp, g, d, tk, os⟩ := s; obtain ⟨hl, h⟩ := h; wp_walk using wpAny_loadPart' hl, wpAny_load hl; exact ⟨_, rfl, h⟩
theorem RcAt.dict_str {A : Around} {s : Shared} {l : Addr} {o : Obj} {es : Array DictEntry} {ep : Nat} (b : Str) (u : Tok) (ho : s.heap.get? l = some o) (hc : o.cls = .type "dict") (hd : o.data = .dict es ep) (hu : A.units < cLine) : RcAt A s (.ref l) (.str b u) false := fun prog w E Q h => by
  obtain ⟨cls, dd, data, sl⟩ := o
  simp only at hc hd
  subst hc hd
  exact rc_eq_decline_or (k := false) ⟨_, ho, rfl⟩ (typeIs_str s b u) (by decide) F.sub_str_dict F.slot_dict_eq F.slot_str_eq_refl
    (fun _ hq => call_meets F.slot_dict_eq ⟨_, ho, rfl⟩ F.entry_dict_eq (F.args_dict_eq_2 _ _) (dict_eq_declines_str l (.dict es ep) dd sl b u) ⟨ho, hq⟩)
    (fun _ hq => call_meets F.slot_str_eq_refl (typeIs_str s b u) F.entry_str_eq (F.args_str_eq_2 _ _) (str_eq_declines_dict b u l (.type "dict") es ep dd sl) ⟨ho, hq⟩)
    (fun _ hq => wpAny_of_eq (rfl : isSame (.ref l) (.str b u) = pure false) hq) (.inr hu) h
end
/-- what holds other things, or none -/
def rBoxS (K : PySem.W.Frag) : R2 := fun x y H Q => ∃ (a : Addr) (b : Str), x = .ref a ∧ y = .str b ∧ ((∃ xs, SqL K H a xs) ∨ (∃ xs, SqT K H a xs) ∨ ∃ kvs, H a = some (.dK kvs)) ∧ Q (.bl false) H
def eqS (x y : D) : Option D := match eqD x y with
  | some d => some d
  | none => match x, y with
    | .lst _, .str _ => some (.bl false)
    | .tup _, .str _ => some (.bl false)
    | .dK _, .str _ => some (.bl false)
    | _, _ => none
section
variable {X : Cx} {dk l : Addr}
theorem op_boxS (hu : X.A.units < cLine) : OpR X (compareOp .Eq) (rBoxS X.K) := by
  intro pins s σ H x y v u Q I rx ry h
  obtain ⟨a, b, rfl, rfl, hb, q⟩ := h
  cases rx
  obtain ⟨t, rfl⟩ := ry
  have fin : EP X pins σ Q (.bool false) s := ⟨.bl false, H, I, rfl, q⟩
  rcases hb with ⟨xs, h⟩ | ⟨xs, h⟩ | ⟨kvs, h⟩
  · obtain ⟨its, r, hl, _⟩ := I.list h
    obtain ⟨o, n, ho, hc, _, hd⟩ := hl
    exact SeqAt.RcAt.list_str b t ⟨o, ho, hc, n, hd⟩ hu X.prog X.w _ _ fin
  · obtain ⟨its, r, ht, _⟩ := I.tuple h
    exact SeqAt.RcAt.tuple_str b t ht hu X.prog X.w _ _ fin
  · obtain ⟨_, _, vs, kv, o, es, ep, ho, hx, hd, _⟩ := L2.dk_of I.hok h
    exact RcAt.dict_str b t ho hx.1 hd hu X.prog X.w _ _ fin
theorem o_eqS (hu : X.A.units + 64 < cLine) : OpD X dk l (compareOp .Eq) eqS := by
  obtain ⟨r, hr, h⟩ := o_eq (X := X) (dk := dk) (l := l) hu
  refine ⟨_, OpR.or hr (op_boxS (by omega)), fun I H s x y v u d Q w rx ry e q => ?_⟩
  unfold eqS at e
  cases z : eqD x y with
  | some d' =>
    rw [z] at e
    cases e
    exact .inl (h I H s x y v u d Q w rx ry z q)
  | none =>
    rw [z] at e
    refine .inr ?_
    cases y with
    | str b =>
      cases x with
      | lst ds =>
        cases e
        obtain ⟨a, vs, rfl, h1, h2⟩ := rx
        exact ⟨a, b, rfl, ry, .inl ⟨vs, .of (w.sub _ _ h1)⟩, q _ I H Ext.refl w rfl⟩
      | tup ds =>
        cases e
        obtain ⟨a, vs, rfl, h1, h2⟩ := rx
        exact ⟨a, b, rfl, ry, .inr (.inl ⟨vs, .of (w.sub _ _ h1)⟩), q _ I H Ext.refl w rfl⟩
      | dK kvs =>
        cases e
        obtain ⟨a, ws, rfl, h1, h2⟩ := rx
        exact ⟨a, b, rfl, ry, .inr (.inr ⟨ws, w.sub _ _ h1⟩), q _ I H Ext.refl w rfl⟩
      | _ => cases e
    | _ => cases x <;> cases e
end
end PV

end

section
set_option maxRecDepth 100000
namespace PV
open PySem PySem.Spec PyProof.Rows L2
/-! ### x.upper() of a text -/
def upperD : D → Option D
  | .str a => if a.length ≤ 1000 then some (.str (Txt.upper a)) else none
  | _ => none
section
variable {X : Cx} {dk l : Addr} {W : WX}
theorem r_upper {o : Expr} {apos pos : Pos} {m : En → M D} (h : PE X o (lift X.K dk l W m)) (hbase : attributeBase o "upper" X.env (eval o X.env) = eval o X.env := by rfl) (hline : (apos.endLine == pos.line) = true := by rfl) :
    PE X (.Call (.Attribute o "upper" apos) [] [] pos) (lift X.K dk l W (eUn upperD m)) := PE_imp (pe_upper h hbase hline) fun σ H Q ⟨I, env, s, e, w, q⟩ => by
  refine ⟨I, env, s, e, w, q.bind.mono (fun x s1 q v I1 H1 x1 w1 r1 => ?_) fun _ _ _ h => h⟩
  obtain ⟨d, e2, q⟩ := q.opt
  cases x with
  | str a =>
    unfold upperD at e2
    by_cases hl : a.length ≤ 1000
    · simp only [hl, if_true] at e2
      cases e2
      have hv : v = .str a := r1
      subst hv
      exact ⟨⟨a, rfl⟩, a, rfl, rfl, by omega, q _ I1 H1 x1 w1 rfl⟩
    · simp only [hl, if_false] at e2
      cases e2
  | _ => cases e2
end
end PV

end

section
set_option maxRecDepth 100000
set_option maxHeartbeats 4000000
namespace PySem
namespace XT2
open PySem.W PySem.Calls PyProof.Rows PySem.HandSPX
/-! ### classes over classes of one's own over Exception -/
def refsE : List Value → Bool
  | .ref _ :: r => refsE r
  | l => l == ESX.exTail
theorem refsE_cases : ∀ l : List Value, refsE l = true → (∃ c r, l = .ref c :: r ∧ refsE r = true) ∨ l = ESX.exTail
  | [], e => .inr (beq_iff_eq.mp e)
  | .ref c :: r, e => .inl ⟨c, r, rfl, e⟩
  | .none :: _, e => .inr (beq_iff_eq.mp e)
  | .ellipsis :: _, e => .inr (beq_iff_eq.mp e)
  | .notImplemented :: _, e => .inr (beq_iff_eq.mp e)
  | .bool _ :: _, e => .inr (beq_iff_eq.mp e)
  | .int _ _ :: _, e => .inr (beq_iff_eq.mp e)
  | .float _ _ :: _, e => .inr (beq_iff_eq.mp e)
  | .str _ _ :: _, e => .inr (beq_iff_eq.mp e)
  | .bytes _ _ :: _, e => .inr (beq_iff_eq.mp e)
  | .type _ :: _, e => .inr (beq_iff_eq.mp e)
  | .builtin _ :: _, e => .inr (beq_iff_eq.mp e)
theorem refsE_pass (self : Value) : ∀ l : List Value, refsE l = true → refuseLoop self "__setattr__" l = pure () := by
  intro l
  induction l with
  | nil => intro e; exact absurd e (by decide)
  | cons a r ih =>
    intro e
    rcases refsE_cases (a :: r) e with ⟨c, r', q, h⟩ | q
    · obtain ⟨rfl, rfl⟩ := List.cons.inj q
      rw [refuseLoop_ref]; exact ih h
    · rw [q]; exact F.store_Exception.passes self
theorem refsE_contains (X : String) : ∀ l : List Value, refsE l = true → l.contains (.type X) = ESX.exTail.contains (.type X) := by
  intro l
  induction l with
  | nil => intro e; exact absurd e (by decide)
  | cons a r ih =>
    intro e
    rcases refsE_cases (a :: r) e with ⟨c, r', q, h⟩ | q
    · obtain ⟨rfl, rfl⟩ := List.cons.inj q
      rw [List.contains_cons, ih h]; rfl
    · rw [q]
theorem refsE_ne {l : List Value} (e : refsE l = true) : l.isEmpty = false := by
  cases l with
  | nil => exact absurd e (by decide)
  | cons _ _ => rfl
section
open Builtin Builtin.ObjectAttr
variable {prog : Program} {w : World} {A : Around} {E : Value → Shared → Prop} {R : Result → Shared → Prop} {hp : Heap} {g : Array GenState} {d : Drawn} {t : Nat} {os : OsState}
theorem exc_osaE {K : W.Frag} {name : Str} {tk : Tok} {v : Value} {x C : Addr} {fv : Array Value} {cd : ClassData}
    (X : K.In hp) (hx : hp.get? x = some { cls := .ref C, data := .fields fv }) (hcd : W.clsIn K C = some cd) (hm : refsE cd.mro = true) (hh : cd.hasDict = true) (ha : W.findIn K (.ref C) name = some none)
    (hq : ∀ h' tk' dx, (∀ b o, b ≠ x → hp.get? b = some o → h'.get? b = some o) → hp.objs.size ≤ dx → dx ≠ x → h'.get? x = some { cls := .ref C, dict := some dx, data := .fields fv } →
      h'.Ns1 dx (fun y => if y = name then some v else none) → R (.ok (.ret .none)) ⟨h', g, d, tk', os⟩) :
    codeAny (model prog w) A (.call (.builtin "object.__setattr__") ⟨[.ref x, .str name tk, v], []⟩) R ⟨hp, g, d, t, os⟩ := by
  have I : W.InstAt hp x { cls := .ref C, data := .fields fv } C none := ⟨hx, rfl, rfl, trivial⟩
  have SF := F.store_object
  have ne := refsE_ne hm
  have hob : cd.mro.contains (.type "object") = true := (refsE_contains "object" _ hm).trans (by decide +kernel)
  have hxs : x ≠ hp.objs.size := Nat.ne_of_lt (Heap.lt_size hx)
  have sub : W.Looks (model prog w) hp (isInstance (.ref x) (.type "object")) true := I.type.andThen (W.looks_mroIn X (by unfold W.mroIn; rw [hcd, Option.bind_some, if_neg (by rw [ne]; decide), hob]))
  refine codeAny_call_builtin SF.slot.plain SF.entry (@W.check_slot (model prog w) _ _ ⟨hp, g, d, t, os⟩ "object.__setattr__" "object" "__setattr__" (.ref x) [.str name tk, v] [] _ SF.kind SF.split sub (SF.args (.ref x) (.str name tk) v) ?_)
  have hmr : W.Looks (model prog w) hp (mroOf (.ref C)) cd.mro := (W.looks_clsIn X hcd).andThen .now
  have L3 : W.Looks (model prog w) hp (storeTaker? none) none := .now
  have hcls : W.Looks (model prog w) hp (classData C) cd := W.looks_clsIn X hcd
  rw [W.osa_eq, refuse_eq]
  refine wpAny_bind (wpAny_bind (I.type.at (wpAny_bind (hmr.at ?_))))
  rw [refsE_pass _ _ hm]
  refine wpAny_pure (wpAny_bind (I.type.at (wpAny_bind ((W.looks_findIn X ha).at (wpAny_bind (L3.at ?_))))))
  show wpAny _ _ (storeInOwnDict (.ref x) (.ref C) (.str name tk) name v false) _ _ _
  obtain ⟨nm, bs, mro, ns, qn, hd, sn, sb, ab, col, del⟩ := cd
  dsimp only at hh
  subst hh
  unfold storeInOwnDict ownDictForStores
  repeat (first | with_reducible refine store_in_new ?_ ?_ | with_reducible refine wpAny_loadPart_at hx ?_ | with_reducible refine hcls.at ?_ | wp_step)
  · exact ⟨_, #[], _, (Heap.get?_update_ne _ _ _ _ hxs.symm).trans (Heap.get?_push_at rfl rfl), rfl, fun e he => absurd he (by simp), fun _ => rfl⟩
  · intro h' tk' hn' hs
    have hx₁ : (hp.push { cls := .type "dict", data := .dict #[] }).get? x = some { cls := .ref C, data := .fields fv } := Heap.get?_push_of_some _ hx
    refine hq h' tk' hp.objs.size (fun b o hb ho => ?_) (Nat.le_refl _) hxs.symm ?_ hn'
    · exact (hs.2 b (Nat.ne_of_lt (Heap.lt_size ho))).trans ((Heap.get?_update_ne _ _ _ _ hb).trans (Heap.get?_push_of_some _ ho))
    · exact (hs.2 x hxs).trans (Heap.get?_update_self _ hx₁ rfl)
end
end XT2
end PySem

namespace PV
open PySem PySem.Spec PyProof.Rows L2
/-- what the written part says of such a class -/
structure OexE (K : PySem.W.Frag) (C : Addr) : Prop where
  cls : ∃ nm q N bs bm sn sub ab col dd k0 k1 k2 k3 k5, K.lookup C = some (excClassObj nm q C N bs bm true sn sub ab col dd k0 k1 k2 k3 k5 "Exception.__new__") ∧ PySem.XT2.refsE bm = true
  sa : PySem.W.findIn K (.ref C) "__setattr__" = some (some (.builtin "object.__setattr__"))
  exC : PySem.W.subIn K (.ref C) (.type "BaseException") = some true
  tyC : PySem.W.typeIn K (.ref C) = some (.type "type")
  kC : PySem.W.keepIn K (.ref C) = true
section
variable {X : Cx} {pins : List (Addr × Obj)} {σ : L2.St} {H : Hp} {s : Shared} {a C : Addr} {f : Str} {y : V} {u : Value} {Q : Unit → Shared → Prop} {E : Value → Shared → Prop} {A : Around}
theorem ost_newE (T : OexE X.K C) (I : Inv X pins σ H s) (e : H a = some (exo a C none)) (hno : PySem.W.findIn X.K (.ref C) f = some none) (ry : RelV y u)
    (h : ∀ dx s', H dx = none → dx ≠ a → Inv X pins σ (upd (upd H dx (exd dx [(f, y)])) a (exo a C (some dx))) s' → Q () s') : wpAny (model X.prog X.w) A (setAttr (.ref a) f u) Q E s := by
  obtain ⟨nm, q, N, bs, bm, sn, sub, ab, col, dd, k0, k1, k2, k3, k5, hC, hbm⟩ := T.cls
  have hcl : PySem.W.clsIn X.K C = some { name := nm, bases := bs, mro := .ref C :: bm, ns := N, qualname := q, hasDict := true, slotNames := sn, subclasses := sub, abstract := ab, collection := col, hasDel := false } := by unfold PySem.W.clsIn; rw [hC] <;> rfl
  obtain ⟨t1, ho⟩ := exo_at I.hok e
  obtain ⟨hp, g, d, t, os⟩ := s
  refine PySem.W.set_plain I.kIn (ox := { cls := .ref C, dict := none, data := .fields #[.ref t1, .none, .none, .none, .bool false, .none] }) (od := none) ⟨ho, rfl, rfl, trivial⟩ T.sa ?_
  refine PySem.XT2.exc_osaE I.kIn ho hcl (show PySem.XT2.refsE (.ref C :: bm) = true from hbm) rfl hno (fun h' tk' dx k dn dne hx hn => ?_)
  have hnd : H dx = none := I.hok.fresh dn
  have nd : ∀ {b : Addr} {o : Obj}, hp.get? b = some o → b ≠ dx := fun {b o} q => Nat.ne_of_lt (Nat.lt_of_lt_of_le (Heap.lt_size q) dn)
  have na : ∀ {b : Addr}, H b = none → b ≠ a := fun {b} n z => by
    rw [z, e] at n
    cases n
  have Un1 : Un X.fs [] H (upd (upd H dx (exd dx [(f, y)])) a (exo a C (some dx))) hp h' := {
    keep := fun b o q n _ _ => k b o (na n) q
    slot := fun b o q n _ _ => ⟨o.slots, k b o (na n) q⟩
    free := fun b o q n _ => by rw [upd_ne (na n), upd_ne (nd q)]; exact n
    there := fun b o q _ => by
      by_cases hb : b = a
      · exact ⟨_, by rw [hb]; exact hx⟩
      · exact ⟨o, k b o hb q⟩
    tups := fun b xs q => by rw [upd_ne (at_ne e q exo_tup), upd_ne (ne_of_none q hnd)]; exact q
    frzs := fun b o v q => by rw [upd_ne (at_ne e q exo_frz), upd_ne (ne_of_none q hnd)]; exact q
    tbls := fun b ps q => ⟨#[], by rw [upd_ne (at_ne e q exo_tbl), upd_ne (ne_of_none q hnd), q]; simp⟩ }
  refine h dx _ hnd dne (I.un (t' := tk') Un1 fun b o q => ?_)
  by_cases hb : b = a
  · subst hb
    rw [upd_same] at q
    cases q
    exact exo_ok hx
  · rw [upd_ne hb] at q
    by_cases hd : b = dx
    · subst hd
      rw [upd_same] at q
      cases q
      exact exd_ok hn (relO_put (fs := []) ry fun g => True.intro)
    · rw [upd_ne hd] at q
      exact (I.hok b o q).stay (fun c v hc z => k c v (by
          rcases hc with hc | hc
          · rw [hc]
            exact hb
          · exact at_ne e hc exo_own) z)
        (fun c hc => by rw [upd_ne (at_ne e hc exo_own), upd_ne (ne_of_none hc hnd)]; exact hc) (fun c xs hc => by rw [upd_ne (at_ne e hc exo_tup), upd_ne (ne_of_none hc hnd)]; exact hc)
end

/-! ### the own __init__: super().__init__("..") and self.f = f -/
abbrev initBody (msg fld : Str) (j : Nat) (p0 p1 p2 p3 p4 p5 p6 p7 p8 p9 : Pos) : List Stmt :=
  [.Expr (.Call (.Attribute (.Call (.Name "super" p0) [] [] p1) "__init__" p2) [.Constant (.str msg) j p3] [] p4) p5,
   .Assign [.Attribute (.Name "self" p6) fld p7] (.Name fld p8) p9]
def spI (C : Addr) (fld : Str) : Sp := fun vs H Q _ => ∃ (a : Addr) (v : V), vs = [.ref a, v] ∧ H a = some (exo a C none) ∧ ∀ d, H d = none → d ≠ a → Q .non (upd (upd H d (exd d [(fld, v)])) a (exo a C (some d)))
/-- what is known of the class at C with the __init__ at f -/
structure InitE (prog : Program) (K : PySem.W.Frag) (C f cc cda : Addr) (name qual fld : Str) (params : Arguments) (body : List Stmt) (sc : Scope) (fd : FuncData) : Prop where
  cls : OexE K C
  fn : ∃ oc od osl dV kV doc pm an ct, fd = PySem.W.fnX name qual params body sc [("__class__", cc)] dV kV doc pm an (.ref cda) ct ∧ K.lookup f = some ⟨oc, od, .func fd, osl⟩
  hd : ∃ ar, (params.posonlyargs ++ params.args).head? = some ar ∧ ar.arg = "self"
  code : PySem.W.codeIn K (.ref cda) qual = true
  file : ∃ ccl cdd vs ccs fl tf, K.lookup cda = some ⟨ccl, cdd, .fields vs, ccs⟩ ∧ vs[2]? = some (.str fl tf) ∧ ((prog.main.file : Str) == fl) = true
  cell : ∃ cl cld csl, K.lookup cc = some ⟨cl, cld, .cell (some (.ref C)), csl⟩
  sup : PySem.W.ks_superIn K C C "__init__" = some (some (.builtin "Exception.__init__"))
  isE : PySem.W.subIn K (.ref C) (.type "Exception") = some true
  isC : PySem.W.mroIn K C (.ref C) = some true
  opq : PySem.W.nsIn K cStatics "thirdparty.any" = some none
  nof : PySem.W.findIn K (.ref C) fld = some none
  top : (prog.main.scope.names.lookup ("super" : Str)).isSome = false
  sc1 : NdefX.nscB ["self", fld, "__class__"] ["self", fld] ["__class__"] sc = true
  sc2 : sc.names.lookup ("super" : Str) = some .globalImplicit

/-- how the call of super().__init__ goes, at its places in the text -/
def EvSup (msg : Str) (j : Nat) (p0 p1 p2 p3 p4 : Pos) : Prop := ∃ pl : Env → Sem Bool, ∀ env : Env, eval (.Call (.Attribute (.Call (.Name "super" p0) [] [] p1) "__init__" p2) [.Constant (.str msg) j p3] [] p4) env = (do
  let ov ← attributeBase (.Call (.Name "super" p0) [] [] p1) "__init__" env (eval (.Call (.Name "super" p0) [] [] p1) env)
  standAt p2.atName
  let (f, first) ← holding [ov] (getMethod ov "__init__" (pl env))
  callWith p4 f first (backTo p4 (starEach [.Constant (.str msg) j p3] env)) [])
section
variable {P : Program} {w : World} {K : PySem.W.Frag} {mg : Str → Option Value} {base : Heap} {C f cc cda : Addr} {name qual fld msg : Str} {params : Arguments} {sc : Scope} {fd : FuncData} {k j : Nat} {p0 p1 p2 p3 p4 p5 p6 p7 p8 p9 : Pos}
theorem init_ok (T : InitE P K C f cc cda name qual fld params (initBody msg fld j p0 p1 p2 p3 p4 p5 p6 p7 p8 p9) sc fd) (hev : EvSup msg j p0 p1 p2 p3 p4) (hsw : ∀ env : Env, swapsWith (.Call (.Attribute (.Call (.Name "super" p0) [] [] p1) "__init__" p2) [.Constant (.str msg) j p3] [] p4) none p5.line env = pure false) (hsw2 : ∀ env : Env, swapsWith (.Name fld p8) (some (.Attribute (.Name "self" p6) fld p7)) p9.line env = pure false) (hsup : mg "super" = none) (hfd : (fld == ("__debug__" : Str)) = false) (hfc : (fld == ("__classdict__" : Str)) = false) :
    FnOk P w K mg base (L2.CX P w) (k + 1) f fd ["self", fld] (spI C fld) := by
  refine ⟨fun vs H Q E h => ?_, fun A outer s H args us vs Q E hr e0 hb r hsp => ?_⟩
  · obtain ⟨a, v, e, _⟩ := h
    rw [e]; rfl
  obtain ⟨oc, od, osl, dV, kV, doc, pm, an, ct, efd, lk⟩ := T.fn
  subst efd
  obtain ⟨a, v, ev, ea, hq⟩ := hsp
  subst ev
  obtain ⟨ar, har, harn⟩ := T.hd
  obtain ⟨ccl, cdd, cvs, ccs, fl, tf, hcode, hvs, hfile⟩ := T.file
  obtain ⟨cl, cld, csl, hcell⟩ := T.cell
  obtain ⟨nm, q, N, bs, bm, sn, sub, ab, col, dd, k0, k1, k2, k3, k5, hC, hbm⟩ := T.cls.cls
  have KX : K.In s.heap := e0.mod.kin.keeps fun b o e => (e0.bs b o e).1
  have lim : s.heap.NoLimit := e0.mod.nolimit.keeps fun b o e => (e0.bs b o e).1
  have S := NdefX.nscope_by T.sc1
  let F : NdefX.NF := ⟨name, qual, params, initBody msg fld j p0 p1 p2 p3 p4 p5 p6 p7 p8 p9, sc, [("__class__", cc)], cda⟩
  have kw : K.In base := e0.mod.kin
  have cH : H cc = none := (e0.bs cc _ (kw _ _ hcell)).2
  have CA : NdefX.CellsAt F.cl ["__class__"] [some (.ref C)] s.heap H := by
    have one : ∀ {y : Str} {c : Addr}, F.cl.lookup y = some c → y = "__class__" ∧ c = cc := fun {y c} e => by
      have e' : (if (y == ("__class__" : Str)) = true then some cc else none) = some c := by
        have z : List.lookup y [(("__class__" : Str), cc)] = some c := e
        simp only [List.lookup] at z
        split at z
        · rename_i h; rw [if_pos h]; exact z
        · cases z
      split at e'
      · rename_i h
        exact ⟨by simpa using h, (Option.some.inj e').symm⟩
      · cases e'
    refine ⟨rfl, fun y c e => ?_, fun x y c e1 e2 => ?_, fun i y e => ?_⟩
    · obtain ⟨_, rfl⟩ := one e
      exact ⟨cH, _, _, KX _ _ hcell, rfl⟩
    · rw [(one e1).1, (one e2).1]
    · cases i with
      | zero =>
        have ey : ("__class__" : Str) = y := by simpa using e
        subst ey
        refine ⟨cc, rfl, fun v z => ?_⟩
        have z' : some (V.ref C) = some v := by simpa using z
        cases z'
        exact ⟨.ref C, rfl, _, KX _ _ hcell, rfl⟩
      | succ i => simp at e
  cases r with
  | @cons _ u0 _ ur ra rw1 =>
  cases rw1 with
  | @cons _ u1 _ ur2 rv rw2 =>
  cases rw2
  obtain rfl : u0 = Value.ref a := ra
  have hloc : ∀ y ∈ ([("self" : Str), fld]).zip [Value.ref a, u1], sc.names.lookup y.1 = some .local := fun ⟨n, _⟩ hy => S.par n (List.of_mem_zip hy).1
  have hkself : sc.names.lookup ("self" : Str) = some .local := S.par "self" (by simp)
  have hkc : sc.names.lookup ("__class__" : Str) = some .free := S.frk "__class__" (by simp)
  refine PySem.ks_codeAny_call_defAt (fd := PySem.W.fnX name qual params (initBody msg fld j p0 p1 p2 p3 p4 p5 p6 p7 p8 p9) sc [("__class__", cc)] dV kV doc pm an (.ref cda) ct) (body := initBody msg fld j p0 p1 p2 p3 p4 p5 p6 p7 p8 p9) (binds := ([("self" : Str), fld]).zip [Value.ref a, u1]) hr.depth (KX _ _ lk) rfl lim (PySem.W.codeRec_of KX T.code) rfl hb S.nocell hloc (fun h₁ hns kp => ?_) S.co S.gen S.kind
  have I : Inv (NdefX.ncx (L2.CX P w) P w K mg base ["self", fld, "__class__"] F f A outer s H E) [] (NdefX.startF ["self", fld, "__class__"] [.ref a, v] [some (.ref C)]) H { s with heap := h₁, toks := s.toks + (([("self" : Str), fld]).zip [Value.ref a, u1]).length } :=
    NdefX.inv_startN S hr.hd e0 rfl (.cons rfl (.cons rv .nil)) CA hns kp
  have K1 : K.In h₁ := KX.keeps kp
  obtain ⟨pl, hpl⟩ := hev
  have hint : interactive (NdefX.envF F f s.heap.objs.size) = false := by
    have z : (NdefX.envF F f s.heap.objs.size).scope.kind = .function := S.kind
    unfold interactive
    rw [z]
    rfl
  refine PySem.ks_wpAt_execs_cons (PySem.ks_wpAt_Expr_any (PySem.ks_wpAt_MethodCall (pl := pl (NdefX.envF F f s.heap.objs.size)) ?_ (hpl _)) hint (hsw _))
  refine PySem.ks_wpAt_super_base (env := NdefX.envF F f s.heap.objs.size) T.sc2 hkc (by decide) rfl (K1 _ _ lk) rfl har rfl (K1 _ _ hcode) rfl hvs hfile T.top ?_
  obtain ⟨mb, hmb, hbb⟩ := e0.mod.blt
  have K0 : ∀ b o, base.get? b = some o → h₁.get? b = some o := fun b o e => kp b o (e0.bs b o e).1
  refine PySem.W.ks_loadName_global S.kind T.sc2 (PySem.Calls.loadGlobal_builtin (env := NdefX.envF F f s.heap.objs.size) (e0.mod.glob.keeps K0) hsup (hmb.keeps K0) ((hbb _ (by decide +kernel)).trans (show bootBuiltins "super" = some (.type "super") by kernel_rfl)) ⟨rfl, ?_⟩)
  refine wpAny_loadName_free S.kind hkc rfl ⟨_, K1 _ _ hcell, rfl⟩ ?_
  rw [harn]
  refine wpAny_loadName_local S.kind hkself hns (v := .ref a) (NdefX.zip_look (i := 0) ?_ rfl rfl) ?_
  · have nd := S.nd
    simp only [List.nodup_cons, List.mem_cons] at nd ⊢
    exact ⟨fun z => nd.1 (z.elim .inl fun q => absurd q (by simp)), by simp, by simp⟩
  have hC1 : h₁.get? C = some (excClassObj nm q C N bs bm true sn sub ab col dd k0 k1 k2 k3 k5 "Exception.__new__") := K1 _ _ hC
  have hcl : PySem.W.clsIn K C = some { name := nm, bases := bs, mro := .ref C :: bm, ns := N, qualname := q, hasDict := true, slotNames := sn, subclasses := sub, abstract := ab, collection := col, hasDel := false } := by unfold PySem.W.clsIn; rw [hC] <;> rfl
  obtain ⟨t1, ho⟩ := exo_at I.hok ea
  have hxC : a ≠ C := fun z => by
    have ho' : h₁.get? a = _ := ho
    rw [z, hC1] at ho'
    cases ho'
  refine PySem.ks_wpAny_isType_cls hC1 rfl ⟨rfl, ?_⟩
  refine PySem.ks_wpAny_call_super hC1 rfl ho rfl (fun c z => by cases z) (PySem.W.looks_mroIn K1 T.isC) (fun h2 hso k2 => ?_)
  have K2 : K.In h2 := K1.keeps k2
  have hsup2 := T.sup
  unfold PySem.W.ks_superIn at hsup2
  rw [hcl] at hsup2
  have inst : PySem.W.InstAt h2 a { cls := .ref C, dict := none, data := .fields #[.ref t1, .none, .none, .none, .bool false, .none] } C none := ⟨k2 _ _ ho, rfl, rfl, trivial⟩
  refine PySem.ESX.getMethod_super hso (PySem.W.looks_opaque K2 T.opq) (l₀ := .ref C :: bm) (fun A Q E s k q => wpAny_bind ((PySem.W.looks_clsIn K2 hcl) A _ E s k (wpAny_pure q))) rfl K2 hsup2 hxC (by decide) (inst.type.andThen (PySem.W.looks_subIn K2 T.isE)) ?_
  refine PySem.ESX.callWith_bound (x := a) ?_
  have k3 : ∀ b o, h₁.get? b = some o → (h2.push (PySem.ESX.bw a)).get? b = some o := fun b o e => Heap.get?_push_of_some _ (k2 b o e)
  have I2 : Inv (NdefX.ncx (L2.CX P w) P w K mg base ["self", fld, "__class__"] F f A outer s H E) [] (NdefX.startF ["self", fld, "__class__"] [.ref a, v] [some (.ref C)]) H ⟨h2.push (PySem.ESX.bw a), s.gens, s.drawn, _, s.os⟩ := I.kept (h' := h2.push (PySem.ESX.bw a)) (t' := s.toks + (([("self" : Str), fld]).zip [Value.ref a, u1]).length + 1) k3
  have hge : ∀ b o, h₁.get? b = some o → b < h2.objs.size := fun b o e => Heap.lt_size (k2 b o e)
  have hpin : ∀ p ∈ [(h2.objs.size, PySem.ESX.bw a)], (h2.push (PySem.ESX.bw a)).get? p.1 = some p.2 ∧ H p.1 = none ∧ p.1 ≠ (NdefX.ncx (L2.CX P w) P w K mg base ["self", fld, "__class__"] F f A outer s H E).env.locals ∧ p.1 ∉ (NdefX.ncx (L2.CX P w) P w K mg base ["self", fld, "__class__"] F f A outer s H E).fs ∧ ∀ v, p.2.data ≠ .cell v := fun p hp => by
    have ep : p = (h2.objs.size, PySem.ESX.bw a) := by simpa using hp
    subst ep
    have hge' : h₁.objs.size ≤ h2.objs.size := Nat.le_of_lt (Heap.lt_size hso)
    exact ⟨Heap.get?_push_size _ rfl, I.hok.fresh hge', fun z => by
      have z' : h2.objs.size = s.heap.objs.size := z
      have l1 : s.heap.objs.size < h₁.objs.size := I.lt
      omega, I.nofs hge', fun v z => by cases z⟩
  have I3 := I2.pins_of (pins' := [(h2.objs.size, PySem.ESX.bw a)]) hpin
  have ha : PA (NdefX.ncx (L2.CX P w) P w K mg base ["self", fld, "__class__"] F f A outer s H E) [.Constant (.str msg) j p3] (tCons (tC (.str msg)) tNil) := pa_cons pe_str pa_nil
  refine thn (ha.run p4 [(h2.objs.size, PySem.ESX.bw a)] _ _ H (fun vs H1 => vs = [V.str msg] ∧ H = H1) I3 ⟨rfl, rfl⟩) fun ws s4 hh => ?_
  obtain ⟨vs, H4, I4, r4, evs, eH⟩ := hh
  subst evs
  rw [← eH] at I4
  have mw := (I4.pin (h2.objs.size, PySem.ESX.bw a) (by simp)).1
  refine ⟨mw, ?_⟩
  obtain ⟨t4, ho4⟩ := exo_at I4.hok ea
  have K4 := I4.kIn
  obtain ⟨hp4, g4, d4, tk4, os4⟩ := s4
  have hws : ws.length ≤ sizeLine := by
    rw [← r4.length]
    show 1 ≤ sizeLine
    rw [sizeLine_eq]; omega
  refine PySem.ESX.call_bw (K4 _ _ hC) ho4 mw hws (fun h5 t5 k5 hx5 => ?_)
  have J := (I4.pins_of (pins' := []) (fun p hp => absurd hp (by simp))).write (t' := tk4) (x := a) (e := a) (o := exo a C none) (by rw [ea]; exact True.intro) (.inl rfl) k5 ⟨_, hx5⟩ (exo_ok hx5)
  have eu : upd H a (exo a C none) = H := by
    funext b
    by_cases hb : b = a
    · rw [hb, upd_same, ea]
    · rw [upd_ne hb]
  rw [eu] at J
  refine PySem.ks_wpAt_execs_cons (PySem.ks_wpAt_Assign_Attr (wpAt_of_wpAny ?_) (hsw2 _))
  have v1 : Vis (NdefX.ncx (L2.CX P w) P w K mg base ["self", fld, "__class__"] F f A outer s H E).env.scope fld := .inl (S.par fld (by simp))
  have v0 : Vis (NdefX.ncx (L2.CX P w) P w K mg base ["self", fld, "__class__"] F f A outer s H E).env.scope "self" := .inl hkself
  refine thn ((pe_var (X := NdefX.ncx (L2.CX P w) P w K mg base ["self", fld, "__class__"] F f A outer s H E) (i := 1) (x := fld) (pos := p8) rfl v1 hfd hfc).run [] _ _ H (fun y H1 => y = v ∧ H = H1) J ⟨v, rfl, rfl, rfl⟩) fun u6 s6 hh => ?_
  obtain ⟨y6, H6, J6, r6, ey, eH6⟩ := hh
  subst ey
  rw [← eH6] at J6
  refine thn ((pe_var (X := NdefX.ncx (L2.CX P w) P w K mg base ["self", fld, "__class__"] F f A outer s H E) (i := 0) (x := "self") (pos := p6) rfl v0).run [] _ _ H (fun y H1 => y = .ref a ∧ H = H1) J6 ⟨.ref a, rfl, rfl, rfl⟩) fun u7 s7 hh => ?_
  obtain ⟨y7, H7, J7, r7, ey, eH7⟩ := hh
  subst ey
  rw [← eH7] at J7
  obtain rfl : u7 = Value.ref a := r7
  refine ost_newE T.cls J7 ea T.nof r6 fun dx s8 n ne J8 => ?_
  refine wpAt_of_wpAny (wpAny_execs_nil ?_)
  exact ⟨.non, _, J8.os, J8.bare, J8.base, J8.hok, rfl, hq dx n ne⟩
end

/-- C(e), C's own __init__ as above -/
def tMkE (C : Addr) (fld : Str) (te : TE) : L2.St → Hp → XK → Prop := fun σ H Q => te σ H fun v H1 => ∀ d, H1 d = none → Q (.ref C) (some d) (upd H1 d (.xd [(fld, v)]))
section
variable {X : Cx} {x fld : Str} {C fI : Addr} {k : Nat} {fd : FuncData} {e : Expr} {te : TE} {p pos : Pos}
theorem pmk_oexE (T : OexE X.K C) (iC : PySem.W.findIn X.K (.ref C) "__init__" = some (some (.ref fI))) (tI : PySem.W.typeIn X.K (.ref fI) = some (.type "function"))
    (F1 : FnOk X.prog X.w X.K X.mg X.base (L2.CX X.prog X.w) k fI fd ["self", fld] (spI C fld)) (hr : Room (k + 1) X.A) (hb : Binds X.K fd ["self", fld] []) (hg : Gl X x) (hm : X.mg x = some (.ref C)) (ha : PE X e te)
    (hdb : (x == ("__debug__" : Str)) = false := by decide) (he : starEach [e] X.env = (false, eval e X.env) :: starEach [] X.env := by rfl) (hpl : (backTo pos (starEach [] X.env)).any (·.1) = false := by rfl) :
    PMk X (.Call (.Name x p) [e] [] pos) (tMkE C fld te) := by
  intro pins s σ H Q I h
  obtain ⟨nm, q, N, bs, bm, sn, sub, ab, col, dd, k0, k1, k2, k3, k5, hC, hbm⟩ := T.cls
  have ha2 : PA X [e] (tCons te tNil) := pa_cons ha pa_nil he
  have hx : Passes (L2.CX X.prog X.w) X (fun _ _ _ => False) := passL
  refine wpAny_Call_Name_kw (ld_glob I hg hm ?_ hdb)
  refine PySem.W.callWith_K (h₀ := X.base) I.ok.mod.kin T.kC (thn (ha2.run pos pins s σ H (fun vs H1 => match vs with
    | [v] => ∀ d, H1 d = none → Q (.ref C) (some d) (upd H1 d (.xd [(fld, v)]))
    | _ => False) I h) fun us s1 ⟨vs, H1, I1, r1, q1⟩ => ⟨I1.kIn, ?_⟩) he hpl
  match vs, q1 with
  | [v], q1 =>
  show wpAny _ _ (call (.ref C) us) _ _ _
  obtain ⟨hp, g, dr, tk, os⟩ := s1
  have hsz : hp.objs.size ≤ hp.objs.size + 1 := Nat.le_succ _
  have hn : H1 (hp.objs.size + 1) = none := I1.hok.fresh hsz
  have kk : ∀ b o, hp.get? b = some o → ((hp.push (PySem.W.kdv_tup us)).push (PySem.HandSPX.excO C hp.objs.size)).get? b = some o := fun b o e => Heap.get?_push_of_some _ (Heap.get?_push_of_some _ e)
  have hget : ((hp.push (PySem.W.kdv_tup us)).push (PySem.HandSPX.excO C hp.objs.size)).get? (hp.objs.size + 1) = some (PySem.HandSPX.excO C hp.objs.size) := by heap_get
  have I2 : Inv X pins σ (upd H1 (hp.objs.size + 1) (exo (hp.objs.size + 1) C none)) ⟨(hp.push (PySem.W.kdv_tup us)).push (PySem.HandSPX.excO C hp.objs.size), g, dr, tk, os⟩ :=
    I1.laid (t' := tk) (a := hp.objs.size + 1) (o := exo (hp.objs.size + 1) C none) (h' := (hp.push (PySem.W.kdv_tup us)).push (PySem.HandSPX.excO C hp.objs.size)) kk hsz (exo_ok hget)
  have r2 : Vals [V.ref (hp.objs.size + 1), v] (Value.ref (hp.objs.size + 1) :: us) := .cons rfl r1
  have hl : (Value.ref (hp.objs.size + 1) :: us).length = ([("self" : Str), fld]).length := by
    have e := r2.length
    exact e.symm
  have hus : us.length ≤ sizeLine := by
    rw [← Paired.length r1, sizeLine_eq]
    show 1 ≤ _
    omega
  have hq : spI C fld [V.ref (hp.objs.size + 1), v] (upd H1 (hp.objs.size + 1) (exo (hp.objs.size + 1) C none)) (fun u H2 => u = .non ∧ ∃ (d : Addr) (fs : List (Str × V)), H2 (hp.objs.size + 1) = some (exo (hp.objs.size + 1) C (some d)) ∧ H2 d = some (exd d fs) ∧ H1 d = none ∧ Q (.ref C) (some d) (upd (del H2 (hp.objs.size + 1)) d (.xd fs))) (fun _ _ _ => False) := by
    refine ⟨_, v, rfl, upd_same, fun d hd1 hd2 => ?_⟩
    rw [upd_ne hd2] at hd1
    refine ⟨rfl, d, [(fld, v)], upd_same, by rw [upd_ne hd2, upd_same], hd1, ?_⟩
    have e : upd (del (upd (upd (upd H1 (hp.objs.size + 1) (exo (hp.objs.size + 1) C none)) d (exd d [(fld, v)])) (hp.objs.size + 1) (exo (hp.objs.size + 1) C (some d))) (hp.objs.size + 1)) d (.xd [(fld, v)]) = upd H1 d (.xd [(fld, v)]) := by
      funext b
      by_cases hb : b = d
      · rw [hb, upd_same, upd_same]
      · rw [upd_ne hb, upd_ne hb]
        by_cases hb2 : b = hp.objs.size + 1
        · rw [hb2, del_same, hn]
        · rw [del_ne hb2, upd_ne hb2, upd_ne hb, upd_ne hb2]
    rw [e]
    exact q1 d hd1
  have bb := hb ⟨(hp.push (PySem.W.kdv_tup us)).push (PySem.HandSPX.excO C hp.objs.size), g, dr, tk, os⟩ (Value.ref (hp.objs.size + 1) :: us) I2.kIn (by rw [List.append_nil]; exact hl)
  rw [List.append_nil] at bb
  refine wpAny_call (PySem.HandSPX.call_own F.excBase_Exception (fun Y => PySem.XT2.refsE_contains Y bm hbm) (I1.kIn _ _ hC) (PySem.W.looks_findIn I1.kIn iC) (fun self => PySem.W.bind_fn I1.kIn self tI) hus
    (codeAny_mono (F1.run _ X.stack _ _ ⟨Value.ref (hp.objs.size + 1) :: us, []⟩ (Value.ref (hp.objs.size + 1) :: us) _ _ (fun _ _ _ => False) (hr.make C us []) (I2.env0.make C us []) bb r2 hq) fun r s' hq' => ?_))
  cases r with
  | error er => exact hx pins σ _ _ er s' I2 hq'
  | ok fl =>
    cases fl with
    | ret u =>
      obtain ⟨v, H2, os2, bare2, un2, hok2, rv, ev, d, fs, ea, ed, hd1, q2⟩ := hq'
      subst ev
      obtain ⟨h2, g2, d2, t2, os'⟩ := s'
      exact ⟨rv, mk_end (raises_own T.exC T.tyC) I1 hsz kk un2 hok2 os2 bare2 ea ed hd1 q2⟩
    | next => exact False.elim hq'
    | brk => exact False.elim hq'
    | cont => exact False.elim hq'
end
end PV

end

section
set_option maxRecDepth 100000
set_option maxHeartbeats 4000000
namespace PySem
namespace XTK
open PySem.HandSPX
open Builtin Builtin.ObjectAttr
/-! ### C(field = e), for a class with an __init__ of its own -/
section
variable {M : Model} {A : Around} {E : Value → Shared → Prop} {h : Heap} {g : Array GenState} {d : Drawn} {t : Nat} {os : OsState}
variable {nm q : Str} {C N : Addr} {bs bm bmB : List Value} {hdct : Bool} {sn : List Str} {sub : List Value} {ab : Bool} {col : Option Bool} {dd : Option Addr} {k0 k1 k2 k3 k5 : Option Value} {B newId initId : String}
theorem check_new (F : ExcBaseFacts B newId initId bmB) (hT : ∀ X : String, bm.contains (.type X) = bmB.contains (.type X)) {kw : List (Str × Value)} {Q : Unit → Shared → Prop}
    (hC : h.get? C = some (excClassObj nm q C N bs bm hdct sn sub ab col dd k0 k1 k2 k3 k5 newId)) (hq : Q () ⟨h, g, d, t, os⟩) : wpAny M A (checkBuiltinCall newId ⟨[.ref C], kw⟩) Q E ⟨h, g, d, t, os⟩ := by
  have hcont : (Value.ref C :: bm).contains (.type B) = true := by rw [List.contains_cons, hT, F.hasB, Bool.or_true]
  have hstar := F.noStar
  simp only [checkBuiltinCall, F.newKind, F.newSplit, F.newRow]
  repeat (first | refine wpAny_loadPart_at hC ?_ | (refine wpAny_isSubtype_exc hC ?_; rw [hcont]) | refine wpAny_staticBase_exc hC ?_ | refine wpAny_madeBy_exc hC ?_ | simp only [bne_self_eq_false, Bool.false_eq_true, if_false] | wp_step)
  exact hq
end
section
variable {prog : Program} {w : World} {A : Around} {E : Value → Shared → Prop} {R : Result → Shared → Prop} {h : Heap} {g : Array GenState} {d : Drawn} {t : Nat} {os : OsState}
variable {nm q : Str} {C N : Addr} {bs bm bmB : List Value} {hdct : Bool} {sn : List Str} {sub : List Value} {ab : Bool} {col : Option Bool} {dd : Option Addr} {k0 k1 k2 k3 k5 : Option Value} {B newId initId : String}
theorem new_kw (F : ExcBaseFacts B newId initId bmB) (hT : ∀ X : String, bm.contains (.type X) = bmB.contains (.type X)) {kw : List (Str × Value)}
    (hC : h.get? C = some (excClassObj nm q C N bs bm hdct sn sub ab col dd k0 k1 k2 k3 k5 newId))
    (hq : R (.ok (.ret (.ref (h.objs.size + 1)))) ⟨(h.push { cls := .type "tuple", data := .seq #[] }).push
      { cls := .ref C, data := .fields #[.ref h.objs.size, .none, .none, .none, .bool false, .none] }, g, d, t, os⟩) :
    codeAny (model prog w) A (.builtin newId ⟨[.ref C], kw⟩) R ⟨h, g, d, t, os⟩ := by
  have hends := F.ends
  have hcB : (Value.ref C :: bm).contains (.type B) = true := by rw [List.contains_cons, hT, F.hasB, Bool.or_true]
  have hcA : (Value.ref C :: bm).contains (.type "AttributeError") = false := by rw [List.contains_cons, hT, F.noAttr]; rfl
  have hcN : (Value.ref C :: bm).contains (.type "NameError") = false := by rw [List.contains_cons, hT, F.noName]; rfl
  have hrest : ([] : List Value).length ≤ sizeLine := by decide
  refine codeAny_builtinAt F.entry ?_
  unfold Builtin.«BaseException.__new__»
  refine wpAt_bind ?_
  show wpAt _ _ _ (stack >>= _) _ _ _
  refine wpAt_bind (wpAt_stack fun p below => wpAt_of_wpAny ?_)
  wp_walk
  refine wpAt_of_wpAny ?_
  rw [F.owner]
  repeat (first | with_reducible refine wpAny_madeHere_exc F.canon hC ?_ | with_reducible refine wpAny_loadPart_at hC ?_ | (with_reducible refine wpAny_isSubtype_exc hC ?_; first | rw [hcB] | rw [hcA] | rw [hcN]) | wp_step)
  show R _ _
  rw [Heap.size_push]
  exact hq
theorem type_call_kw (F : ExcBaseFacts B newId initId bmB) (hT : ∀ X : String, bm.contains (.type X) = bmB.contains (.type X)) {kw : List (Str × Value)} {fI : Addr} {Q : Fin → Shared → Prop}
    (hC : h.get? C = some (excClassObj nm q C N bs bm hdct sn sub ab col dd k0 k1 k2 k3 k5 newId))
    (hi : W.Looks (model prog w) h (typeLookup (.ref C) "__init__") (some (.ref fI))) (hb : ∀ self, W.Looks (model prog w) h (bindSpecial (.ref fI) self) (.ref fI, [self]))
    (hq : codeAny (model prog w) A (.call (.ref fI) ⟨[.ref (h.objs.size + 1)], kw⟩)
      (fun r s' => match r with | .ok (.ret v) => v = .none ∧ Q (.done (.ret (.ref (h.objs.size + 1)))) s' | .ok _ => False | .error e => E e s')
      ⟨(h.push (W.kdv_tup [])).push (excO C h.objs.size), g, d, t, os⟩) :
    wpAny (model prog w) A (Builtin.«type.__call__» ⟨[.ref C], kw⟩) Q E ⟨h, g, d, t, os⟩ := by
  repeat (first | with_reducible refine wpAny_loadPart_at hC ?_ | with_reducible refine wpAny_madeBy_exc hC ?_ | wp_step)
  refine codeAny_call_builtin_code (Code.quiet_builtin _ F.quiet) (check_new F hT hC ?_)
  refine new_kw F hT hC ?_
  show wpAny _ _ _ _ _ _
  have k : ∀ b o, h.get? b = some o → ((h.push (W.kdv_tup [])).push (excO C h.objs.size)).get? b = some o := fun b o e => Heap.get?_push_of_some _ (Heap.get?_push_of_some _ e)
  have hC₁ := k _ _ hC
  have hget : ((h.push (W.kdv_tup [])).push (excO C h.objs.size)).get? (h.objs.size + 1) = some (excO C h.objs.size) := by heap_get
  have hcC : (Value.ref C :: bm).contains (.ref C) = true := by simp
  have i1 := hi.keeps k
  have b1 := (hb (.ref (h.objs.size + 1))).keeps k
  unfold isInstance
  repeat (first | with_reducible refine wpAny_loadPart_at hget ?_ | (with_reducible refine wpAny_isSubtype_exc hC₁ ?_; rw [hcC]) | wp_step)
  show wpAny _ _ (typeLookup (.ref C) _) _ _ _
  refine i1.at ?_
  refine wpAny_holding (wpAny_bind (b1.at ?_))
  refine wpAny_bind (wpAny_call (codeAny_mono hq fun r s' z => ?_))
  rcases r with e | (v | _ | _ | _) <;> first | exact z | exact z.elim | skip
  obtain ⟨rfl, z⟩ := z
  first
    | exact wpAny_pure (wpAny_pure z)
    | (wp_walk; exact z)
theorem call_kw (F : ExcBaseFacts B newId initId bmB) (hT : ∀ X : String, bm.contains (.type X) = bmB.contains (.type X)) {kw : List (Str × Value)} {fI : Addr}
    (hC : h.get? C = some (excClassObj nm q C N bs bm hdct sn sub ab col dd k0 k1 k2 k3 k5 newId))
    (hi : W.Looks (model prog w) h (typeLookup (.ref C) "__init__") (some (.ref fI))) (hb : ∀ self, W.Looks (model prog w) h (bindSpecial (.ref fI) self) (.ref fI, [self]))
    (hq : codeAny (model prog w) (A.under (.builtin "type.__call__" ⟨[.ref C], kw⟩)) (.call (.ref fI) ⟨[.ref (h.objs.size + 1)], kw⟩) (W.InitBack (h.objs.size + 1) R)
      ⟨(h.push (W.kdv_tup [])).push (excO C h.objs.size), g, d, t, os⟩) :
    codeAny (model prog w) A (.call (.ref C) ⟨[], kw⟩) R ⟨h, g, d, t, os⟩ := by
  have f1 := tc_lookup
  have f2 := tc_bind (.ref C)
  have hTy : (⟨h, g, d, t, os⟩ : Shared).TypeIs (.ref C) "type" := ⟨_, hC, rfl⟩
  refine codeAny_of_tree ?_
  show wpAny _ _ (callAny (.ref C) _) _ _ _
  repeat (any_goals (first | assumption | with_reducible refine wpAny_loadPart_at hC ?_ | wp_step))
  refine ⟨rfl, ?_⟩
  refine codeAny_call_builtin_at (Code.quiet_builtin _ (by decide +kernel)) entry_typeCall (wpAny_check_type_call_sub hC (type_call_kw F hT hC hi hb ?_))
  refine codeAny_mono hq fun r s' z => ?_
  rcases r with e | (v | _ | _ | _) <;> exact z
end
end XTK
end PySem

end

section
set_option maxRecDepth 100000
namespace PV
open PySem PySem.Spec PyProof.Rows L2
/-! ### raise C(e), by the mirror -/
/-- all that is known of the class with the number c -/
structure ErrK (P : Program) (w : World) (K : PySem.W.Frag) (mg : Str → Option Value) (base : Heap) (c : Nat) (C : Addr) : Prop where
  of : ClsOf K c C
  oex : OexE K C
  glob : mg (errName c) = some (.ref C)
  run : ∃ fI fd, PySem.W.findIn K (.ref C) "__init__" = some (some (.ref fI)) ∧ PySem.W.typeIn K (.ref fI) = some (.type "function") ∧ FnOk P w K mg base (L2.CX P w) 1 fI fd ["self", errFld c] (spI C (errFld c)) ∧ Binds K fd ["self", errFld c] [] ∧ (∀ u v : Value, bindArgs fd ⟨[u], [(errFld c, v)]⟩ = pure [(("self" : Str), u), (errFld c, v)])
def sRaise (c : Nat) (m : En → M D) : En → M Fl := fun env => andThen (m env) fun d => fun s => .exc c d s
section
variable {X : Cx} {dk l : Addr} {W : WX} {I0 H0 : Hp}
theorem p_raise {c : Nat} {C : Addr} {e : Expr} {m : En → M D} {x : Str} {p pos pos2 : Pos} (T : ErrK X.prog X.w X.K X.mg X.base c C) (hc : X.calm = true) (tk : Takes X W) (hr : Room 2 X.A) (hx : x = errName c) (hg : Gl X x) (h : PE X e (lift X.K dk l W m))
    (hdb : (x == ("__debug__" : Str)) = false := by decide) (he : starEach [e] X.env = (false, eval e X.env) :: starEach [] X.env := by rfl) (hpl : (backTo pos (starEach [] X.env)).any (·.1) = false := by rfl) :
    PS X (.Raise (some (.Call (.Name x p) [e] [] pos)) none pos2) (liftS X.K dk l W I0 H0 (sRaise c m)) := by
  obtain ⟨fI, fd, iC, tI, F1, hb, _⟩ := T.run
  have mk := pmk_oexE (pos := pos) (p := p) T.oex iC tI F1 hr hb hg (by rw [hx]; exact T.glob) h hdb he hpl
  refine PS_imp (ps_raise hc tk mk) fun D σ H ⟨I, env, s, k, q⟩ => ?_
  refine ⟨I, env, s, k.eok, k.wo, (q.bind).mono (fun d s1 q v I1 H1 x1 w1 r1 dd hdd => ?_) fun _ _ _ h => k.exq h⟩
  have n1 := Ext.new (o := .xd [(errFld c, v)]) w1 hdd
  have n2 := Wo.new (o := .xd [(errFld c, v)]) w1 hdd
  exact q σ (.ref C) (some dd) _ _ ((k.ext.trans x1 w1).trans n1 n2) n2 ⟨C, dd, v, rfl, T.of, rfl, upd_same, Rep.mono n1.grow d v r1⟩
end
end PV

end

section
set_option maxRecDepth 100000
namespace PV
open PySem PySem.Spec PyProof.Rows L2
/-! ### several clauses, each with the same name -/
def wManyAs (K : PySem.W.Frag) (i : Nat) (Wout : WX) (D : Ends) : List (Value × (Addr → Value → Option Addr → TS)) → WX
  | [] => Wout
  | (c, ts) :: r => fun cls d σ H => ∃ b, PySem.W.exmOne K cls c = some b ∧ (b = true → ∀ a, H a = none → ts a cls d { nx := fun σ' H' => D.nx (σ'.set i none) H', rt := D.rt, bk := fun σ' H' => D.bk (σ'.set i none) H', ct := fun σ' H' => D.ct (σ'.set i none) H' } (σ.set i (some (.ref a))) H) ∧
      (b = false → wManyAs K i Wout D r cls d σ H)
inductive HdsAs (X : Cx) (n : Str) : List ExceptHandler → List (Value × (Addr → Value → Option Addr → TS)) → Prop
  | nil : HdsAs X n [] []
  | cons {x : Str} {c : Value} {ts : Addr → Value → Option Addr → TS} {b₀ : Stmt} {suite : List Stmt} {np pos' : Pos} {hds : List ExceptHandler} {l : List (Value × (Addr → Value → Option Addr → TS))} (hc : Names X x c)
      (hsu : ∀ (a : Addr) (oe : Obj) (cls : Value) (d : Option Addr) (pn : List (Addr × Obj)), Zc cls d oe → (∃ vs, oe.data = .fields vs) → PSs (X.suite a ((a, oe) :: pn)) (b₀ :: suite) (ts a cls d)) (r : HdsAs X n hds l) :
      HdsAs X n (.ExceptHandler (some (.Name x np)) (some n) (b₀ :: suite) pos' :: hds) ((c, ts) :: l)
section
variable {X : Cx} {body : List Stmt} {h₀ : ExceptHandler} {hds : List ExceptHandler} {l : List (Value × (Addr → Value → Option Addr → TS))} {pos : Pos} {tb : WX → TS} {Wout : WX} {n : Str} {i : Nat}
theorem ps_try_manyAs (hs : X.stack = X.env :: X.outer) (hf : X.env.frame = some X.env.locals) (hN : X.N.Nodup) (hi : X.N[i]? = some n) (hln : X.env.kindOf n = some .local) (tk : Takes X Wout)
    (hb : ∀ (W : WX) (pn : List (Addr × Obj)) (xe : Value → Shared → Prop), Takes (X.tr pn xe) W → PassesOwn (model X.prog X.w) X.A X.env xe → PSs (X.tr pn xe) body (tb W))
    (hh : HdsAs X n (h₀ :: hds) l) : PS X (.Try body (h₀ :: hds) [] [] pos) (fun D σ H => tb (wManyAs X.K i Wout D l) D σ H) := by
  refine ⟨fun pins s σ H D I h => ?_⟩
  have ok := I.ok
  have hfr : X.A.frames = some (X.env :: X.outer) := by rw [ok.frames, hs]
  have hloc : Loc X.env.scope n := .inl hln
  refine wpAny_Try_except ?_
  refine wpAny_mono ((hb (wManyAs X.K i Wout D l) (X.pn ++ pins) (fun e s₁ => wpAny (model X.prog X.w) X.A (noteFrame e X.env) (fun _ s₂ => wpAny (model X.prog X.w) X.A (setFlight e none) (fun _ s₃ =>
    wpAny (model X.prog X.w) X.A (handleBy e X.env (h₀ :: hds)) (SP X pins D) X.xe s₃) X.xe s₂) X.xe s₁) (fun u s' xx => ?_) PassesOwn.looking).run [] s σ H D (I.toTry _) h) (fun f s1 hsp => ?_) (fun e s1 he => he)
  · -- the catch
    obtain ⟨a, B, sI, pins', σ', H', cls, d, rfl, J', nb, up, sky, na, os, ag, w⟩ := xx
    have J : Inv X pins σ' H' sI := J'.ofTry ok
    have sky' : Sky B (X.env :: X.outer) a (Zc cls d) X.env.locals s'.heap := by rw [← hs]; exact sky
    show wpAny (model X.prog X.w) X.A (noteFrame (.ref a) X.env) _ _ _
    refine Sky.land Zc.steady hfr hf sky' fun h3 fl3 up3 => ?_
    have J3 : Inv X pins σ' H' { s' with heap := h3 } := J.landed nb fl3.1 (up.trans up3) os ag
    obtain ⟨oe3, vs3, he3, hz3, hd3⟩ := fl3.there
    have notFr : ∀ {h : Heap} {o : Obj} {vs : Array Value}, h.FunFrames B (X.env :: X.outer) → h.get? a = some o → o.data = .fields vs → a ∉ frs (X.env :: X.outer) := fun {h o vs} ff e dd hm => by
      obtain ⟨_, o', e', hnf⟩ := ff.mem hm
      rw [e] at e'; cases e'
      exact hnf _ dd
    have nfr := notFr fl3.2.2.1 he3 hd3
    have nL : a ≠ X.env.locals := fun z => nfr (List.mem_filterMap.mpr ⟨X.env, List.mem_cons_self, by rw [hf, z]⟩)
    have nF : a ∉ X.fs := fun hm => by
      obtain ⟨e, he, q⟩ := List.mem_filterMap.mp hm
      exact nfr (List.mem_filterMap.mpr ⟨e, List.mem_cons_of_mem _ he, q⟩)
    have S3 := J3.suite he3 hd3 na nL nF
    have go : ∀ {hds' : List ExceptHandler} {l' : List (Value × (Addr → Value → Option Addr → TS))}, HdsAs X n hds' l' → wManyAs X.K i Wout D l' cls d σ' H' →
        wpAny (model X.prog X.w) X.A (handleBy (.ref a) X.env hds') (SP X pins D) X.xe { s' with heap := h3 } := by
      intro hds' l' hk
      induction hk with
      | nil =>
        intro w
        refine wpAny_handleBy_nil ?_
        obtain ⟨k1, k2, k3, oe, vs, T, oT, ts', he, hz, hd, h1, hr⟩ := id fl3
        unfold PySem.passOn
        refine wpAny_bind (wpAny_field he hd h1 ?_)
        rw [if_neg (show ¬ ((Value.ref T == Value.none) = true) from by simp)]
        have fin : wpAny (model X.prog X.w) X.A (setFlight (.ref a) X.env.frame) (fun _ s4 => wpAny (model X.prog X.w) X.A (throw (.ref a) : Sem Flow) (SP X pins D) X.xe s4) X.xe { s' with heap := h3 } := by
          rw [hf]
          refine HandSPX.setFlight_upZ fl3 fun h4 hh4 up4 => wpAny_throw (tk _ _ ?_)
          exact ⟨a, B, sI, pins, σ', H', cls, d, rfl, J, nb, (up.trans up3).trans up4, .inr (.inr (by rw [hs]; exact hh4)), na, os, ag, w⟩
        first
          | exact wpAny_bind (wpAny_pure (wpAny_bind fin))
          | exact wpAny_bind fin
      | @cons x c ts b₀ suite np pos' hds2 l2 hc hsu r ih =>
        intro w
        obtain ⟨b, hb1, hyes, hno⟩ := w
        refine wpAny_handleBy_cons (codeAny_handlers_test ?_) (by intro q; cases q)
        have LT : PySem.W.Looks (model X.prog X.w) h3 (typeOf (.ref a)) cls := fun A Q E s k q => wpAny_typeOf_ref (k _ _ he3) (by rw [hz3.1]; exact q)
        have LM := PySem.W.exm_one (M := model X.prog X.w) (J3.kIn) LT hb1
        have test : ∀ {Q : Value → Shared → Prop} {E : Value → Shared → Prop}, Q c { s' with heap := h3 } → wpAny (model X.prog X.w) (X.A.mark (some (.ref a))) (eval (.Name x np) X.env) Q E { s' with heap := h3 } := fun {Q E} q => by
          obtain ⟨hg, hdbg, hm | ⟨hm, hv, hnn⟩⟩ := hc
          · exact ld_glob (X := X.suite a ((a, oe3) :: (X.pn ++ pins))) S3 hg hm q hdbg
          · exact ld_blt (X := X.suite a ((a, oe3) :: (X.pn ++ pins))) S3 hg hm hv q hnn hdbg
        refine test (LM.here ?_)
        cases b with
        | true =>
          refine codeAny_handlers_suite_as ?_
          refine HandSPX.lands_againZ fl3 fun h4 fl4 up4 => ?_
          have J4 : Inv X pins σ' H' { s' with heap := h4 } := J.landed nb fl4.1 ((up.trans up3).trans up4) os ag
          obtain ⟨oe4, vs4, he4, hz4, hd4⟩ := fl4.there
          have S4 := J4.suite he4 hd4 na nL nF
          refine store_ok (X := X.suite a ((a, oe4) :: (X.pn ++ pins))) (v := .ref a) S4 hN hi hloc rfl (fun s5 S5 => ?_) (.inr hln)
          refine wpAny_mono ((hsu a oe4 cls d (X.pn ++ pins) hz4 ⟨_, hd4⟩).run [] s5 _ H' _ S5 (hyes rfl a na)) (fun f s6 hsp => ?_) (fun _ _ z => False.elim z)
          have end_ : ∀ {σ6 : L2.St} {H6 : Hp} {Q : Shared → Prop}, Inv (X.suite a ((a, oe4) :: (X.pn ++ pins))) [] σ6 H6 s6 → (∀ s7, Inv X pins (σ6.set i none) H6 s7 → Q s7) →
              wpAny (model X.prog X.w) X.A (do bindName X.env n .none; unbindBehindTheSuite X.env n pos') (fun _ s7 => Q s7) X.xe s6 := fun {σ6 H6 Q} S6 hq => gone_ok (S6.unsuite ok) hN hi hln hq
          cases f with
          | next =>
            obtain ⟨σ6, H6, S6, q6⟩ := hsp
            exact end_ S6 fun s7 J7 => ⟨_, _, J7, q6⟩
          | brk =>
            obtain ⟨σ6, H6, S6, q6⟩ := hsp
            exact end_ S6 fun s7 J7 => ⟨_, _, J7, q6⟩
          | cont =>
            obtain ⟨σ6, H6, S6, q6⟩ := hsp
            exact end_ S6 fun s7 J7 => ⟨_, _, J7, q6⟩
          | ret u =>
            obtain ⟨v6, σ6, H6, S6, r6, q6⟩ := hsp
            exact end_ S6 fun s7 J7 => ⟨_, _, _, J7, r6, q6⟩
        | false =>
          show wpAny _ X.A (handleBy (.ref a) X.env hds2) _ _ _
          exact ih (hno rfl)
    exact go hh w
  · cases f with
    | next =>
      obtain ⟨σ', H', J', q⟩ := hsp
      exact wpAny_execs_nil ⟨σ', H', J'.ofTry ok, q⟩
    | brk =>
      obtain ⟨σ', H', J', q⟩ := hsp
      exact ⟨σ', H', J'.ofTry ok, q⟩
    | cont =>
      obtain ⟨σ', H', J', q⟩ := hsp
      exact ⟨σ', H', J'.ofTry ok, q⟩
    | ret u =>
      obtain ⟨v, σ', H', J', r, q⟩ := hsp
      exact ⟨v, σ', H', J'.ofTry ok, r, q⟩
end
end PV

end

section
set_option maxRecDepth 100000
set_option maxHeartbeats 4000000
namespace PV
open PySem PySem.Spec PyProof.Rows L2
/-! ### which classes an error is of -/
theorem errName_fin : ∀ c c' : Fin 15, errName c.1 = errName c'.1 → c.1 = c'.1 := by decide +kernel
theorem errName_inj {c c' : Nat} (h : c < 15) (h' : c' < 15) (e : errName c = errName c') : c = c' := errName_fin ⟨c, h⟩ ⟨c', h'⟩ e
theorem cls_in {K : PySem.W.Frag} {c : Nat} {C : Addr} (h : ClsOf K c C) : ∃ SE cd, PySem.W.clsIn K C = some cd ∧ cd.mro = [.ref C, .ref SE, .type "Exception", .type "BaseException", .type "object"] ∧ cd.hasDict = true ∧ PySem.W.nsIn K mainGlobals "SightError" = some (some (.ref SE)) ∧ SE ≠ C ∧ cd.name = errName c := by
  obtain ⟨_, _, q, N, bs, SE, sn, sub, ab, col, dd, k0, k1, k2, k3, k5, hC, hS, hn⟩ := h
  refine ⟨SE, { name := errName c, bases := bs, mro := [.ref C, .ref SE, .type "Exception", .type "BaseException", .type "object"], ns := N, qualname := q, hasDict := true, slotNames := sn, subclasses := sub, abstract := ab, collection := col, hasDel := false }, ?_, rfl, rfl, hS, hn, rfl⟩
  unfold PySem.W.clsIn
  rw [hC] <;> rfl
theorem cls_same {K : PySem.W.Frag} {c : Nat} {C C' : Addr} (h : ClsOf K c C) (h' : ClsOf K c C') : C = C' := by
  have e := h.2.1
  rw [h'.2.1] at e
  injection e with e
  injection e with e
  injection e with e
  exact e.symm
theorem cls_ne {K : PySem.W.Frag} {c c' : Nat} {C C' : Addr} (h : ClsOf K c C) (h' : ClsOf K c' C') (n : c ≠ c') : C ≠ C' := fun z => by
  subst z
  obtain ⟨_, cd, e1, _, _, _, _, n1⟩ := cls_in h
  obtain ⟨_, cd', e2, _, _, _, _, n2⟩ := cls_in h'
  rw [e1] at e2
  cases e2
  exact n (errName_inj h.1 h'.1 (n1.symm.trans n2))
theorem cls_sub {K : PySem.W.Frag} {c c' : Nat} {C C' : Addr} (h : ClsOf K c C) (h' : ClsOf K c' C') : PySem.W.subIn K (.ref C) (.ref C') = some (decide (c = c')) := by
  obtain ⟨SE, cd, e1, e2, _, e3, e4, _⟩ := cls_in h
  obtain ⟨SE', _, _, _, _, e5, e6, _⟩ := cls_in h'
  rw [e3] at e5
  injection e5 with e5
  injection e5 with e5
  injection e5 with e5
  subst e5
  show PySem.W.mroIn K C (.ref C') = _
  unfold PySem.W.mroIn
  rw [e1, Option.bind_some, e2]
  by_cases hc : c = c'
  · subst hc
    rw [cls_same h h']
    simp
  · have hn := cls_ne h h' hc
    have hn' : ¬ C' = C := fun z => hn z.symm
    have hs' : ¬ C' = SE := fun z => e6 z.symm
    simp [hc, hn', hs']
theorem cls_subS {K : PySem.W.Frag} {c : Nat} {C SE : Addr} (h : ClsOf K c C) (hS : PySem.W.nsIn K mainGlobals "SightError" = some (some (.ref SE))) : PySem.W.subIn K (.ref C) (.ref SE) = some true ∧ C ≠ SE := by
  obtain ⟨SE', cd, e1, e2, _, e3, e4, _⟩ := cls_in h
  rw [hS] at e3
  injection e3 with e3
  injection e3 with e3
  injection e3 with e3
  subst e3
  refine ⟨?_, fun z => e4 z.symm⟩
  show PySem.W.mroIn K C (.ref SE) = _
  unfold PySem.W.mroIn
  rw [e1, Option.bind_some, e2]
  simp
/-- what is asked of a class when one of its errors is looked at -/
structure XcK (K : PySem.W.Frag) (C : Addr) : Prop where
  ga : PySem.W.findIn K (.ref C) "__getattribute__" = some (some (.builtin "BaseException.__getattribute__"))
  gg : PySem.W.findIn K (.ref C) "__getattr__" = some none
  exC : PySem.W.subIn K (.ref C) (.type "BaseException") = some true
  hdC : PySem.W.hasDictIn K C = true
  tyC : PySem.W.typeIn K (.ref C) = some (.type "type")
  cl : PySem.W.findIn K (.ref C) "__class__" = some (some (.builtin "object.__class__"))
  gs : PySem.W.specialIn K (.builtin "object.__class__") "__get__" = some (some (.builtin "getset_descriptor.__get__"))
  tk : PySem.W.takesIn K (.builtin "object.__class__") = some true
  hm : PySem.W.mroIn K C (.type "object") = some true
theorem exm_dec {K : PySem.W.Frag} {c c' : Nat} {C C' : Addr} (h : ClsOf K c C) (h' : ClsOf K c' C') (x' : XcK K C') : PySem.W.exmOne K (.ref C) (.ref C') = some (decide (c = c')) :=
  PySem.W.exm_ref x'.exC x'.hdC x'.tyC (cls_sub h h')
theorem kit_dec {K : PySem.W.Frag} {c c' : Nat} {C C' : Addr} (h : ClsOf K c C) (h' : ClsOf K c' C') (x' : XcK K C') : PySem.W.kitOne K (.ref C) (.ref C') = some (decide (c = c')) := by
  unfold PySem.W.kitOne
  by_cases hc : c = c'
  · subst hc
    rw [cls_same h h']
    simp
  · have hn := cls_ne h h' hc
    have e : (Value.ref C == Value.ref C') = false := by simp [hn]
    rw [e]
    obtain ⟨_, cd, e1, _⟩ := cls_in h'
    show PySem.W.kitCls K (.ref C) (.ref C') = _
    show (if ((PySem.W.clsIn K C').isSome && PySem.W.typeIn K (.ref C') == some (.type "type")) = true then PySem.W.subIn K (.ref C) (.ref C') else none) = _
    rw [if_pos (by rw [e1, x'.tyC]; rfl), cls_sub h h']
theorem kit_decS {K : PySem.W.Frag} {c : Nat} {C SE : Addr} (h : ClsOf K c C) (hS : PySem.W.nsIn K mainGlobals "SightError" = some (some (.ref SE))) (hc : (PySem.W.clsIn K SE).isSome = true) (ht : PySem.W.typeIn K (.ref SE) = some (.type "type")) : PySem.W.kitOne K (.ref C) (.ref SE) = some true := by
  obtain ⟨h1, h2⟩ := cls_subS h hS
  unfold PySem.W.kitOne
  have e : (Value.ref C == Value.ref SE) = false := by simp [h2]
  rw [e]
  show (if ((PySem.W.clsIn K SE).isSome && PySem.W.typeIn K (.ref SE) == some (.type "type")) = true then PySem.W.subIn K (.ref C) (.ref SE) else none) = _
  rw [if_pos (by rw [hc, ht]; rfl), h1]
/-! ### isinstance(e, C') of a caught error -/
def rIsX (K : PySem.W.Frag) (a C : Addr) (dd : Option Addr) : List V → Hp → VK → Prop := fun xs H Q => ∃ (C' : Addr) (b : Bool) (da : Addr) (fs : List (Str × V)), xs = [.ref a, .ref C'] ∧ dd = some da ∧ H da = some (.xd fs) ∧ PySem.W.kitOne K (.ref C) (.ref C') = some b ∧ Q (.bl b) H
theorem call_isX {X : Cx} {a C : Addr} {oe : Obj} {dd : Option Addr} (T : XcK X.K C) (hcl : (PySem.W.clsIn X.K C).isSome = true) (hp : (a, oe) ∈ X.pn) (hz : Zc (.ref C) dd oe) (hf : ∃ vs, oe.data = .fields vs) : CallR X (.builtin "isinstance") (rIsX X.K a C dd) := by
  intro pins s σ H xs us Q I r h
  obtain ⟨C', b, da, fs, rfl, rfl, hd, e, q⟩ := h
  cases r with
  | @cons _ u0 _ ur rx rr =>
  cases rr with
  | @cons _ u1 _ ur2 ry rr2 =>
  cases rr2
  obtain rfl : u0 = Value.ref a := rx
  obtain rfl : u1 = Value.ref C' := ry
  obtain ⟨hget, _⟩ := I.pin (a, oe) (List.mem_append_left _ hp)
  obtain ⟨vs, hv⟩ := hf
  have hx : ObjOk X.prog X.w H s.heap da (.xd fs) := I.hok da _ hd
  obtain ⟨od, hod⟩ := objOk_get hx
  have J : PySem.W.InstAt s.heap a oe C (some od) := by
    obtain ⟨oc, od', oda, osl⟩ := oe
    obtain ⟨h1, h2⟩ := hz
    dsimp only at h1 h2 hv
    subst h1 h2 hv
    exact ⟨hget, rfl, rfl, hod⟩
  exact PySem.W.kia_one (PySem.W.kitx_exc hcl T.ga T.gg T.exC T.cl T.gs T.tk T.hm) I.kIn J e (fun z => nomatch z) fun tk => ⟨.bl b, H, I.kept (t' := tk) fun _ _ z => z, rfl, q⟩
end PV

end

section
set_option maxRecDepth 100000
set_option maxHeartbeats 4000000
namespace PV
open PySem PySem.Spec PyProof.Rows L2
/-! ### a def that is called with a caught error -/
structure FnP (P : Program) (w : World) (K : PySem.W.Frag) (mg : Str → Option Value) (base : Heap) (k : Nat) (f : Addr) (fd : FuncData) (ps : List Str) (sp : Addr × Obj → Sp) : Prop where
  len : ∀ p vs H Q E, sp p vs H Q E → vs.length = ps.length
  run : ∀ (A : Around) (outer : List Env) (s : Shared) (H : Hp) (args : Args) (us : List Value) (vs : List V) (Q : VK) (E : XK) (p : Addr × Obj), L2H.RoomH k A → L2H.PinOk outer H s p → Env0 P w K mg base A outer s H → BindsTo s fd args (ps.zip us) → Vals vs us → sp p vs H Q E →
    codeAny (model P w) A (.call (.ref f) args) (CR (L2.CX P w) outer P w H s Q E) s
theorem fnp_of {P : Program} {w : World} {K : PySem.W.Frag} {mg : Str → Option Value} {base : Heap} {k : Nat} {x qual : Str} {st : Stmt} {f : Addr} {fd : FuncData} {N ps : List Str} {sp : Addr × Obj → Sp} (F : Fun K x qual st f fd) (S : FnScope N ps (defScope st))
    (len : ∀ p vs H Q E, sp p vs H Q E → vs.length = ps.length)
    (hbody : ∀ (cdv : Value) (A : Around) (outer : List Env) (s : Shared) (H : Hp) (vs : List V) (Q : VK) (E : XK) (p : Addr × Obj), L2H.RoomH k (A.deeper (envOfC qual (defScope st) s.heap.objs.size f cdv)) → sp p vs H Q E →
      ∃ t, PSs (L2H.cxH (L2.CX P w) P w K mg base N qual (defScope st) f cdv A outer s H E p) (defBody st) t ∧ t { nx := fun _ H' => Q .non H', rt := Q } (L2.start N vs) H) :
    FnP P w K mg base (k + 1) f fd ps sp := by
  obtain ⟨oc, od, kV, doc, pm, an, cdv, ct, osl, rfl, lk, hcd⟩ := F.ex
  refine ⟨len, fun A outer s H args us vs Q E p hr hpin e0 hb r hsp => ?_⟩
  have hl := len _ _ _ _ _ hsp
  have KX : K.In s.heap := e0.mod.kin.keeps fun b o e => (e0.bs b o e).1
  have lim : s.heap.NoLimit := e0.mod.nolimit.keeps fun b o e => (e0.bs b o e).1
  have hkind : ∀ y ∈ ps.zip us, (defScope st).names.lookup y.1 = some .local ∨ ((defScope st).names.lookup y.1 = some .cell ∧ ((cellsFrom (s.heap.objs.size + 1) (defScope st).names []).lookup y.1).isSome = true) := fun ⟨n, v⟩ hy => by
    rcases S.par n (List.of_mem_zip hy).1 with q | q
    · exact .inl q
    · exact .inr ⟨q, PySem.W.cellsFrom_some _ _ _ (.inl q)⟩
  refine codeAny_call_function hr.depth (KX _ _ lk) rfl S.co S.gen rfl (PySem.W.codeRec_of KX hcd) (hb _ _ _ _ ?_)
  refine wpAny_newFunctionEnv_cells S.kind hkind fun env he s1 x => ?_
  subst he
  refine ⟨lim.keeps x.toInCall.keep, codeAny_func ?_⟩
  obtain ⟨t, ht, hq⟩ := hbody cdv A outer s H vs Q E p (hr.deeper _) hsp
  have I : Inv (L2H.cxH (L2.CX P w) P w K mg base N qual (defScope st) f cdv A outer s H E p) [] (L2.start N vs) H s1 := L2H.inv_startH S hpin e0 hl r x
  refine wpAny_mono (ht.run [] s1 (L2.start N vs) H _ I hq) (fun fl s' hs => ?_) fun e s' hs => hs
  have fin : ∀ {σ' : L2.St} {H' : Hp} {v : V} {u : Value}, Inv (L2H.cxH (L2.CX P w) P w K mg base N qual (defScope st) f cdv A outer s H E p) [] σ' H' s' → RelV v u → Q v H' → CE outer P w H s Q u s' :=
    fun {σ' H' v u} J rv q => ⟨v, H', J.os, J.bare, J.base, J.hok, rv, q⟩
  cases fl with
  | ret u =>
    obtain ⟨v, σ', H', J, rv, q⟩ := hs
    exact fin J rv q
  | next =>
    obtain ⟨σ', H', J, q⟩ := hs
    exact fin (v := V.non) (u := Value.none) J rfl q
  | brk =>
    obtain ⟨_, _, _, q⟩ := hs
    exact False.elim q
  | cont =>
    obtain ⟨_, _, _, q⟩ := hs
    exact False.elim q
section
variable {X : Cx} {k : Nat} {f : Addr} {fd : FuncData} {ps : List Str} {sp : Addr × Obj → Sp} {x : Str} {q pos : Pos} {e : Expr} {es : List Expr} {t : TA} {p : Addr × Obj}
def tCallP (sp : Sp) (t : TA) : TE := fun σ H Q => t σ H fun vs H1 => sp vs H1 Q (fun _ _ _ => False)
theorem pe_callP (F : FnP X.prog X.w X.K X.mg X.base k f fd ps sp) (hr : L2H.RoomH k X.A) (hp : p ∈ X.pn) (hg : Gl X x) (hm : X.mg x = some (.ref f)) (hk : PySem.W.keepIn X.K (.ref f) = true) (hb : Binds X.K fd ps [])
    (ha : PA X (e :: es) t) (hdb : (x == ("__debug__" : Str)) = false := by decide) (he : starEach (e :: es) X.env = (false, eval e X.env) :: starEach es X.env := by rfl) (hpl : (backTo pos (starEach es X.env)).any (·.1) = false := by rfl) :
    PE X (.Call (.Name x q) (e :: es) [] pos) (tCallP (sp p) t) := by
  refine ⟨fun pins s σ H Q I h => ?_⟩
  refine wpAny_Call_Name_kw (ld_glob I hg hm ?_ hdb)
  refine PySem.W.callWith_K (h₀ := X.base) I.ok.mod.kin hk (thn (ha.run pos pins s σ H _ I h) fun us s1 ⟨vs, H1, I1, r, q⟩ => ⟨I1.kIn, ?_⟩) he hpl
  have hl : us.length = ps.length := by rw [← r.length]; exact F.len _ _ _ _ _ q
  have b := hb s1 us I1.kIn (by rw [List.append_nil]; exact hl)
  rw [List.append_nil] at b
  have P1 := I1.pin p (List.mem_append_left _ hp)
  have hpin : L2H.PinOk X.stack H1 s1 p := ⟨P1.1, P1.2.1, fun hm => (List.mem_cons.mp (I1.stkSub p.1 hm)).elim P1.2.2.1 P1.2.2.2.1, P1.2.2.2.2⟩
  show wpAny _ _ (call (.ref f) us) _ _ _
  refine wpAny_call (codeAny_mono (F.run X.A X.stack s1 H1 ⟨us, []⟩ us vs Q (fun _ _ _ => False) p hr hpin I1.env0 b r q) fun r s' hq => ?_)
  cases r with
  | error e => exact passL _ _ _ _ _ _ I1 hq
  | ok fl =>
    cases fl with
    | ret u => exact I1.after hq
    | next => exact False.elim hq
    | brk => exact False.elim hq
    | cont => exact False.elim hq
end
end PV

end

section
set_option maxRecDepth 100000
set_option maxHeartbeats 4000000
namespace PV
open PySem PySem.Spec PyProof.Rows L2
/-! ### [isinstance(e, C'), ..] -/
/-- of which of these classes an error of class c is; none: the base class -/
def kindsOf (ks : List (Option Nat)) (c : Nat) : List Bool := ks.map fun k => match k with
  | none => true
  | some c' => decide (c = c')
def tIs (i : Nat) (a da : Addr) (b : Bool) : TE := fun σ H Q => σ[i]? = some (some (.ref a)) ∧ (∃ fs, H da = some (.xd fs)) ∧ Q (.bl b) H
def tIss (i : Nat) (a da : Addr) (bs : List Bool) : TA := fun σ H Q => σ[i]? = some (some (.ref a)) ∧ (∃ fs, H da = some (.xd fs)) ∧ Q (bs.map V.bl) H
theorem boot_isinstance : bootBuiltins "isinstance" = some (.builtin "isinstance") := by kernel_rfl
section
variable {X : Cx} {i : Nat} {a C C' da : Addr} {oe : Obj} {b : Bool} {nm x : Str} {p1 p2 p3 pos : Pos}
theorem pe_isX (T : XcK X.K C) (hcl : (PySem.W.clsIn X.K C).isSome = true) (hp : (a, oe) ∈ X.pn) (hz : Zc (.ref C) (some da) oe) (hf : ∃ vs, oe.data = .fields vs) (hk : PySem.W.kitOne X.K (.ref C) (.ref C') = some b)
    (hg : Gl X "isinstance") (hm : X.mg "isinstance" = none) (hN : X.N[i]? = some nm) (hv : Vis X.env.scope nm) (hgx : Gl X x) (hmx : X.mg x = some (.ref C'))
    (hd : (nm == ("__debug__" : Str)) = false := by decide) (hcd : (nm == ("__classdict__" : Str)) = false := by decide) (hdx : (x == ("__debug__" : Str)) = false := by decide) :
    PE X (.Call (.Name "isinstance" p1) [.Name nm p2, .Name x p3] [] pos) (tIs i a da b) := by
  have h := pe_callB (pos := pos) (p := p1) (call_isX T hcl hp hz hf) hg hm boot_isinstance (pa_cons (pe_var (pos := p2) hN hv hd hcd) (pa_cons (pe_glob (v := .ref C') (pos := p3) hgx hmx rfl hdx) pa_nil))
  refine PE_imp h fun σ H Q ⟨h1, ⟨fs, h2⟩, q⟩ => ?_
  exact ⟨.ref a, h1, C', b, da, fs, rfl, rfl, h2, hk, q⟩
theorem pa_is_nil : PA X [] (tIss i a da []) := PA_imp pa_nil fun σ H Q ⟨_, _, q⟩ => q
theorem pa_is_cons {e : Expr} {es : List Expr} {bs : List Bool} (h : PE X e (tIs i a da b)) (hr : PA X es (tIss i a da bs)) (hs : starEach (e :: es) X.env = (false, eval e X.env) :: starEach es X.env := by rfl) : PA X (e :: es) (tIss i a da (b :: bs)) :=
  PA_imp (pa_cons h hr hs) fun σ H Q ⟨h1, h2, q⟩ => ⟨h1, h2, h1, h2, q⟩
end
/-! ### the promise of the def that tells the classes -/
def spKinds (K : PySem.W.Frag) (ks : List (Option Nat)) : Addr × Obj → Sp := fun p vs H Q _ => vs = [.ref p.1] ∧ ∃ (C : Addr) (c : Nat) (da : Addr) (fs : List (Str × V)), Zc (.ref C) (some da) p.2 ∧ (∃ vs, p.2.data = .fields vs) ∧ ClsOf K c C ∧ XcK K C ∧ H da = some (.xd fs) ∧
  ∀ (H' : Hp) (t : Addr), (∀ b o, H b = some o → H' b = some o) → H' t = none → Q (.ref t) (upd H' t (.lst ((kindsOf ks c).map V.bl)))
theorem fnp_kinds {P : Program} {w : World} {K : PySem.W.Frag} {mg : Str → Option Value} {base : Heap} {k : Nat} {x qual nm : Str} {st : Stmt} {f : Addr} {fd : FuncData} {N : List Str} {ks : List (Option Nat)} (F : Fun K x qual st f fd) (S : FnScope N [nm] (defScope st)) (hks : ks.length ≤ 1000)
    (body : ∀ (cdv : Value) (A : Around) (outer : List Env) (s : Shared) (H : Hp) (E : XK) (p : Addr × Obj) (C : Addr) (c : Nat) (da : Addr), Zc (.ref C) (some da) p.2 → (∃ vs, p.2.data = .fields vs) → ClsOf K c C → XcK K C → L2H.RoomH k (A.deeper (envOfC qual (defScope st) s.heap.objs.size f cdv)) →
      PSs (L2H.cxH (L2.CX P w) P w K mg base N qual (defScope st) f cdv A outer s H E p) (defBody st) (tRet (tLst (tIss 0 p.1 da (kindsOf ks c))))) :
    FnP P w K mg base (k + 1) f fd [nm] (spKinds K ks) := by
  refine fnp_of F S (fun p vs H Q E h => by rw [h.1]; rfl) fun cdv A outer s H vs Q E p hr hsp => ?_
  obtain ⟨ev, C, c, da, fs, hz, hf, hc, hx, hd, q⟩ := hsp
  subst ev
  refine ⟨_, body cdv A outer s H E p C c da hz hf hc hx hr, ?_⟩
  refine ⟨rfl, ⟨fs, hd⟩, ?_, fun t ht => q H t (fun _ _ e => e) ht⟩
  rw [List.length_map, sizeLine_eq]
  unfold kindsOf
  rw [List.length_map]
  omega
/-! ### the suite: return (word, e.thing, kinds(e)) -/
def tHd (K : PySem.W.Frag) (ks : List (Option Nat)) (i : Nat) (c : Nat) (wd : Str) (n : Nat) (a : Addr) (cls : Value) (d : Option Addr) : TS := fun D σ H => σ.length = n → ∃ (C da : Addr) (v : V), cls = .ref C ∧ d = some da ∧ ClsOf K c C ∧ σ[i]? = some (some (.ref a)) ∧ H da = some (.xd [(errFld c, v)]) ∧
  ∀ (H' : Hp) (t1 t2 : Addr), (∀ b o, H b = some o → H' b = some o) → H' t1 = none → upd H' t1 (.lst ((kindsOf ks c).map V.bl)) t2 = none → D.rt (.ref t2) (upd (upd H' t1 (.lst ((kindsOf ks c).map V.bl))) t2 (.tup [.str wd, v, .ref t1]))
section
variable {X : Cx} {i k c : Nat} {a C : Addr} {oe : Obj} {cls : Value} {d : Option Addr} {pn : List (Addr × Obj)} {nm x wd : Str} {ks : List (Option Nat)} {f : Addr} {fd : FuncData} {p1 p2 p3 p4 p5 p6 pos pos2 : Pos} {j : Nat} {x1 : Nat}
theorem ps_suite {fl : Str} (hfl : fl = errFld c) (hC : ClsOf X.K c C) (T : XcK X.K C) (hno : PySem.W.findIn X.K (.ref C) (errFld c) = some none) (F : FnP X.prog X.w X.K X.mg X.base k f fd [nm] (spKinds X.K ks)) (hr : L2H.RoomH k X.A) (hg : Gl X x) (hm : X.mg x = some (.ref f)) (hk : PySem.W.keepIn X.K (.ref f) = true) (hb : Binds X.K fd [nm] [])
    (hN : X.N[i]? = some nm) (hv : Vis X.env.scope nm) (hz : Zc cls d oe) (hf : ∃ vs, oe.data = .fields vs)
    (hd : (nm == ("__debug__" : Str)) = false := by decide) (hcd : (nm == ("__classdict__" : Str)) = false := by decide) (hdx : (x == ("__debug__" : Str)) = false := by decide) :
    PSs (X.suite a ((a, oe) :: pn)) [.Return (some (.Tuple [.Constant (.str wd) j p1, .Attribute (.Name nm p2) fl p3, .Call (.Name x p4) [.Name nm p5] [] p6] x1 pos)) pos2] (tHd X.K ks i c wd X.N.length a cls d) := by
  subst hfl
  by_cases hcC : cls = .ref C ∧ ∃ da, d = some da
  · obtain ⟨ecls, da, ed⟩ := hcC
    subst ecls
    subst ed
    have T' : XfC X.K C := ⟨T.ga, T.gg, T.exC, T.hdC⟩
    have hw : PE (X.suite a ((a, oe) :: pn)) (.Name nm p2) (tVar i) := pe_var hN hv hd hcd
    have hw5 : PE (X.suite a ((a, oe) :: pn)) (.Name nm p5) (tVar i) := pe_var hN hv hd hcd
    have h2 := pe_xf (pos := p3) T' hno hz hf hw
    have h3 : PE (X.suite a ((a, oe) :: pn)) (.Call (.Name x p4) [.Name nm p5] [] p6) (tCallP (spKinds X.K ks (a, oe)) (tCons (tVar i) tNil)) :=
      pe_callP (X := X.suite a ((a, oe) :: pn)) (p := (a, oe)) F ⟨hr.dp, hr.un⟩ List.mem_cons_self hg hm hk hb (pa_cons hw5 pa_nil) hdx
    refine ⟨fun pins s σ H D I h => (pss_one (ps_ret (pe_tup (pa_cons pe_str (pa_cons h2 (pa_cons h3 pa_nil)))))).run pins s σ H D I ?_⟩
    obtain ⟨C2, da2, v, e1, e2, hC2, hs, hd2, q⟩ := h I.len
    have e1' := Value.ref.inj e1
    subst e1'
    have e2' := Option.some.inj e2
    subst e2'
    refine ⟨.ref a, hs, rfl, rfl, da, _, v, rfl, hd2, by simp [List.lookup], ?_⟩
    refine ⟨.ref a, hs, rfl, C, c, da, _, hz, hf, hC2, T, hd2, fun H' t1 hk ht1 => ⟨?_, fun t2 ht2 => q H' t1 t2 hk ht1 ht2⟩⟩
    show 3 ≤ sizeLine
    rw [sizeLine_eq]; omega
  · refine ⟨fun pins s σ H Q I h => ?_⟩
    obtain ⟨C2, da, v, e1, e2, hC2, _⟩ := h I.len
    exact absurd ⟨by rw [e1, cls_same hC2 hC], da, e2⟩ hcC
end
end PV

end

section
set_option maxRecDepth 100000
set_option maxHeartbeats 4000000
namespace PV
open PySem PySem.Spec PyProof.Rows L2
/-! ### try, with clauses that return (word, e.thing, kinds(e)), by the mirror -/
def hdD (ks : List (Option Nat)) (wd : Str) (c : Nat) (d : D) : D := .tup [.str wd, d, .lst ((kindsOf ks c).map D.bl)]
def lkW : List (Nat × Addr × Str) → Nat → Option Str
  | [], _ => none
  | t :: r, c => if c = t.1 then some t.2.2 else lkW r c
def hsW (hs : List (Nat × Str)) (c : Nat) : Option Str := match hs with
  | [] => none
  | t :: r => if c = t.1 then some t.2 else hsW r c
def sTry (m : En → M Fl) (hs : List (Nat × Str)) (ks : List (Option Nat)) : En → M Fl := fun env s => match m env s with
  | .exc c d s' => match hsW hs c with
    | some wd => .ok (.rt (hdD ks wd c d)) s'
    | none => .exc c d s'
  | r => r
theorem RepL.bls {K : PySem.W.Frag} {I : Hp} {dk : Addr} : ∀ (bs : List Bool), RepL K I dk (bs.map D.bl) (bs.map V.bl)
  | [] => rfl
  | b :: bs => ⟨_, _, rfl, rfl, RepL.bls bs⟩
/-- the clauses, and what they tell -/
inductive HdsTell (X : Cx) (nm : Str) (i : Nat) (ks : List (Option Nat)) : List ExceptHandler → List (Nat × Str) → List (Value × (Addr → Value → Option Addr → TS)) → Prop
  | nil : HdsTell X nm i ks [] [] []
  | cons {x : Str} {c : Nat} {C : Addr} {wd : Str} {b₀ : Stmt} {suite : List Stmt} {np pos' : Pos} {hds : List ExceptHandler} {hs : List (Nat × Str)} {l : List (Value × (Addr → Value → Option Addr → TS))} (hC : ClsOf X.K c C) (T : XcK X.K C) (hc : Names X x (.ref C))
      (hsu : ∀ (a : Addr) (oe : Obj) (cls : Value) (d : Option Addr) (pn : List (Addr × Obj)), Zc cls d oe → (∃ vs, oe.data = .fields vs) → PSs (X.suite a ((a, oe) :: pn)) (b₀ :: suite) (tHd X.K ks i c wd X.N.length a cls d)) (r : HdsTell X nm i ks hds hs l) :
      HdsTell X nm i ks (.ExceptHandler (some (.Name x np)) (some nm) (b₀ :: suite) pos' :: hds) ((c, wd) :: hs) ((.ref C, tHd X.K ks i c wd X.N.length) :: l)
section
variable {X : Cx} {dk l : Addr} {W : WX} {I0 H0 : Hp} {i : Nat} {nm : Str} {ks : List (Option Nat)} {body : List Stmt} {h₀ : ExceptHandler} {hds : List ExceptHandler} {hs : List (Nat × Str)} {L : List (Value × (Addr → Value → Option Addr → TS))} {m : En → M Fl} {pos : Pos}
theorem HdsTell.as (h : HdsTell X nm i ks hds hs L) : HdsAs X nm hds L := by
  induction h with
  | nil => exact .nil
  | cons hC T hc hsu r ih => exact .cons hc hsu ih
theorem tell_ok {D : Ends} {c : Nat} {d : PV.D} {s' : Dk} (hi : i < X.N.length) (hks : ks.length ≤ 1000) (h : HdsTell X nm i ks hds hs L)
    (q : Post (match hsW hs c with | some wd => Res.ok (Fl.rt (hdD ks wd c d)) s' | none => .exc c d s') (fun f s1 => match f with | .rt d => ∀ v I' H', Ext dk l I0 H0 I' H' → Wo dk l I' H' s1 → Rep X.K I' dk d v → D.rt v H' | _ => False) (exS X.K dk l W I0 H0)) :
    exS X.K dk l (wManyAs X.K i W D L) I0 H0 c d s' := by
  intro σ' cls dd I' H' x w r
  obtain ⟨C, da, v, ec, hC, ed, hd, rv⟩ := r
  subst ec
  subst ed
  induction h with
  | nil => exact q σ' (.ref C) (some da) I' H' x w ⟨C, da, v, rfl, hC, rfl, hd, rv⟩
  | @cons x' c' C' wd b₀ suite np pos' hds hs L' hC' T hc hsu r ih =>
    refine ⟨decide (c = c'), exm_dec hC hC' T, fun hb a na hlen => ?_, fun hb => ?_⟩
    · have hcc : c = c' := of_decide_eq_true hb
      subst hcc
      have q' : ∀ v I' H', Ext dk l I0 H0 I' H' → Wo dk l I' H' s' → Rep X.K I' dk (hdD ks wd c d) v → D.rt v H' := by
        unfold hsW at q
        rw [if_pos rfl] at q
        exact q
      refine ⟨C, da, v, rfl, rfl, hC, List.getElem?_set_self (by rw [List.length_set] at hlen; omega), w.sub _ _ hd, fun H2 t1 t2 hkp h1 h2 => ?_⟩
      have w0 : Wo dk l I' H2 s' := ⟨fun b o e => hkp _ _ (w.sub _ _ e), hkp _ _ w.dko, hkp _ _ w.lft, w.idk, w.il⟩
      have x0 : Ext dk l I' H' I' H2 := ⟨Sm.refl I', fun b o e _ _ => hkp b o e, fun b o e n => by rw [e] at n; cases n⟩
      have y1 := Ext.new (o := .lst ((kindsOf ks c).map V.bl)) w0 h1
      have w1 := Wo.new (o := .lst ((kindsOf ks c).map V.bl)) w0 h1
      have y2 := Ext.new (o := .tup [.str wd, v, .ref t1]) w1 h2
      have w2 := Wo.new (o := .tup [.str wd, v, .ref t1]) w1 h2
      have n21 : t1 ≠ t2 := fun z => by
        subst z
        rw [upd_same] at h2
        cases h2
      refine q' (.ref t2) _ _ (((x.trans x0 w0).trans y1 w1).trans y2 w2) w2 ⟨t2, _, rfl, upd_same, _, _, rfl, rfl, _, _, rfl, Rep.mono y2.grow d v (Rep.mono y1.grow d v rv), _, _, rfl, ⟨t1, (kindsOf ks c).map V.bl, rfl, ?_, RepL.bls _⟩, rfl⟩
      rw [upd_ne n21, upd_same]
    · have hcc : c ≠ c' := fun z => by rw [decide_eq_true z] at hb; cases hb
      refine ih ?_
      unfold hsW at q
      rw [if_neg hcc] at q
      exact q
theorem p_try (h1 : X.stack = X.env :: X.outer) (h2 : X.env.frame = some X.env.locals) (hN : X.N.Nodup) (hi : X.N[i]? = some nm) (hln : X.env.kindOf nm = some .local) (tk : Takes X W) (hks : ks.length ≤ 1000)
    (hb : ∀ (W' : WX) (pn : List (Addr × Obj)) (xe : Value → Shared → Prop), Takes (X.tr pn xe) W' → PassesOwn (model X.prog X.w) X.A X.env xe → PSs (X.tr pn xe) body (liftS X.K dk l W' I0 H0 m))
    (hh : HdsTell X nm i ks (h₀ :: hds) hs L) : PS X (.Try body (h₀ :: hds) [] [] pos) (liftS X.K dk l W I0 H0 (sTry m hs ks)) := by
  refine PS_imp (ps_try_manyAs (tb := fun W' => liftS X.K dk l W' I0 H0 m) h1 h2 hN hi hln tk hb hh.as) fun D σ H ⟨I, env, s, k, q⟩ => ?_
  refine ⟨I, env, s, k, ?_⟩
  have hlt : i < X.N.length := (List.getElem?_eq_some_iff.mp hi).1
  unfold sTry at q
  cases e : m env s with
  | bad => rw [e] at q; exact q
  | ok f s1 => rw [e] at q; exact q
  | exc c d s1 =>
    rw [e] at q
    refine tell_ok hlt hks hh ?_
    have q' : Post (match hsW hs c with | some wd => Res.ok (Fl.rt (hdD ks wd c d)) s1 | none => .exc c d s1) (flP X.K dk l I0 H0 I D) (exS X.K dk l W I0 H0) := q
    cases e2 : hsW hs c with
    | none => rw [e2] at q'; exact q'
    | some wd => rw [e2] at q'; exact q'
end
end PV

end

section
set_option maxRecDepth 100000
set_option maxHeartbeats 4000000
namespace PV
open PySem PySem.Spec PyProof.Rows L2
/-! ### what the text tells of a class of errors -/
structure ErrT (P : Program) (K : PySem.W.Frag) (mg : Str → Option Value) (c : Nat) (C : Addr) : Prop where
  of : ClsOf K c C
  oex : OexE K C
  xc : XcK K C
  nof : PySem.W.findIn K (.ref C) (errFld c) = some none
  glob : mg (errName c) = some (.ref C)
  sup : mg "super" = none
  ini : ∃ (f : Addr) (fd : FuncData) (cc cda : Addr) (name qual msg : Str) (params : Arguments) (sc : Scope) (j : Nat) (p0 p1 p2 p3 p4 p5 p6 p7 p8 p9 : Pos), PySem.W.findIn K (.ref C) "__init__" = some (some (.ref f)) ∧ PySem.W.typeIn K (.ref f) = some (.type "function") ∧
    InitE P K C f cc cda name qual (errFld c) params (initBody msg (errFld c) j p0 p1 p2 p3 p4 p5 p6 p7 p8 p9) sc fd ∧ EvSup msg j p0 p1 p2 p3 p4 ∧
    (∀ env : Env, swapsWith (.Call (.Attribute (.Call (.Name "super" p0) [] [] p1) "__init__" p2) [.Constant (.str msg) j p3] [] p4) none p5.line env = pure false) ∧
    (∀ env : Env, swapsWith (.Name (errFld c) p8) (some (.Attribute (.Name "self" p6) (errFld c) p7)) p9.line env = pure false) ∧ Binds K fd ["self", errFld c] [] ∧ (∀ u v : Value, bindArgs fd ⟨[u], [(errFld c, v)]⟩ = pure [(("self" : Str), u), (errFld c, v)])
theorem errFld_ok (c : Nat) : (errFld c == ("__debug__" : Str)) = false ∧ (errFld c == ("__classdict__" : Str)) = false := by
  unfold errFld
  by_cases h : c = 14
  · rw [if_pos h]; decide +kernel
  · rw [if_neg h]; decide +kernel
theorem ErrT.err {P : Program} {K : PySem.W.Frag} {mg : Str → Option Value} {c : Nat} {C : Addr} (T : ErrT P K mg c C) (w : World) (base : Heap) : ErrK P w K mg base c C := by
  obtain ⟨f, fd, cc, cda, name, qual, msg, params, sc, j, p0, p1, p2, p3, p4, p5, p6, p7, p8, p9, h1, h2, h3, h4, h5, h6, h7⟩ := T.ini
  obtain ⟨e1, e2⟩ := errFld_ok c
  exact ⟨T.of, T.oex, T.glob, f, fd, h1, h2, init_ok h3 h4 h5 h6 T.sup e1 e2, h7⟩
theorem cls_some {K : PySem.W.Frag} {c : Nat} {C : Addr} (h : ClsOf K c C) : (PySem.W.clsIn K C).isSome = true := by
  obtain ⟨_, _, e, _⟩ := cls_in h
  rw [e]; rfl
/-- the base class -/
structure BaseT (K : PySem.W.Frag) (mg : Str → Option Value) (S : Addr) : Prop where
  ns : PySem.W.nsIn K mainGlobals "SightError" = some (some (.ref S))
  glob : mg "SightError" = some (.ref S)
  cls : (PySem.W.clsIn K S).isSome = true
  ty : PySem.W.typeIn K (.ref S) = some (.type "type")
end PV
namespace PV
open PySem PySem.Spec PyProof.Rows L2
theorem fng_bad {P : Program} {w : World} {K : PySem.W.Frag} {mg : Str → Option Value} {base : Heap} {k n : Nat} {f : Addr} {fd : FuncData} {ps : List Str} (h : ps.length = n) : FnG P w K mg base k f fd ps (spF K n (fun _ => bad)) :=
  ⟨fun vs H Q E q => by
    obtain ⟨_, _, _, _, ds, _, r, hn, _⟩ := q
    rw [h, ← hn, r.length], fun _ _ _ _ _ _ _ _ _ _ _ _ _ _ q => by
    obtain ⟨_, _, _, _, ds, _, r, hn, z⟩ := q
    exact z.elim⟩
end PV

end

section
set_option maxRecDepth 100000
set_option maxHeartbeats 4000000
namespace PV
open PySem PySem.Spec PyProof.Rows L2
theorem err_mk {P : Program} {K : PySem.W.Frag} {h : Heap} {mg : Str → Option Value} {c : Nat} {C SE : Addr} (X : K.In h) (G : h.Ns mainGlobals mg) (hc : c < 15) (n1 : PySem.W.nsIn K mainGlobals (errName c) = some (some (.ref C)))
    (hS : PySem.W.nsIn K mainGlobals "SightError" = some (some (.ref SE)))
    {q : Str} {N : Addr} {bs : List Value} {sn : List Str} {sub : List Value} {ab : Bool} {col : Option Bool} {dd : Option Addr} {k0 k1 k2 k3 k5 : Option Value}
    (hC : K.lookup C = some (excClassObj (errName c) q C N bs [.ref SE, .type "Exception", .type "BaseException", .type "object"] true sn sub ab col dd k0 k1 k2 k3 k5 "Exception.__new__")) (hne : (SE == C) = false)
    (sa : PySem.W.findIn K (.ref C) "__setattr__" = some (some (.builtin "object.__setattr__"))) (exC : PySem.W.subIn K (.ref C) (.type "BaseException") = some true) (tyC : PySem.W.typeIn K (.ref C) = some (.type "type")) (kC : PySem.W.keepIn K (.ref C) = true)
    (ga : PySem.W.findIn K (.ref C) "__getattribute__" = some (some (.builtin "BaseException.__getattribute__"))) (gg : PySem.W.findIn K (.ref C) "__getattr__" = some none) (hdC : PySem.W.hasDictIn K C = true)
    (cl : PySem.W.findIn K (.ref C) "__class__" = some (some (.builtin "object.__class__"))) (gs : PySem.W.specialIn K (.builtin "object.__class__") "__get__" = some (some (.builtin "getset_descriptor.__get__"))) (tk : PySem.W.takesIn K (.builtin "object.__class__") = some true)
    (hm : PySem.W.mroIn K C (.type "object") = some true) (nof : PySem.W.findIn K (.ref C) (errFld c) = some none)
    {f : Addr} (ini : PySem.W.findIn K (.ref C) "__init__" = some (some (.ref f))) (iniT : PySem.W.typeIn K (.ref f) = some (.type "function"))
    {oc dV kV doc pm ct : Value} {od an : Option Addr} {osl : Array (Option Value)} {name qual : Str} {params : Arguments} {body : List Stmt} {sc : Scope} {cc cda : Addr}
    (lk : K.lookup f = some ⟨oc, od, .func (PySem.W.fnX name qual params body sc [("__class__", cc)] dV kV doc pm an (.ref cda) ct), osl⟩) (code : PySem.W.codeIn K (.ref cda) qual = true)
    {ccl : Value} {cdd : Option Addr} {vs : Array Value} {ccs : Array (Option Value)} {fl : Str} {tf : Tok} (hcode : K.lookup cda = some ⟨ccl, cdd, .fields vs, ccs⟩) (hvs : vs[2]? = some (.str fl tf)) (hfile : ((P.main.file : Str) == fl) = true)
    {cl' : Value} {cld : Option Addr} {csl : Array (Option Value)} (hcell : K.lookup cc = some ⟨cl', cld, .cell (some (.ref C)), csl⟩) (sup : PySem.W.ks_superIn K C C "__init__" = some (some (.builtin "Exception.__init__")))
    (isE : PySem.W.subIn K (.ref C) (.type "Exception") = some true) (isC : PySem.W.mroIn K C (.ref C) = some true) (opq : PySem.W.nsIn K cStatics "thirdparty.any" = some none) (top : (P.main.scope.names.lookup ("super" : Str)).isSome = false) (sg : PySem.W.nsIn K mainGlobals "super" = some none)
    {msg : Str} {j : Nat} {p0 p1 p2 p3 p4 p5 p6 p7 p8 p9 : Pos} (hbody : body = initBody msg (errFld c) j p0 p1 p2 p3 p4 p5 p6 p7 p8 p9) {ar : Arg} (har : (params.posonlyargs ++ params.args).head? = some ar) (harn : ar.arg = "self")
    (sc1 : NdefX.nscB ["self", errFld c, "__class__"] ["self", errFld c] ["__class__"] sc = true) (sc2 : sc.names.lookup ("super" : Str) = some .globalImplicit) (hev : EvSup msg j p0 p1 p2 p3 p4)
    (hsw : ∀ env : Env, swapsWith (.Call (.Attribute (.Call (.Name "super" p0) [] [] p1) "__init__" p2) [.Constant (.str msg) j p3] [] p4) none p5.line env = pure false)
    (hsw2 : ∀ env : Env, swapsWith (.Name (errFld c) p8) (some (.Attribute (.Name "self" p6) (errFld c) p7)) p9.line env = pure false)
    (hb : ∀ u v : Value, bindArgs (PySem.W.fnX name qual params body sc [("__class__", cc)] dV kV doc pm an (.ref cda) ct) ⟨[u, v], []⟩ = pure [(("self" : Str), u), (errFld c, v)])
    (hbk : ∀ u v : Value, bindArgs (PySem.W.fnX name qual params body sc [("__class__", cc)] dV kV doc pm an (.ref cda) ct) ⟨[u], [(errFld c, v)]⟩ = pure [(("self" : Str), u), (errFld c, v)]) : ErrT P K mg c C := by
  have hSC : SE ≠ C := by simpa using hne
  have o : OexE K C := ⟨⟨_, _, _, _, _, _, _, _, _, _, _, _, _, _, _, hC, rfl⟩, sa, exC, tyC, kC⟩
  refine ⟨⟨hc, n1, q, N, bs, SE, sn, sub, ab, col, dd, k0, k1, k2, k3, k5, hC, hS, hSC⟩, o, ⟨ga, gg, exC, hdC, tyC, cl, gs, tk, hm⟩, nof, PySem.W.mg_of X G n1, PySem.W.mg_none_of X G sg, ?_⟩
  subst hbody
  refine ⟨f, _, cc, cda, name, qual, msg, params, sc, j, p0, p1, p2, p3, p4, p5, p6, p7, p8, p9, ini, iniT, ⟨o, ⟨oc, od, osl, dV, kV, doc, pm, an, ct, rfl, lk⟩, ⟨ar, har, harn⟩, code, ⟨ccl, cdd, vs, ccs, fl, tf, hcode, hvs, hfile⟩, ⟨cl', cld, csl, hcell⟩, sup, isE, isC, opq, nof, top, sc1, sc2⟩, hev, hsw, hsw2, ?_⟩
  exact ⟨.all fun us hl => match us, hl with
    | [u, v], _ => hb u v, hbk⟩
end PV

end

section
set_option maxRecDepth 100000
set_option maxHeartbeats 4000000
namespace PV
open PySem PySem.Spec PyProof.Rows L2
/-! ### the other form: found = [..]; return found + [..] -/
def tK2 (i j : Nat) (a da : Addr) (bs cs : List Bool) : TS := fun D σ H => σ[i]? = some (some (.ref a)) ∧ i ≠ j ∧ j < σ.length ∧ (∃ fs, H da = some (.xd fs)) ∧ bs.length + cs.length ≤ 1000 ∧
  ∀ t1 t2 t3, H t1 = none → upd H t1 (.lst (bs.map V.bl)) t2 = none → upd (upd H t1 (.lst (bs.map V.bl))) t2 (.lst (cs.map V.bl)) t3 = none →
    D.rt (.ref t3) (upd (upd (upd H t1 (.lst (bs.map V.bl))) t2 (.lst (cs.map V.bl))) t3 (.lst ((bs ++ cs).map V.bl)))
section
variable {X : Cx} {i j : Nat} {a da : Addr} {bs cs : List Bool} {es fs : List Expr} {nm : Str} {p1 p2 p3 p4 p5 p6 p7 : Pos}
theorem ps_kinds2 (h1 : PA X es (tIss i a da bs)) (h2 : PA X fs (tIss i a da cs)) (hN : X.N.Nodup) (hj : X.N[j]? = some nm) (hl : X.env.scope.names.lookup nm = some .local)
    (hd : (nm == ("__debug__" : Str)) = false := by decide) (hcd : (nm == ("__classdict__" : Str)) = false := by decide)
    (hs : swapsWith (.List es p1) (some (.Name nm p2)) p3.line X.env = pure false := by rfl) :
    PSs X [.Assign [.Name nm p2] (.List es p1) p3, .Return (some (.BinOp (.Name nm p4) .Add (.List fs p5) p6)) p7] (tK2 i j a da bs cs) := by
  have hv : Vis X.env.scope nm := .inl hl
  refine PSs_imp (pss_cons (ps_set hN hj (.inl hl) (pe_lst h1) hs (.inr hl)) (pss_one (ps_ret (pe_op op_cat (pe_var hj hv hd hcd) (pe_lst h2))))) fun D σ H ⟨hi, hij, hjl, ⟨xs, hx⟩, hz, q⟩ => ?_
  have hz1 : (bs.map V.bl).length ≤ sizeLine := by rw [List.length_map, sizeLine_eq]; omega
  have hz2 : (cs.map V.bl).length ≤ sizeLine := by rw [List.length_map, sizeLine_eq]; omega
  refine ⟨hi, ⟨xs, hx⟩, hz1, fun t1 n1 => ?_⟩
  have k1 : upd H t1 (.lst (bs.map V.bl)) da = some (.xd xs) := by rw [upd_ne (ne_of_none hx n1)]; exact hx
  refine ⟨.ref t1, List.getElem?_set_self hjl, ?_⟩
  refine ⟨by rw [List.getElem?_set_ne (Ne.symm hij)]; exact hi, ⟨xs, k1⟩, hz2, fun t2 n2 => ?_⟩
  have k2 : upd (upd H t1 (.lst (bs.map V.bl))) t2 (.lst (cs.map V.bl)) t1 = some (.lst (bs.map V.bl)) := by
    rw [upd_ne (fun z => by rw [← z, upd_same] at n2; cases n2), upd_same]
  refine ⟨t1, t2, bs.map V.bl, cs.map V.bl, rfl, rfl, k2, upd_same, ?_, fun t3 n3 => ?_⟩
  · rw [List.length_map, List.length_map]
    rw [sizeLine_eq]; omega
  · have := q t1 t2 t3 n1 n2 n3
    rw [List.map_append] at this
    exact this
end
theorem fnp_kinds2 {P : Program} {w : World} {K : PySem.W.Frag} {mg : Str → Option Value} {base : Heap} {k : Nat} {x qual nm fnd : Str} {st : Stmt} {f : Addr} {fd : FuncData} {ks1 ks2 : List (Option Nat)} (F : Fun K x qual st f fd) (S : FnScope [nm, fnd] [nm] (defScope st)) (hks : ks1.length + ks2.length ≤ 1000)
    (body : ∀ (cdv : Value) (A : Around) (outer : List Env) (s : Shared) (H : Hp) (E : XK) (p : Addr × Obj) (C : Addr) (c : Nat) (da : Addr), Zc (.ref C) (some da) p.2 → (∃ vs, p.2.data = .fields vs) → ClsOf K c C → XcK K C → L2H.RoomH k (A.deeper (envOfC qual (defScope st) s.heap.objs.size f cdv)) →
      PSs (L2H.cxH (L2.CX P w) P w K mg base [nm, fnd] qual (defScope st) f cdv A outer s H E p) (defBody st) (tK2 0 1 p.1 da (kindsOf ks1 c) (kindsOf ks2 c))) :
    FnP P w K mg base (k + 1) f fd [nm] (spKinds K (ks1 ++ ks2)) := by
  refine fnp_of F S (fun p vs H Q E h => by rw [h.1]; rfl) fun cdv A outer s H vs Q E p hr hsp => ?_
  obtain ⟨ev, C, c, da, fs, hz, hf, hc, hx, hd, q⟩ := hsp
  subst ev
  refine ⟨_, body cdv A outer s H E p C c da hz hf hc hx hr, rfl, by decide, by show 1 < 2; decide, ⟨fs, hd⟩, ?_, fun t1 t2 t3 n1 n2 n3 => ?_⟩
  · unfold kindsOf
    rw [List.length_map, List.length_map]
    exact hks
  · have e : kindsOf (ks1 ++ ks2) c = kindsOf ks1 c ++ kindsOf ks2 c := by unfold kindsOf; rw [List.map_append]
    rw [← e]
    refine q _ t3 (fun b o h => ?_) n3
    rw [upd_ne (ne_of_none (H := upd H t1 (.lst ((kindsOf ks1 c).map V.bl))) (by rw [upd_ne (ne_of_none h n1)]; exact h) n2), upd_ne (ne_of_none h n1)]
    exact h
end PV

end

section
set_option maxRecDepth 100000
set_option maxHeartbeats 4000000
namespace PV
open PySem PySem.Spec PyProof.Rows L2
/-! ### errors as values -/
section
variable {X : Cx} {pins : List (Addr × Obj)} {σ : L2.St} {C fI : Addr} {k : Nat} {fd : FuncData} {fld : Str}
/-- C(e) or C(field = e): what stands behind the call -/
theorem made0 {H1 : Hp} {hp : Heap} {g : Array GenState} {dr : Drawn} {tk : Nat} {os : OsState} {us : List Value} {kw : List (Str × Value)} {u : Value} {v : V} {Q : Value → Shared → Prop} (T : OexE X.K C)
    (iC : PySem.W.findIn X.K (.ref C) "__init__" = some (some (.ref fI))) (tI : PySem.W.typeIn X.K (.ref fI) = some (.type "function"))
    (F1 : FnOk X.prog X.w X.K X.mg X.base (L2.CX X.prog X.w) k fI fd ["self", fld] (spI C fld)) (hr : Room (k + 1) X.A) (ru : RelV v u)
    (hb : ∀ (s : Shared) (a : Addr), X.K.In s.heap → BindsTo s fd ⟨.ref a :: us, kw⟩ ((["self", fld] : List Str).zip [Value.ref a, u])) (hcase : (kw = [] ∧ us.length ≤ sizeLine) ∨ us = [])
    (I1 : Inv X pins σ H1 ⟨hp, g, dr, tk, os⟩)
    (q : ∀ (h2 : Heap) (g2 : Array GenState) (d2 : Drawn) (t2 : Nat) (os2 : OsState) (d : Addr), os2 = os → AllBare g2 → H1 (hp.objs.size + 1) = none → H1 d = none → d ≠ hp.objs.size + 1 →
      Un (frs X.stack) [] (upd H1 (hp.objs.size + 1) (exo (hp.objs.size + 1) C none)) (upd (upd H1 d (exd d [(fld, v)])) (hp.objs.size + 1) (exo (hp.objs.size + 1) C (some d))) ((hp.push (PySem.W.kdv_tup us)).push (PySem.HandSPX.excO C hp.objs.size)) h2 →
      HOk X.prog X.w (upd (upd H1 d (exd d [(fld, v)])) (hp.objs.size + 1) (exo (hp.objs.size + 1) C (some d))) h2 →
      Inv X pins σ (upd (upd H1 d (exd d [(fld, v)])) (hp.objs.size + 1) (exo (hp.objs.size + 1) C (some d))) ⟨h2, g2, d2, t2, os2⟩ → Q (.ref (hp.objs.size + 1)) ⟨h2, g2, d2, t2, os2⟩) :
    wpAny (model X.prog X.w) X.A (call (.ref C) us kw) Q X.xe ⟨hp, g, dr, tk, os⟩ := by
  obtain ⟨nm, q', N, bs, bm, sn, sub, ab, col, dd, k0, k1, k2, k3, k5, hC, hbm⟩ := T.cls
  have hsz : hp.objs.size ≤ hp.objs.size + 1 := Nat.le_succ _
  have hn : H1 (hp.objs.size + 1) = none := I1.hok.fresh hsz
  have kk : ∀ b o, hp.get? b = some o → ((hp.push (PySem.W.kdv_tup us)).push (PySem.HandSPX.excO C hp.objs.size)).get? b = some o := fun b o e => Heap.get?_push_of_some _ (Heap.get?_push_of_some _ e)
  have hget : ((hp.push (PySem.W.kdv_tup us)).push (PySem.HandSPX.excO C hp.objs.size)).get? (hp.objs.size + 1) = some (PySem.HandSPX.excO C hp.objs.size) := by heap_get
  have I2 : Inv X pins σ (upd H1 (hp.objs.size + 1) (exo (hp.objs.size + 1) C none)) ⟨(hp.push (PySem.W.kdv_tup us)).push (PySem.HandSPX.excO C hp.objs.size), g, dr, tk, os⟩ :=
    I1.laid (t' := tk) (a := hp.objs.size + 1) (o := exo (hp.objs.size + 1) C none) (h' := (hp.push (PySem.W.kdv_tup us)).push (PySem.HandSPX.excO C hp.objs.size)) kk hsz (exo_ok hget)
  have hx : Passes (L2.CX X.prog X.w) X (fun _ _ _ => False) := passL
  have r2 : Vals [V.ref (hp.objs.size + 1), v] [Value.ref (hp.objs.size + 1), u] := .cons rfl (.cons ru .nil)
  have hq : spI C fld [V.ref (hp.objs.size + 1), v] (upd H1 (hp.objs.size + 1) (exo (hp.objs.size + 1) C none)) (fun x H2 => x = .non ∧ ∃ d, H2 = upd (upd H1 d (exd d [(fld, v)])) (hp.objs.size + 1) (exo (hp.objs.size + 1) C (some d)) ∧ H1 d = none ∧ d ≠ hp.objs.size + 1) (fun _ _ _ => False) := by
    refine ⟨_, v, rfl, upd_same, fun d hd1 hd2 => ?_⟩
    rw [upd_ne hd2] at hd1
    refine ⟨rfl, d, ?_, hd1, hd2⟩
    funext b
    by_cases hb2 : b = hp.objs.size + 1
    · rw [hb2, upd_same, upd_same]
    · rw [upd_ne hb2, upd_ne hb2]
      by_cases hb3 : b = d
      · rw [hb3, upd_same, upd_same]
      · rw [upd_ne hb3, upd_ne hb2, upd_ne hb3]
  have run := F1.run _ X.stack _ _ ⟨Value.ref (hp.objs.size + 1) :: us, kw⟩ [Value.ref (hp.objs.size + 1), u] _ _ (fun _ _ _ => False) (hr.make C us kw) (I2.env0.make C us kw) (hb _ _ I2.kIn) r2 hq
  have fin : ∀ (r : Result) (s' : Shared), CR (L2.CX X.prog X.w) X.stack X.prog X.w (upd H1 (hp.objs.size + 1) (exo (hp.objs.size + 1) C none)) ⟨(hp.push (PySem.W.kdv_tup us)).push (PySem.HandSPX.excO C hp.objs.size), g, dr, tk, os⟩
      (fun x H2 => x = .non ∧ ∃ d, H2 = upd (upd H1 d (exd d [(fld, v)])) (hp.objs.size + 1) (exo (hp.objs.size + 1) C (some d)) ∧ H1 d = none ∧ d ≠ hp.objs.size + 1) (fun _ _ _ => False) r s' →
      PySem.W.InitBack (hp.objs.size + 1) (fun r s' => match r with | .ok (.ret x) => Q x s' | .ok _ => False | .error e => X.xe e s') r s' := fun r s' hq' => by
    cases r with
    | error er => exact hx pins σ _ _ er s' I2 hq'
    | ok fl =>
      cases fl with
      | ret x =>
        obtain ⟨x', H2, os2, bare2, un2, hok2, rv, ev, d, eH, hd1, hd2⟩ := hq'
        subst ev
        subst eH
        obtain ⟨h2, g2, d2, t2, os'⟩ := s'
        exact ⟨rv, q h2 g2 d2 t2 os' d os2 bare2 hn hd1 hd2 un2 hok2 (I2.call' os2 un2 hok2 bare2 (fun b hb => by cases hb))⟩
      | next => exact False.elim hq'
      | brk => exact False.elim hq'
      | cont => exact False.elim hq'
  rcases hcase with ⟨e1, hus⟩ | e1
  · subst e1
    exact wpAny_call (codeAny_mono (PySem.HandSPX.call_own F.excBase_Exception (fun Y => PySem.XT2.refsE_contains Y bm hbm) (I1.kIn _ _ hC) (PySem.W.looks_findIn I1.kIn iC) (fun self => PySem.W.bind_fn I1.kIn self tI) hus (codeAny_mono run fin)) fun r s' z => z)
  · subst e1
    exact wpAny_call (codeAny_mono (PySem.XTK.call_kw F.excBase_Exception (fun Y => PySem.XT2.refsE_contains Y bm hbm) (I1.kIn _ _ hC) (PySem.W.looks_findIn I1.kIn iC) (fun self => PySem.W.bind_fn I1.kIn self tI) (codeAny_mono run fin)) fun r s' z => z)
end
section
variable {X : Cx} {dk l : Addr} {W : WX} {I0 H0 : Hp} {pos p : Pos} {c : Nat} {C : Addr}
theorem rep_mk {K : PySem.W.Frag} {I1 H1 : Hp} {s1 : Dk} {x : D} {v : V} {a d : Addr} (w1 : Wo dk l I1 H1 s1) (ha : H1 a = none) (hd : H1 d = none) (hne : d ≠ a) (hC : ClsOf K c C) (r : Rep K I1 dk x v) :
    ∃ I', Ext dk l I1 H1 I' (upd (upd H1 d (exd d [(errFld c, v)])) a (exo a C (some d))) ∧ Wo dk l I' (upd (upd H1 d (exd d [(errFld c, v)])) a (exo a C (some d))) s1 ∧ Rep K I' dk (.exc c x) (.ref a) := by
  have x1 := Ext.new (o := exd d [(errFld c, v)]) w1 hd
  have w2 := Wo.new (o := exd d [(errFld c, v)]) w1 hd
  have ha' : upd H1 d (exd d [(errFld c, v)]) a = none := by rw [upd_ne hne.symm]; exact ha
  have x2 := Ext.new (o := exo a C (some d)) w2 ha'
  have w3 := Wo.new (o := exo a C (some d)) w2 ha'
  exact ⟨_, x1.trans x2 w3, w3, a, C, d, v, rfl, hC, upd_same, by rw [upd_ne hne, upd_same], Rep.mono x2.grow _ _ (Rep.mono x1.grow _ _ r)⟩
def eMk (c : Nat) (m : En → M D) : En → M D := fun env => andThen (m env) fun d => ret (.exc c d)
theorem Post.cons1 {m : En → M D} {env : En} {s : Dk} {P : List D → Dk → Prop} {E : Nat → D → Dk → Prop} (h : Post (m env s) (fun d s1 => P [d] s1) E) : Post (eAcons m eAnil env s) P E := by
  show Post (andThen (m env) (fun x => andThen (eAnil env) fun xs => ret (x :: xs)) s) P E
  unfold andThen
  cases z : m env s with
  | bad => rw [z] at h; exact h
  | ok d s1 => rw [z] at h; exact h
  | exc c d s1 => rw [z] at h; exact h
theorem r_mk {e : Expr} {m : En → M D} {x : Str} (T : ErrK X.prog X.w X.K X.mg X.base c C) (hr : Room 2 X.A) (hx : x = errName c) (hg : Gl X x) (h : PE X e (lift X.K dk l W m))
    (hdb : (x == ("__debug__" : Str)) = false := by decide) (he : starEach [e] X.env = (false, eval e X.env) :: starEach [] X.env := by rfl) (hpl : (backTo pos (starEach [] X.env)).any (·.1) = false := by rfl) :
    PE X (.Call (.Name x p) [e] [] pos) (lift X.K dk l W (eMk c m)) := by
  refine ⟨fun pins z σ H Q J hq => ?_⟩
  obtain ⟨I, env, s, k1, w1, q⟩ := hq
  obtain ⟨fI, fd, iC, tI, F1, hb, _⟩ := T.run
  have ha : PA X [e] (liftA X.K dk l W (eAcons m eAnil)) := r_acons h r_anil he
  refine wpAny_Call_Name_kw (ld_glob J hg (by rw [hx]; exact T.glob) ?_ hdb)
  have rd : liftA X.K dk l W (eAcons m eAnil) σ H (fun vs H1 => ∃ v, vs = [v] ∧ ∀ a d, H1 a = none → H1 d = none → d ≠ a → Q (.ref a) (upd (upd H1 d (exd d [(errFld c, v)])) a (exo a C (some d)))) := by
    refine ⟨I, env, s, k1, w1, Post.cons1 (q.bind.mono (fun x s1 q vs I1 H1 x1 w2 r1 => ?_) fun _ _ _ h => h)⟩
    obtain ⟨v, r, rfl, r2, r3⟩ := r1
    have r3' : r = [] := r3
    subst r3'
    refine ⟨v, rfl, fun a d ha hd hne => ?_⟩
    obtain ⟨I', x2, w3, r4⟩ := rep_mk w2 ha hd hne T.of r2
    exact q _ I' _ (x1.trans x2 w3) w3 r4
  refine PySem.W.callWith_K (h₀ := X.base) J.ok.mod.kin T.oex.kC (thn (ha.run pos pins z σ H _ J rd) fun us s1 ⟨vs, H1, I1, r1, v, ev, q1⟩ => ⟨I1.kIn, ?_⟩) he hpl
  subst ev
  cases r1 with
  | @cons _ u _ ur ru rr =>
  cases rr
  obtain ⟨hp, g, dr, tk, os⟩ := s1
  show wpAny _ _ (call (.ref C) [u]) _ _ _
  refine made0 T.oex iC tI F1 hr ru (fun s a kin => ?_) (.inl ⟨rfl, by rw [sizeLine_eq]; show 1 ≤ _; omega⟩) I1 fun h2 g2 d2 t2 os2 d e1 e2 n1 n2 n3 un ok J2 => ⟨.ref (hp.objs.size + 1), _, J2, rfl, q1 _ d n1 n2 n3⟩
  have bb := hb s [Value.ref a, u] kin (by rfl)
  rw [List.append_nil] at bb
  exact bb
theorem r_mkK {kws : List Keyword} {m : En → M D} {x fld : Str} (T : ErrK X.prog X.w X.K X.mg X.base c C) (hr : Room 2 X.A) (hx : x = errName c) (hf : fld = errFld c) (hg : Gl X x) (ha : PK X kws (liftA X.K dk l W (eAcons m eAnil)))
    (hks : (backToKw pos (keywordEach kws X.env)).filterMap (·.1) = [fld] := by rfl) (hall : (backToKw pos (keywordEach kws X.env)).all (·.1.isSome) = true := by rfl) (hdb : (x == ("__debug__" : Str)) = false := by decide)
    (hpl : ((backTo pos (starEach [] X.env)).any (·.1) || (backToKw pos (keywordEach kws X.env)).any (·.1.isNone)) = false := by rfl) :
    PE X (.Call (.Name x p) [] kws pos) (lift X.K dk l W (eMk c m)) := by
  refine ⟨fun pins z σ H Q J hq => ?_⟩
  obtain ⟨I, env, s, k1, w1, q⟩ := hq
  obtain ⟨fI, fd, iC, tI, F1, _, hb⟩ := T.run
  subst hf
  refine wpAny_Call_Name_kw (ld_glob J hg (by rw [hx]; exact T.glob) ?_ hdb)
  have rd : liftA X.K dk l W (eAcons m eAnil) σ H (fun vs H1 => ∃ v, vs = [v] ∧ ∀ a d, H1 a = none → H1 d = none → d ≠ a → Q (.ref a) (upd (upd H1 d (exd d [(errFld c, v)])) a (exo a C (some d)))) := by
    refine ⟨I, env, s, k1, w1, Post.cons1 (q.bind.mono (fun x s1 q vs I1 H1 x1 w2 r1 => ?_) fun _ _ _ h => h)⟩
    obtain ⟨v, r, rfl, r2, r3⟩ := r1
    have r3' : r = [] := r3
    subst r3'
    refine ⟨v, rfl, fun a d ha hd hne => ?_⟩
    obtain ⟨I', x2, w3, r4⟩ := rep_mk w2 ha hd hne T.of r2
    exact q _ I' _ (x1.trans x2 w3) w3 r4
  refine PySem.W.callWith_KW0 (h₀ := X.base) J.ok.mod.kin T.oex.kC hall (thn (ha.run pos pins z σ H _ J rd) fun us s1 ⟨vs, H1, I1, r1, v, ev, q1⟩ => ⟨I1.kIn, ?_⟩) hpl
  rw [hks]
  subst ev
  cases r1 with
  | @cons _ u _ ur ru rr =>
  cases rr
  obtain ⟨hp, g, dr, tk, os⟩ := s1
  show wpAny _ _ (call (.ref C) [] [(errFld c, u)]) _ _ _
  exact made0 T.oex iC tI F1 hr ru (fun s a kin => .of_eq (hb _ _)) (.inr rfl) I1 fun h2 g2 d2 t2 os2 d e1 e2 n1 n2 n3 un ok J2 => ⟨.ref (hp.objs.size + 1), _, J2, rfl, q1 _ d n1 n2 n3⟩
/-! ### raise C(f = e) -/
def tMkW (C : Addr) (fld : Str) (t : TA) : L2.St → Hp → XK → Prop := fun σ H Q => t σ H fun vs H1 => ∃ v, vs = [v] ∧ ∀ d, H1 d = none → Q (.ref C) (some d) (upd H1 d (.xd [(fld, v)]))
theorem pmk_kw {kws : List Keyword} {x : Str} {t : TA} (T : ErrK X.prog X.w X.K X.mg X.base c C) (hr : Room 2 X.A) (hx : x = errName c) (hg : Gl X x) (ha : PK X kws t)
    (hks : (backToKw pos (keywordEach kws X.env)).filterMap (·.1) = [errFld c]) (hall : (backToKw pos (keywordEach kws X.env)).all (·.1.isSome) = true := by rfl) (hdb : (x == ("__debug__" : Str)) = false := by decide)
    (hpl : ((backTo pos (starEach [] X.env)).any (·.1) || (backToKw pos (keywordEach kws X.env)).any (·.1.isNone)) = false := by rfl) :
    PMk X (.Call (.Name x p) [] kws pos) (tMkW C (errFld c) t) := by
  intro pins z σ H Q J hq
  obtain ⟨fI, fd, iC, tI, F1, _, hb⟩ := T.run
  refine wpAny_Call_Name_kw (ld_glob J hg (by rw [hx]; exact T.glob) ?_ hdb)
  refine PySem.W.callWith_KW0 (h₀ := X.base) J.ok.mod.kin T.oex.kC hall (thn (ha.run pos pins z σ H _ J hq) fun us s1 ⟨vs, H1, I1, r1, v, ev, q1⟩ => ⟨I1.kIn, ?_⟩) hpl
  rw [hks]
  subst ev
  cases r1 with
  | @cons _ u _ ur ru rr =>
  cases rr
  obtain ⟨hp, g, dr, tk, os⟩ := s1
  show wpAny _ _ (call (.ref C) [] [(errFld c, u)]) _ _ _
  refine made0 T.oex iC tI F1 hr ru (fun s a kin => .of_eq (hb _ _)) (.inr rfl) I1 fun h2 g2 d2 t2 os2 d e1 e2 n1 n2 n3 un ok J2 => ?_
  refine mk_end (fs := [(errFld c, v)]) (raises_own T.oex.exC T.oex.tyC) I1 (Nat.le_succ _) (fun b o e => Heap.get?_push_of_some _ (Heap.get?_push_of_some _ e)) un ok e1 e2 upd_same (by rw [upd_ne n3, upd_same]) n2 ?_
  have e : upd (del (upd (upd H1 d (exd d [(errFld c, v)])) (hp.objs.size + 1) (exo (hp.objs.size + 1) C (some d))) (hp.objs.size + 1)) d (.xd [(errFld c, v)]) = upd H1 d (.xd [(errFld c, v)]) := by
    funext b
    by_cases hb : b = d
    · rw [hb, upd_same, upd_same]
    · rw [upd_ne hb, upd_ne hb]
      by_cases hb2 : b = hp.objs.size + 1
      · rw [hb2, del_same, n1]
      · rw [del_ne hb2, upd_ne hb2, upd_ne hb]
  rw [e]
  exact q1 d n2
theorem p_raiseK {kws : List Keyword} {m : En → M D} {x : Str} {pos2 : Pos} (T : ErrK X.prog X.w X.K X.mg X.base c C) (hc : X.calm = true) (tk : Takes X W) (hr : Room 2 X.A) (hx : x = errName c) (hg : Gl X x) (ha : PK X kws (liftA X.K dk l W (eAcons m eAnil)))
    (hks : (backToKw pos (keywordEach kws X.env)).filterMap (·.1) = [errFld c] := by rfl) (hall : (backToKw pos (keywordEach kws X.env)).all (·.1.isSome) = true := by rfl) (hdb : (x == ("__debug__" : Str)) = false := by decide)
    (hpl : ((backTo pos (starEach [] X.env)).any (·.1) || (backToKw pos (keywordEach kws X.env)).any (·.1.isNone)) = false := by rfl) :
    PS X (.Raise (some (.Call (.Name x p) [] kws pos)) none pos2) (liftS X.K dk l W I0 H0 (sRaise c m)) := by
  have mk := pmk_kw (p := p) T hr hx hg ha hks hall hdb hpl
  refine PS_imp (ps_raise hc tk mk) fun D σ H ⟨I, env, s, k, q⟩ => ?_
  refine ⟨I, env, s, k.eok, k.wo, Post.cons1 ((q.bind).mono (fun d s1 q vs I1 H1 x1 w1 r1 => ?_) fun _ _ _ h => k.exq h)⟩
  obtain ⟨v, r, rfl, r2, r3⟩ := r1
  have r3' : r = [] := r3
  subst r3'
  refine ⟨v, rfl, fun dd hdd => ?_⟩
  have n1 := Ext.new (o := .xd [(errFld c, v)]) w1 hdd
  have n2 := Wo.new (o := .xd [(errFld c, v)]) w1 hdd
  exact q σ (.ref C) (some dd) _ _ ((k.ext.trans x1 w1).trans n1 n2) n2 ⟨C, dd, v, rfl, T.of, rfl, upd_same, Rep.mono n1.grow d v r2⟩
end
/-! ### e.thing -/
def fldD (n : Str) : D → Option D
  | .exc c w => if errFld c = n then some w else none
  | _ => none
def Xk (K : PySem.W.Frag) : Prop := ∀ c C, ClsOf K c C → XcK K C ∧ (PySem.W.clsIn K C).isSome = true ∧ PySem.W.findIn K (.ref C) (errFld c) = some none
section
variable {X : Cx} {dk l : Addr} {W : WX} {pos : Pos}
theorem exc_at {pins : List (Addr × Obj)} {σ : L2.St} {H1 : Hp} {s1 : Shared} {a C dd : Addr} {fs : List (Str × V)} (I1 : Inv X pins σ H1 s1) (ea : H1 a = some (exo a C (some dd))) (ed : H1 dd = some (exd dd fs)) :
    ∃ (ox od : Obj) (mA : Str → Option Value), PySem.W.InstAt s1.heap a ox C (some od) ∧ (∀ f, RelO (fs.lookup f) (mA f)) ∧ ∀ name, PySem.W.lookIn name od = some (mA name) := by
  obtain ⟨t1, ho⟩ := exo_at I1.hok ea
  obtain ⟨mA, hns, hr⟩ := exd_at I1.hok ed
  obtain ⟨od, hod, hl⟩ := lookIn_ns hns
  exact ⟨_, od, mA, ⟨ho, rfl, rfl, hod⟩, hr, hl⟩
theorem r_fld {e : Expr} {m : En → M D} {n : Str} (XK : Xk X.K) (h : PE X e (lift X.K dk l W m)) (hb : attributeBase e n X.env (eval e X.env) = eval e X.env := by rfl) :
    PE X (.Attribute e n pos) (lift X.K dk l W (eUn (fldD n) m)) := by
  refine ⟨fun pins z σ H Q J ⟨I, env, s, k1, w1, q⟩ => ?_⟩
  have rd : lift X.K dk l W m σ H (fun x H1 => ∃ a C dd v c, x = .ref a ∧ ClsOf X.K c C ∧ errFld c = n ∧ H1 a = some (exo a C (some dd)) ∧ H1 dd = some (exd dd [(n, v)]) ∧ Q v H1) := by
    refine ⟨I, env, s, k1, w1, q.bind.mono (fun x s1 q v I1 H1 x1 w2 r1 => ?_) fun _ _ _ h => h⟩
    obtain ⟨y, e2, q2⟩ := q.opt
    cases x with
    | exc c w =>
      have e2' : (if errFld c = n then some w else none) = some y := e2
      clear e2
      have e2 := e2'
      by_cases hn : errFld c = n
      · rw [if_pos hn] at e2
        cases e2
        obtain ⟨a, C, dd, v', rfl, hC, h1, h2, h3⟩ := r1
        rw [hn] at h2
        exact ⟨a, C, dd, v', c, rfl, hC, hn, w2.sub _ _ h1, w2.sub _ _ h2, q2 v' I1 H1 x1 w2 h3⟩
      · rw [if_neg hn] at e2; cases e2
    | _ => cases e2
  refine attr_of hb (thn (h.run pins z σ H _ J rd) fun u s1 ⟨x, H1, I1, rx, a, C, dd, v, c, ex, hC, hn, ea, ed, q1⟩ => ?_)
  subst ex
  obtain rfl : u = Value.ref a := rx
  obtain ⟨T, _, hno⟩ := XK c C hC
  rw [hn] at hno
  obtain ⟨ox, od, mA, J1, hr, hl⟩ := exc_at I1 ea ed
  obtain ⟨u, hu, ru⟩ := RelO.some_of (v := v) (o := mA n) (by have := hr n; simpa [List.lookup] using this)
  exact HandSPX.exc_get I1.kIn J1 T.ga T.gg T.exC (PySem.W.findObj_own T.hdC hno rfl (by rw [hl, hu])) (handed_of ru) ⟨v, H1, I1.tok _, ru, q1⟩
end
/-! ### isinstance of an error -/
def rIsV (K : PySem.W.Frag) : List V → Hp → VK → Prop := fun xs H Q => ∃ (a C dd : Addr) (fs : List (Str × V)) (c : V) (cv : Value) (b : Bool), xs = [.ref a, c] ∧ XcK K C ∧ (PySem.W.clsIn K C).isSome = true ∧ H a = some (exo a C (some dd)) ∧ H dd = some (exd dd fs) ∧
  ClsV c cv ∧ PySem.W.kitOne K (.ref C) cv = some b ∧ Q (.bl b) H
def rIsVT (K : PySem.W.Frag) : List V → Hp → VK → Prop := fun xs H Q => ∃ (a C dd tp : Addr) (fs : List (Str × V)) (cs : List V) (us : List Value) (b : Bool), xs = [.ref a, .ref tp] ∧ XcK K C ∧ (PySem.W.clsIn K C).isSome = true ∧ H a = some (exo a C (some dd)) ∧ H dd = some (exd dd fs) ∧
  H tp = some (.tup cs) ∧ Paired ClsV cs us ∧ PySem.W.kitAny K (.ref C) us = some b ∧ Q (.bl b) H
section
variable {X : Cx} {dk l : Addr} {W : WX} {pos : Pos}
theorem call_isV : CallR X (.builtin "isinstance") (rIsV X.K) := by
  intro pins s σ H xs us Q I r h
  obtain ⟨a, C, dd, fs, c, cv, b, rfl, T, hcl, ea, ed, k, e, q⟩ := h
  obtain ⟨u1, u2, rfl, r1, r2⟩ := vals2 r
  cases (show u1 = Value.ref a from r1)
  have e2 := k.eq r2
  subst e2
  obtain ⟨ox, od, mA, J1, _, _⟩ := exc_at I ea ed
  exact PySem.W.kia_one (PySem.W.kitx_exc hcl T.ga T.gg T.exC T.cl T.gs T.tk T.hm) I.kIn J1 e (fun z => nomatch z) fun tk => ⟨.bl b, H, I.tok tk, rfl, q⟩
theorem call_isVT : CallR X (.builtin "isinstance") (rIsVT X.K) := by
  intro pins s σ H xs us Q I r h
  obtain ⟨a, C, dd, tp, fs, cs, ws, b, rfl, T, hcl, ea, ed, hT, k, e, q⟩ := h
  obtain ⟨u1, u2, rfl, r1, r2⟩ := vals2 r
  cases (show u1 = Value.ref a from r1)
  cases (show u2 = Value.ref tp from r2)
  obtain ⟨ox, od, mA, J1, _, _⟩ := exc_at I ea ed
  obtain ⟨_, its, rv, o, h1, h2, n, h3⟩ := (show ObjOk X.prog X.w H s.heap tp (.tup cs) from I.hok tp _ hT)
  have e3 := ClsV.all k rv
  subst e3
  obtain ⟨oc, od', dt, sl⟩ := o
  simp only at h2 h3
  subst h2 h3
  exact PySem.W.kia_tup (PySem.W.kitx_exc hcl T.ga T.gg T.exC T.cl T.gs T.tk T.hm) I.kIn J1 h1 e (fun z => nomatch z) fun tk => ⟨.bl b, H, I.tok tk, rfl, q⟩
/-- isinstance(e, C'): what f tells of the class's number -/
def isE (f : Nat → Bool) : D → Option D
  | .exc c _ => some (.bl (f c))
  | _ => none
theorem r_isC {a : Expr} {x : Str} {p p3 : Pos} {m : En → M D} {f : Nat → Bool} {c : V} {cv : Value} (XK : Xk X.K) (hg : Gl X "isinstance") (hm : X.mg "isinstance" = none) (hk : ∀ c C, ClsOf X.K c C → PySem.W.kitOne X.K (.ref C) cv = some (f c)) (kv : ClsV c cv)
    (hx : PE X (.Name x p3) (tC c)) (ha : PE X a (lift X.K dk l W m)) (he : starEach [a, .Name x p3] X.env = (false, eval a X.env) :: starEach [.Name x p3] X.env := by rfl) (he2 : starEach [.Name x p3] X.env = (false, eval (.Name x p3) X.env) :: starEach [] X.env := by rfl)
    (hpl : (backTo pos (starEach [.Name x p3] X.env)).any (·.1) = false := by rfl) :
    PE X (.Call (.Name "isinstance" p) [a, .Name x p3] [] pos) (lift X.K dk l W (eUn (isE f) m)) := PE_imp (pe_callB call_isV hg hm boot_isinstance (pa_cons ha (pa_cons hx pa_nil he2) he) (by decide) (by decide) he hpl) fun σ H Q ⟨I, env, s, e, w, q⟩ => by
  refine ⟨I, env, s, e, w, q.bind.mono (fun d s1 q v I1 H1 x1 w1 r1 => ?_) fun _ _ _ h => h⟩
  obtain ⟨y, e2, q⟩ := q.opt
  cases d with
  | exc n d =>
    cases e2
    obtain ⟨a', C, dd, v', rfl, hC, h1, h2, h3⟩ := r1
    obtain ⟨T, hcl, _⟩ := XK n C hC
    exact ⟨a', C, dd, _, c, cv, f n, rfl, T, hcl, w1.sub _ _ h1, w1.sub _ _ h2, kv, hk n C hC, q _ I1 H1 x1 w1 rfl⟩
  | _ => cases e2
theorem kit_base {K : PySem.W.Frag} (T : String) (b : Bool) (hT : PySem.W.kitMeta T = true) (hb : ([Value.type "Exception", .type "BaseException", .type "object"].contains (.type T)) = b) {c : Nat} {C : Addr} (h : ClsOf K c C) : PySem.W.kitOne K (.ref C) (.type T) = some b := by
  obtain ⟨SE, cd, e1, e2, _⟩ := cls_in h
  unfold PySem.W.kitOne
  have e : (Value.ref C == Value.type T) = false := by simp
  rw [e]
  show PySem.W.kitCls K (.ref C) (.type T) = some b
  show (if PySem.W.kitMeta T = true then PySem.W.subIn K (.ref C) (.type T) else none) = some b
  rw [if_pos hT]
  show PySem.W.mroIn K C (.type T) = some b
  unfold PySem.W.mroIn
  rw [e1, Option.bind_some, e2, ← hb]
  simp
/-- (T1, T2, ..), types of the language -/
def tTys (Ts : List String) : TA := fun σ H Q => Q (Ts.map V.ty) H
theorem pa_ty_nil : PA X [] (tTys []) := PA_imp pa_nil fun σ H Q q => q
theorem pa_ty_cons {x : Str} {T : String} {Ts : List String} {es : List Expr} {p : Pos} (hg : Gl X x) (hm : X.mg x = none) (hv : bootBuiltins x = some (.type T)) (hr : PA X es (tTys Ts)) (hn : x ≠ "__name__" := by decide) (hd : (x == ("__debug__" : Str)) = false := by decide)
    (hs : starEach (.Name x p :: es) X.env = (false, eval (.Name x p) X.env) :: starEach es X.env := by rfl) : PA X (.Name x p :: es) (tTys (T :: Ts)) :=
  PA_imp (pa_cons (pe_bltn (v := .ty T) hg hm hv rfl hn hd) hr hs) fun σ H Q q => q
theorem paired_ty : ∀ Ts : List String, Paired ClsV (Ts.map V.ty) (Ts.map Value.type)
  | [] => .nil
  | T :: Ts => .cons (.ty T) (paired_ty Ts)
theorem kit_bases {K : PySem.W.Frag} {c : Nat} {C : Addr} (h : ClsOf K c C) : ∀ Ts : List String, (Ts.all fun T => PySem.W.kitMeta T && !([Value.type "Exception", .type "BaseException", .type "object"].contains (.type T))) = true → PySem.W.kitAny K (.ref C) (Ts.map Value.type) = some false
  | [], _ => rfl
  | T :: Ts, hT => by
    rw [List.all_cons] at hT
    obtain ⟨h1, h2⟩ := Bool.and_eq_true_iff.mp hT
    obtain ⟨h3, h4⟩ := Bool.and_eq_true_iff.mp h1
    exact kitAny_cons (kit_base T false h3 (by simpa using h4) h) (fun _ => kit_bases h Ts h2) (fun z => by cases z)
/-- isinstance(e, (T1, T2, ..)) of an error: none of these is -/
theorem r_isVT {a : Expr} {es : List Expr} {p p3 : Pos} {x1} {m : En → M D} {Ts : List String} (XK : Xk X.K) (hg : Gl X "isinstance") (hm : X.mg "isinstance" = none) (hl : Ts.length ≤ 1000) (hT : (Ts.all fun T => PySem.W.kitMeta T && !([Value.type "Exception", .type "BaseException", .type "object"].contains (.type T))) = true)
    (hes : PA X es (tTys Ts)) (ha : PE X a (lift X.K dk l W m)) (he : starEach [a, .Tuple es x1 p3] X.env = (false, eval a X.env) :: starEach [.Tuple es x1 p3] X.env := by rfl) (he2 : starEach [.Tuple es x1 p3] X.env = (false, eval (.Tuple es x1 p3) X.env) :: starEach [] X.env := by rfl)
    (hpl : (backTo pos (starEach [.Tuple es x1 p3] X.env)).any (·.1) = false := by rfl) :
    PE X (.Call (.Name "isinstance" p) [a, .Tuple es x1 p3] [] pos) (lift X.K dk l W (eUn (isE fun _ => false) m)) := PE_imp (pe_callB call_isVT hg hm boot_isinstance (pa_cons ha (pa_cons (pe_tup hes) pa_nil he2) he) (by decide) (by decide) he hpl) fun σ H Q ⟨I, env, s, e, w, q⟩ => by
  refine ⟨I, env, s, e, w, q.bind.mono (fun d s1 q v I1 H1 x1 w1 r1 => ?_) fun _ _ _ h => h⟩
  obtain ⟨y, e2, q⟩ := q.opt
  cases d with
  | exc n d =>
    cases e2
    obtain ⟨a', C, dd, v', rfl, hC, h1, h2, h3⟩ := r1
    obtain ⟨T, hcl, _⟩ := XK n C hC
    refine ⟨by rw [List.length_map]; exact Nat.le_trans hl (by decide), fun tp htp => ?_⟩
    have np1 : tp ≠ dk := (ne_of_none w1.dko htp).symm
    have np2 : tp ≠ l := (ne_of_none w1.lft htp).symm
    have x2 := Ext.off (o := .tup (Ts.map V.ty)) w1 htp
    have w2 := Wo.off (o := .tup (Ts.map V.ty)) w1 (w1.sub.none htp) np1 np2
    exact ⟨a', C, dd, tp, _, _, _, false, rfl, T, hcl, w2.sub _ _ h1, w2.sub _ _ h2, upd_same, paired_ty Ts, kit_bases hC Ts hT, q _ I1 _ (x1.trans x2 w2) w2 rfl⟩
  | _ => cases e2
/-- isinstance(x, (T1, T2, ..)) of a plain value -/
def isTs (Ts : List Ty) : D → Option D := fun d => match isT .int d with
  | none => none
  | some _ => some (.bl (Ts.any fun T => match isT T d with | some (.bl b) => b | _ => false))
theorem kit_tys {K : PySem.W.Frag} {c : String} {f : Ty → Bool} (h : ∀ T : Ty, kitB c T.nm = some (f T)) : ∀ Ts : List Ty, PySem.W.kitAny K (.type c) ((Ts.map Ty.nm).map Value.type) = some (Ts.any f)
  | [] => rfl
  | T :: Ts => by
    refine kitAny_cons (kit_ty (h T)) (fun z => ?_) fun z => ?_
    · rw [List.any_cons, z, Bool.false_or]
      exact kit_tys h Ts
    · rw [List.any_cons, z, Bool.true_or]
def tyB (c : String) (T : Ty) : Bool := kitB c T.nm == some true
theorem tyB_ok (c : String) (h : c ∈ ["NoneType", "bool", "int", "str", "tuple", "list", "dict"]) : ∀ T : Ty, kitB c T.nm = some (tyB c T) := by
  simp only [List.mem_cons, List.not_mem_nil, or_false] at h
  rcases h with rfl | rfl | rfl | rfl | rfl | rfl | rfl <;> (intro T; cases T <;> decide +kernel)
theorem isTs_any {Ts : List Ty} {d : D} {y : D} {c : String} (h : isTs Ts d = some y) (hi : (isT .int d).isSome = true) (e : ∀ T : Ty, (match isT T d with | some (.bl b) => b | _ => false) = tyB c T) : y = .bl (Ts.any (tyB c)) := by
  unfold isTs at h
  cases z : isT .int d with
  | none => rw [z] at hi; cases hi
  | some w =>
    rw [z] at h
    injection h with h
    rw [← h, ← funext e]
theorem r_isTs {a : Expr} {es : List Expr} {p p3 : Pos} {x1} {m : En → M D} {Ts : List Ty} (hg : Gl X "isinstance") (hm : X.mg "isinstance" = none) (hl : Ts.length ≤ 1000)
    (hes : PA X es (tTys (Ts.map Ty.nm))) (ha : PE X a (lift X.K dk l W m)) (he : starEach [a, .Tuple es x1 p3] X.env = (false, eval a X.env) :: starEach [.Tuple es x1 p3] X.env := by rfl) (he2 : starEach [.Tuple es x1 p3] X.env = (false, eval (.Tuple es x1 p3) X.env) :: starEach [] X.env := by rfl)
    (hpl : (backTo pos (starEach [.Tuple es x1 p3] X.env)).any (·.1) = false := by rfl) :
    PE X (.Call (.Name "isinstance" p) [a, .Tuple es x1 p3] [] pos) (lift X.K dk l W (eUn (isTs Ts) m)) := PE_imp (pe_callB call_isiT hg hm boot_isinstance (pa_cons ha (pa_cons (pe_tup hes) pa_nil he2) he) (by decide) (by decide) he hpl) fun σ H Q ⟨I, env, s, e, w, q⟩ => by
  refine ⟨I, env, s, e, w, q.bind.mono (fun d s1 q v I1 H1 x1 w1 r1 => ?_) fun _ _ _ h => h⟩
  obtain ⟨y, e2, q⟩ := q.opt
  refine ⟨by rw [List.length_map, List.length_map]; exact Nat.le_trans hl (by decide), fun tp htp => ?_⟩
  have np1 : tp ≠ dk := (ne_of_none w1.dko htp).symm
  have np2 : tp ≠ l := (ne_of_none w1.lft htp).symm
  have x2 := Ext.off (o := .tup ((Ts.map Ty.nm).map V.ty)) w1 htp
  have w2 := Wo.off (o := .tup ((Ts.map Ty.nm).map V.ty)) w1 (w1.sub.none htp) np1 np2
  have fin : ∀ (c : String), c ∈ ["NoneType", "bool", "int", "str", "tuple", "list", "dict"] → TyX X.K (upd H1 tp (.tup ((Ts.map Ty.nm).map V.ty))) v (.type c) → y = .bl (Ts.any (tyB c)) → rIsiT X.K [v, .ref tp] (upd H1 tp (.tup ((Ts.map Ty.nm).map V.ty))) Q := fun c hc t1 t3 =>
    ⟨v, tp, _, .type c, _, Ts.any (tyB c), rfl, upd_same, paired_ty _, t1, kit_tys (tyB_ok c hc) Ts, q _ I1 _ (x1.trans x2 w2) w2 (by rw [t3]; rfl)⟩
  cases d with
  | non =>
    have r2 : v = .non := r1
    subst r2
    exact fin "NoneType" (by decide) (.base .non) (isTs_any e2 rfl fun T => by cases T <;> first | (show true = _; decide +kernel) | (show false = _; decide +kernel))
  | bl b =>
    have r2 : v = .bl b := r1
    subst r2
    exact fin "bool" (by decide) (.base (.bl _)) (isTs_any e2 rfl fun T => by cases T <;> first | (show true = _; decide +kernel) | (show false = _; decide +kernel))
  | int b =>
    have r2 : v = .int b := r1
    subst r2
    exact fin "int" (by decide) (.base (.int _)) (isTs_any e2 rfl fun T => by cases T <;> first | (show true = _; decide +kernel) | (show false = _; decide +kernel))
  | str b =>
    have r2 : v = .str b := r1
    subst r2
    exact fin "str" (by decide) (.base (.str _)) (isTs_any e2 rfl fun T => by cases T <;> first | (show true = _; decide +kernel) | (show false = _; decide +kernel))
  | tup ds =>
    obtain ⟨a', vs, rfl, h1, _⟩ := r1
    exact fin "tuple" (by decide) (.base (.tup (w2.sub _ _ h1))) (isTs_any e2 rfl fun T => by cases T <;> first | (show true = _; decide +kernel) | (show false = _; decide +kernel))
  | lst ds =>
    obtain ⟨a', vs, rfl, h1, _⟩ := r1
    exact fin "list" (by decide) (.base (.lst (w2.sub _ _ h1))) (isTs_any e2 rfl fun T => by cases T <;> first | (show true = _; decide +kernel) | (show false = _; decide +kernel))
  | dK ds =>
    obtain ⟨a', vs, rfl, h1, _⟩ := r1
    exact fin "dict" (by decide) (.base (.dK (w2.sub _ _ h1))) (isTs_any e2 rfl fun T => by cases T <;> first | (show true = _; decide +kernel) | (show false = _; decide +kernel))
  | dT ds =>
    obtain ⟨a', vs, rfl, h1, _⟩ := r1
    exact fin "dict" (by decide) (.base (.dT (w2.sub _ _ h1))) (isTs_any e2 rfl fun T => by cases T <;> first | (show true = _; decide +kernel) | (show false = _; decide +kernel))
  | fK ds =>
    obtain ⟨a', vs, o, rfl, h1, _⟩ := r1
    exact fin "dict" (by decide) (.fDict (w2.sub _ _ h1)) (isTs_any e2 rfl fun T => by cases T <;> first | (show true = _; decide +kernel) | (show false = _; decide +kernel))
  | deck => cases e2
  | exc c d => cases e2
end
end PV

end

section
set_option maxRecDepth 100000
set_option maxHeartbeats 4000000
namespace PV
open PySem PySem.Spec PyProof.Rows L2
/-! ### dicts that stand and are walked over -/
theorem Post.mk {α β : Type} {m : M α} {f : α → M β} {s : Dk} {P : β → Dk → Prop} {E : Nat → D → Dk → Prop} (h : Post (m s) (fun a s1 => Post (f a s1) P E) E) : Post (andThen m f s) P E := by
  unfold andThen
  cases q : m s with
  | bad => rw [q] at h; exact h
  | ok a s1 => rw [q] at h; exact h
  | exc c d s1 => rw [q] at h; exact h
def keyV : Key → D
  | .inl i => .int i
  | .inr x => .str x
theorem keyV_rep {K : PySem.W.Frag} {I : Hp} {dk : Addr} (k : Key) : Rep K I dk (keyV k) (kV k) := by
  cases k <;> rfl
def keyI (d : D) : Option Key := match d with
  | .int i => some (.inl i)
  | .str x => some (.inr x)
  | _ => none
section
variable {X : Cx} {dk l : Addr} {W : WX} {pos : Pos} {tg : Expr}
def eDispF (k1 k2 : Key) (m1 m2 : En → M D) : En → M D := fun env => andThen (m1 env) fun d1 => andThen (m2 env) fun d2 => ret (.fK [(k1, d1), (k2, d2)])
theorem r_dispF {k1 k2 : Key} {a b e1 e2 : Expr} {m1 m2 : En → M D} (hne : k1 ≠ k2) (ha : PE X a (tC (kV k1))) (hb : PE X b (tC (kV k2))) (h1 : PE X e1 (lift X.K dk l W m1)) (h2 : PE X e2 (lift X.K dk l W m2)) :
    PE X (.Dict [some a, some b] [e1, e2] pos) (lift X.K dk l W (eDispF k1 k2 m1 m2)) := by
  refine ⟨fun pins z σ H Q J ⟨I, env, s, k, w, q⟩ => ?_⟩
  have rd : liftO X.K dk l W (eDisp2 k1 k2 m1 m2) σ H (fun v H1 => ∃ p ws, v = .ref p ∧ H1 p = some (.dK ws) ∧ ∀ od, Q v (upd H1 p (.frz od (.dK ws)))) := by
    refine ⟨I, env, s, k, w, Post.mk (q.bind.mono (fun d1 s1 q => Post.mk (q.bind.mono (fun d2 s2 q => ?_) fun _ _ _ h => h)) fun _ _ _ h => h)⟩
    intro p I' H' x w' hp ⟨ws, hH, r⟩ n1 n2 n3
    refine ⟨p, ws, rfl, hH, fun od => ?_⟩
    have w2 : Wo dk l (upd I' p (.frz od (.dK ws))) (upd H' p (.frz od (.dK ws))) s2 := ⟨w'.sub.upd2, by rw [upd_ne n1.symm]; exact w'.dko, by rw [upd_ne n2.symm]; exact w'.lft, by rw [upd_ne n1.symm]; exact w'.idk, by rw [upd_ne n2.symm]; exact w'.il⟩
    have x2 : Ext dk l I H (upd I' p (.frz od (.dK ws))) (upd H' p (.frz od (.dK ws))) := ⟨x.grow.trans (Sm.upd n3), fun c o h m1 m2 => by rw [upd_ne (ne_of_none h hp)]; exact x.keep c o h m1 m2, fun c o h n => by
      by_cases hc : c = p
      · subst hc; exact .inl hp
      · rw [upd_ne hc] at h; exact x.fresh c o h n⟩
    exact q (.ref p) _ _ x2 w2 ⟨p, ws, od, rfl, upd_same, RepK.mono (Sm.upd n3) _ _ r⟩
  refine thn ((r_disp2 (pos := pos) hne ha hb h1 h2).run pins z σ H _ J rd) fun u s1 ⟨v, H1, J1, rv, p, ws, ev, hp, q1⟩ => ?_
  obtain ⟨od, J2⟩ := J1.lock hp trivial
  exact ⟨v, _, J2, rv, q1 od⟩
/-- for k in d -/
def eKeys (m : En → M D) : En → M (List D) := fun env => andThen (m env) fun d => opt (match d with | .fK kvs => some (kvs.map fun kv => keyV kv.1) | _ => none)
theorem RepK.keys {K : PySem.W.Frag} {I : Hp} : ∀ {kvs : List (Key × D)} {ws : List (Key × V)}, RepK K I dk kvs ws → ws.map (·.1) = kvs.map (·.1)
  | [], _, h => by rw [show _ = _ from h]; rfl
  | (k, d) :: r, _, h => by
    obtain ⟨v, t, rfl, _, h3⟩ := h
    rw [List.map_cons, List.map_cons, RepK.keys h3]
theorem r_keys {e : Expr} {m : En → M D} (h : PE X e (lift X.K dk l W m)) : PI X tg e (liftI X.K dk l W (eKeys m)) := PI_imp (pi_keys h) fun σ H R ⟨I, env, s, k, w, q⟩ => by
  refine ⟨I, env, s, k, w, q.bind.mono (fun d s1 q v I1 H1 x1 w1 r1 => ?_) fun _ _ _ h => h⟩
  obtain ⟨ds, e1, q2⟩ := q.opt
  cases d with
  | fK kvs =>
    cases e1
    obtain ⟨a, ws, o, rfl, h1, h2⟩ := r1
    have hk := RepK.keys h2
    have hl : ws.length = kvs.length := by have := congrArg List.length hk; simpa using this
    refine ⟨a, o, rfl, .inl ⟨ws, w1.sub _ _ h1, q2 _ I1 H1 x1 w1 ⟨fun I' H' s i g b w hi => ⟨b _ _ h1, ?_⟩, fun I' H' s i g b w hi => ⟨b _ _ h1, ?_⟩, fun I' H' s i x H'' d g b w y hd => ?_⟩⟩⟩
    · rw [List.length_map] at hi; omega
    · rw [List.length_map] at hi; omega
    · obtain ⟨rfl, ky, vy, hy, rfl⟩ := y
      have h5 : (kvs.map (·.1))[i]? = some ky := by rw [← hk, List.getElem?_map, hy]; rfl
      rw [List.getElem?_map] at hd h5
      cases z : kvs[i]? with
      | none => rw [z] at hd; cases hd
      | some kv =>
        rw [z] at hd h5
        have e6 : kv.1 = ky := by simpa using h5
        have e7 : keyV kv.1 = d := by simpa using hd
        exact ⟨I', Ext.refl, w, by rw [← e7, e6]; exact keyV_rep ky⟩
  | _ => cases e1
/-- k not in d -/
def notinF : D → D → Option D
  | y, .fK kvs => (keyD y).map fun k => .bl (!(valD kvs k).isSome)
  | _, _ => none
theorem valK_some {K : PySem.W.Frag} {I : Hp} : ∀ {kvs : List (Key × D)} {ws : List (Key × V)} (k : Key), RepK K I dk kvs ws → (valV ws k).isSome = (valD kvs k).isSome
  | [], _, k, h => by rw [show _ = _ from h]; rfl
  | (a, d') :: r, _, k, h => by
    obtain ⟨v, ws, rfl, h1, h2⟩ := h
    unfold valD valV
    rw [List.find?_cons, List.find?_cons]
    by_cases hk : a = k
    · simp only [hk, decide_true, Option.map_some, Option.isSome_some]
    · simp only [hk, decide_false]
      exact valK_some k h2
theorem op_notinF (hu : X.A.units + 1 < cLine) : OpR X (compareOp .NotIn) (fun y x H Q => ∃ a o, x = .ref a ∧ DGet H a y o ∧ Q (.bl (!o.isSome)) H) := by
  intro pins s σ H y x u v Q I ry rx h
  obtain ⟨a, ov, rfl, g, q⟩ := h
  obtain rfl : v = Value.ref a := rx
  exact d_notIn hu I g ry fun s3 I3 => ⟨.bl (!ov.isSome), H, I3, rfl, q⟩
theorem o_notinF (hu : X.A.units + 1 < cLine) : OpD X dk l (compareOp .NotIn) notinF := by
  refine ⟨_, op_notinF hu, fun I H s y x v u d Q w ry rx e q => ?_⟩
  cases x with
  | fK kvs =>
    have e' : (keyD y).map (fun k => D.bl (!(valD kvs k).isSome)) = some d := by cases y <;> exact e
    cases zk : keyD y with
    | none => rw [zk] at e'; cases e'
    | some ky =>
      rw [zk] at e'
      cases e'
      obtain ⟨a, ws, o, rfl, h1, h2⟩ := rx
      rw [keyD_rep ry zk]
      refine ⟨a, valV ws ky, rfl, .inl ⟨ws, ky, .inr ⟨o, w.sub _ _ h1⟩, rfl, rfl⟩, ?_⟩
      rw [valK_some ky h2]
      exact q _ I H Ext.refl w rfl
  | _ => cases y <;> cases e
/-- d[k] -/
def ixF : D → D → Option D
  | .fK kvs, y => (keyD y).bind (valD kvs)
  | _, _ => none
theorem r_ixF {a b : Expr} {ma mb : En → M D} (hu : X.A.units + 1 < cLine) (ha : PE X a (lift X.K dk l W ma)) (hb : PE X b (lift X.K dk l W mb)) (hs : PlainIx b) : PE X (.Subscript a b pos) (lift X.K dk l W (eOp ixF ma mb)) := PE_imp (pe_dget hu ha hb hs) fun σ H Q ⟨I, env, s, k, w, q⟩ => by
  refine ⟨I, env, s, k, w, q.bind.mono (fun x s1 q v I1 H1 x1 w1 r1 => ?_) fun _ _ _ h => h⟩
  refine ⟨I1, env, s1, k.ext x1, w1, q.bind.mono (fun y s2 q u I2 H2 x2 w2 r2 => ?_) fun _ _ _ h => h.shift x1⟩
  obtain ⟨d, e4, q3⟩ := q.opt
  cases x with
  | fK kvs =>
    obtain ⟨a', ws, o, rfl, h1, h2⟩ := r1
    have e5 : (keyD y).bind (valD kvs) = some d := e4
    cases zk : keyD y with
    | none => rw [zk] at e5; cases e5
    | some ky =>
      rw [zk] at e5
      obtain ⟨o', h3, h4⟩ := valK_rep h2 e5
      rw [keyD_rep r2 zk]
      refine ⟨a', o', rfl, .inl ⟨ws, ky, .inr ⟨o, w2.sub _ _ (x2.grow _ _ h1)⟩, rfl, h3.symm⟩, q3 o' I2 H2 (x1.trans x2 w2) w2 (Rep.mono x2.grow _ _ h4)⟩
  | _ => cases e4
/-- len(d) -/
def lenF : D → Option D
  | .fK kvs => some (.int kvs.length)
  | _ => none
theorem call_lenF : CallR X (.builtin "len") (fun xs H Q => ∃ a o kvs, xs = [V.ref a] ∧ H a = some (.frz o (.dK kvs)) ∧ Q (.int kvs.length) H) := by
  intro pins s σ H xs us Q I r h
  obtain ⟨a, o, kvs, rfl, ha, q⟩ := h
  cases r with
  | @cons _ u0 _ ur rx rr =>
  cases rr
  obtain rfl : u0 = Value.ref a := rx
  exact d_len I (.inr ⟨o, ha⟩) fun t s' J => ⟨.int kvs.length, H, J, ⟨t, rfl⟩, q⟩
theorem c_lenF : CallD X dk l (.builtin "len") (g1 lenF) := callD1 call_lenF fun I H s x v d Q w r e q => by
  cases x with
  | fK kvs =>
    cases e
    obtain ⟨a, ws, o, rfl, h1, h2⟩ := r
    have hl : ws.length = kvs.length := by have := congrArg List.length (RepK.keys h2); simpa using this
    exact ⟨a, o, ws, rfl, w.sub _ _ h1, by rw [hl]; exact q _ I H Ext.refl w rfl⟩
  | _ => cases e
end
end PV

end

section
set_option maxRecDepth 100000
set_option maxHeartbeats 4000000
namespace PV
open PySem PySem.Spec PyProof.Rows L2
/-! ### the third form: found = [..]; found = found + [..]; ..; return found + [..] -/
def tK0 (i j : Nat) (a da : Addr) (bs : List Bool) : TS := fun D σ H => σ[i]? = some (some (.ref a)) ∧ i ≠ j ∧ j < σ.length ∧ (∃ fs, H da = some (.xd fs)) ∧ bs.length ≤ 1000 ∧
  ∀ (H' : Hp) (t : Addr), (∀ b o, H b = some o → H' b = some o) → H' t = none → D.rt (.ref t) (upd H' t (.lst (bs.map V.bl)))
def tKr (i j : Nat) (a da : Addr) (bs cs : List Bool) : TS := fun D σ H => σ[i]? = some (some (.ref a)) ∧ i ≠ j ∧ j < σ.length ∧ (∃ fs, H da = some (.xd fs)) ∧ (∃ t, σ[j]? = some (some (.ref t)) ∧ H t = some (.lst (bs.map V.bl))) ∧ bs.length + cs.length ≤ 1000 ∧
  ∀ (H' : Hp) (t : Addr), (∀ b o, H b = some o → H' b = some o) → H' t = none → D.rt (.ref t) (upd H' t (.lst ((bs ++ cs).map V.bl)))
theorem up_keep {H : Hp} {t : Addr} {u : HO} (n : H t = none) : ∀ b o, H b = some o → upd H t u b = some o := fun b o h => by rw [upd_ne (ne_of_none h n)]; exact h
section
variable {X : Cx} {i j : Nat} {a da : Addr} {bs cs ds : List Bool} {es : List Expr} {rest : List Stmt} {nm : Str} {p1 p2 p3 p4 p5 p6 p7 : Pos}
theorem ps_kr_first (h1 : PA X es (tIss i a da bs)) (hr : PSs X rest (tKr i j a da bs ds)) (hN : X.N.Nodup) (hj : X.N[j]? = some nm) (hl : X.env.scope.names.lookup nm = some .local)
    (hs : swapsWith (.List es p1) (some (.Name nm p2)) p3.line X.env = pure false := by rfl) :
    PSs X (.Assign [.Name nm p2] (.List es p1) p3 :: rest) (tK0 i j a da (bs ++ ds)) := by
  refine PSs_imp (pss_cons (ps_set hN hj (.inl hl) (pe_lst h1) hs (.inr hl)) hr) fun D σ H ⟨hi, hij, hjl, ⟨xs, hx⟩, hz, q⟩ => ?_
  rw [List.length_append] at hz
  have hz1 : (bs.map V.bl).length ≤ sizeLine := by rw [List.length_map, sizeLine_eq]; omega
  refine ⟨hi, ⟨xs, hx⟩, hz1, fun t1 n1 => ?_⟩
  have k1 : upd H t1 (.lst (bs.map V.bl)) da = some (.xd xs) := by rw [upd_ne (ne_of_none hx n1)]; exact hx
  exact ⟨by rw [List.getElem?_set_ne (Ne.symm hij)]; exact hi, hij, by rw [List.length_set]; exact hjl, ⟨xs, k1⟩, ⟨t1, List.getElem?_set_self hjl, upd_same⟩, hz, fun H' t hk ht => q H' t (fun b o h => hk b o (up_keep n1 b o h)) ht⟩
theorem ps_kr_step (h1 : PA X es (tIss i a da cs)) (hr : PSs X rest (tKr i j a da (bs ++ cs) ds)) (hN : X.N.Nodup) (hj : X.N[j]? = some nm) (hl : X.env.scope.names.lookup nm = some .local)
    (hd : (nm == ("__debug__" : Str)) = false := by decide) (hcd : (nm == ("__classdict__" : Str)) = false := by decide)
    (hs : swapsWith (.BinOp (.Name nm p4) .Add (.List es p5) p6) (some (.Name nm p2)) p3.line X.env = pure false := by rfl) :
    PSs X (.Assign [.Name nm p2] (.BinOp (.Name nm p4) .Add (.List es p5) p6) p3 :: rest) (tKr i j a da bs (cs ++ ds)) := by
  have hv : Vis X.env.scope nm := .inl hl
  refine PSs_imp (pss_cons (ps_set hN hj (.inl hl) (pe_op op_cat (pe_var hj hv hd hcd) (pe_lst h1)) hs (.inr hl)) hr) fun D σ H ⟨hi, hij, hjl, ⟨xs, hx⟩, ⟨t0, h0, k0⟩, hz, q⟩ => ?_
  rw [List.length_append] at hz
  have hz2 : (cs.map V.bl).length ≤ sizeLine := by rw [List.length_map, sizeLine_eq]; omega
  refine ⟨.ref t0, h0, hi, ⟨xs, hx⟩, hz2, fun t2 n2 => ?_⟩
  refine ⟨t0, t2, bs.map V.bl, cs.map V.bl, rfl, rfl, up_keep n2 _ _ k0, upd_same, ?_, fun t3 n3 => ?_⟩
  · rw [List.length_map, List.length_map, sizeLine_eq]; omega
  have k1 := up_keep (u := .lst (cs.map V.bl ) ) n2 _ _ hx
  refine ⟨by rw [List.getElem?_set_ne (Ne.symm hij)]; exact hi, hij, by rw [List.length_set]; exact hjl, ⟨xs, up_keep n3 _ _ k1⟩, ⟨t3, List.getElem?_set_self hjl, by rw [upd_same, List.map_append]⟩, by rw [List.length_append]; omega, fun H' t hk ht => ?_⟩
  have := q H' t (fun b o h => hk b o (up_keep n3 b o (up_keep n2 b o h))) ht
  rw [← List.append_assoc] at this
  exact this
theorem ps_kr_last (h1 : PA X es (tIss i a da cs)) (hj : X.N[j]? = some nm) (hl : X.env.scope.names.lookup nm = some .local)
    (hd : (nm == ("__debug__" : Str)) = false := by decide) (hcd : (nm == ("__classdict__" : Str)) = false := by decide) :
    PSs X [.Return (some (.BinOp (.Name nm p4) .Add (.List es p5) p6)) p7] (tKr i j a da bs cs) := by
  have hv : Vis X.env.scope nm := .inl hl
  refine PSs_imp (pss_one (ps_ret (pe_op op_cat (pe_var hj hv hd hcd) (pe_lst h1)))) fun D σ H ⟨hi, hij, hjl, ⟨xs, hx⟩, ⟨t0, h0, k0⟩, hz, q⟩ => ?_
  have hz2 : (cs.map V.bl).length ≤ sizeLine := by rw [List.length_map, sizeLine_eq]; omega
  refine ⟨.ref t0, h0, hi, ⟨xs, hx⟩, hz2, fun t2 n2 => ?_⟩
  refine ⟨t0, t2, bs.map V.bl, cs.map V.bl, rfl, rfl, up_keep n2 _ _ k0, upd_same, ?_, fun t3 n3 => ?_⟩
  · rw [List.length_map, List.length_map, sizeLine_eq]; omega
  have := q _ t3 (fun b o h => up_keep n2 b o h) n3
  rw [List.map_append] at this
  exact this
end
theorem fnp_kinds3 {P : Program} {w : World} {K : PySem.W.Frag} {mg : Str → Option Value} {base : Heap} {k : Nat} {x qual nm fnd : Str} {st : Stmt} {f : Addr} {fd : FuncData} {ks : List (Option Nat)} (L : Nat → List Bool) (hL : ∀ c, kindsOf ks c = L c) (F : Fun K x qual st f fd) (S : FnScope [nm, fnd] [nm] (defScope st)) (hks : ks.length ≤ 1000)
    (body : ∀ (cdv : Value) (A : Around) (outer : List Env) (s : Shared) (H : Hp) (E : XK) (p : Addr × Obj) (C : Addr) (c : Nat) (da : Addr), Zc (.ref C) (some da) p.2 → (∃ vs, p.2.data = .fields vs) → ClsOf K c C → XcK K C → L2H.RoomH k (A.deeper (envOfC qual (defScope st) s.heap.objs.size f cdv)) →
      PSs (L2H.cxH (L2.CX P w) P w K mg base [nm, fnd] qual (defScope st) f cdv A outer s H E p) (defBody st) (tK0 0 1 p.1 da (L c))) :
    FnP P w K mg base (k + 1) f fd [nm] (spKinds K ks) := by
  refine fnp_of F S (fun p vs H Q E h => by rw [h.1]; rfl) fun cdv A outer s H vs Q E p hr hsp => ?_
  obtain ⟨ev, C, c, da, fs, hz, hf, hc, hx, hd, q⟩ := hsp
  subst ev
  refine ⟨_, body cdv A outer s H E p C c da hz hf hc hx hr, rfl, by decide, by show 1 < 2; decide, ⟨fs, hd⟩, ?_, fun H' t hk ht => ?_⟩
  · rw [← hL]
    unfold kindsOf
    rw [List.length_map]
    exact hks
  · rw [← hL]
    exact q H' t hk ht
/-! ### try, with clauses that return (n, e.thing) -/
def hsN (hs : List (Nat × Int)) (c : Nat) : Option Int := match hs with
  | [] => none
  | t :: r => if c = t.1 then some t.2 else hsN r c
def sTryN (m : En → M Fl) (hs : List (Nat × Int)) : En → M Fl := fun env s => match m env s with
  | .exc c d s' => match hsN hs c with
    | some n => .ok (.rt (.tup [.int n, d])) s'
    | none => .exc c d s'
  | r => r
def tHdN (K : PySem.W.Frag) (i : Nat) (c : Nat) (n : Int) (len : Nat) (a : Addr) (cls : Value) (d : Option Addr) : TS := fun D σ H => σ.length = len → ∃ (C da : Addr) (v : V), cls = .ref C ∧ d = some da ∧ ClsOf K c C ∧ σ[i]? = some (some (.ref a)) ∧ H da = some (.xd [(errFld c, v)]) ∧
  ∀ (t : Addr), H t = none → D.rt (.ref t) (upd H t (.tup [.int n, v]))
section
variable {X : Cx} {i k c : Nat} {a C : Addr} {oe : Obj} {cls : Value} {d : Option Addr} {pn : List (Addr × Obj)} {nm : Str} {n : Int} {p1 p2 p3 p4 p5 p6 pos pos2 : Pos} {j : Nat} {x1 : Nat}
theorem ps_suiteN {fl : Str} (hfl : fl = errFld c) (hC : ClsOf X.K c C) (T : XcK X.K C) (hno : PySem.W.findIn X.K (.ref C) (errFld c) = some none)
    (hN : X.N[i]? = some nm) (hv : Vis X.env.scope nm) (hz : Zc cls d oe) (hf : ∃ vs, oe.data = .fields vs)
    (hd : (nm == ("__debug__" : Str)) = false := by decide) (hcd : (nm == ("__classdict__" : Str)) = false := by decide) :
    PSs (X.suite a ((a, oe) :: pn)) [.Return (some (.Tuple [.Constant (.int n) j p1, .Attribute (.Name nm p2) fl p3] x1 pos)) pos2] (tHdN X.K i c n X.N.length a cls d) := by
  subst hfl
  by_cases hcC : cls = .ref C ∧ ∃ da, d = some da
  · obtain ⟨ecls, da, ed⟩ := hcC
    subst ecls
    subst ed
    have T' : XfC X.K C := ⟨T.ga, T.gg, T.exC, T.hdC⟩
    have hw : PE (X.suite a ((a, oe) :: pn)) (.Name nm p2) (tVar i) := pe_var hN hv hd hcd
    have h2 := pe_xf (pos := p3) T' hno hz hf hw
    refine ⟨fun pins s σ H D I h => (pss_one (ps_ret (pe_tup (pa_cons pe_int (pa_cons h2 pa_nil))))).run pins s σ H D I ?_⟩
    obtain ⟨C2, da2, v, e1, e2, hC2, hs, hd2, q⟩ := h I.len
    have e1' := Value.ref.inj e1
    subst e1'
    have e2' := Option.some.inj e2
    subst e2'
    refine ⟨.ref a, hs, rfl, rfl, da, _, v, rfl, hd2, by simp [List.lookup], ?_, fun t ht => q t ht⟩
    show 2 ≤ sizeLine
    rw [sizeLine_eq]; omega
  · refine ⟨fun pins s σ H Q I h => ?_⟩
    obtain ⟨C2, da, v, e1, e2, hC2, _⟩ := h I.len
    exact absurd ⟨by rw [e1, cls_same hC2 hC], da, e2⟩ hcC
end
inductive HdsN (X : Cx) (nm : Str) (i : Nat) : List ExceptHandler → List (Nat × Int) → List (Value × (Addr → Value → Option Addr → TS)) → Prop
  | nil : HdsN X nm i [] [] []
  | cons {x : Str} {c : Nat} {C : Addr} {n : Int} {b₀ : Stmt} {suite : List Stmt} {np pos' : Pos} {hds : List ExceptHandler} {hs : List (Nat × Int)} {l : List (Value × (Addr → Value → Option Addr → TS))} (hC : ClsOf X.K c C) (T : XcK X.K C) (hc : Names X x (.ref C))
      (hsu : ∀ (a : Addr) (oe : Obj) (cls : Value) (d : Option Addr) (pn : List (Addr × Obj)), Zc cls d oe → (∃ vs, oe.data = .fields vs) → PSs (X.suite a ((a, oe) :: pn)) (b₀ :: suite) (tHdN X.K i c n X.N.length a cls d)) (r : HdsN X nm i hds hs l) :
      HdsN X nm i (.ExceptHandler (some (.Name x np)) (some nm) (b₀ :: suite) pos' :: hds) ((c, n) :: hs) ((.ref C, tHdN X.K i c n X.N.length) :: l)
section
variable {X : Cx} {dk l : Addr} {W : WX} {I0 H0 : Hp} {i : Nat} {nm : Str} {body : List Stmt} {h₀ : ExceptHandler} {hds : List ExceptHandler} {hs : List (Nat × Int)} {L : List (Value × (Addr → Value → Option Addr → TS))} {m : En → M Fl} {pos : Pos}
theorem HdsN.as (h : HdsN X nm i hds hs L) : HdsAs X nm hds L := by
  induction h with
  | nil => exact .nil
  | cons hC T hc hsu r ih => exact .cons hc hsu ih
theorem tell_okN {D : Ends} {c : Nat} {d : PV.D} {s' : Dk} (hi : i < X.N.length) (h : HdsN X nm i hds hs L)
    (q : Post (match hsN hs c with | some n => Res.ok (Fl.rt (.tup [.int n, d])) s' | none => .exc c d s') (fun f s1 => match f with | .rt d => ∀ v I' H', Ext dk l I0 H0 I' H' → Wo dk l I' H' s1 → Rep X.K I' dk d v → D.rt v H' | _ => False) (exS X.K dk l W I0 H0)) :
    exS X.K dk l (wManyAs X.K i W D L) I0 H0 c d s' := by
  intro σ' cls dd I' H' x w r
  obtain ⟨C, da, v, ec, hC, ed, hd, rv⟩ := r
  subst ec
  subst ed
  induction h with
  | nil => exact q σ' (.ref C) (some da) I' H' x w ⟨C, da, v, rfl, hC, rfl, hd, rv⟩
  | @cons x' c' C' n b₀ suite np pos' hds hs L' hC' T hc hsu r ih =>
    refine ⟨decide (c = c'), exm_dec hC hC' T, fun hb a na hlen => ?_, fun hb => ?_⟩
    · have hcc : c = c' := of_decide_eq_true hb
      subst hcc
      have q' : ∀ v I' H', Ext dk l I0 H0 I' H' → Wo dk l I' H' s' → Rep X.K I' dk (.tup [.int n, d]) v → D.rt v H' := by
        unfold hsN at q
        rw [if_pos rfl] at q
        exact q
      refine ⟨C, da, v, rfl, rfl, hC, List.getElem?_set_self (by rw [List.length_set] at hlen; omega), w.sub _ _ hd, fun t ht => ?_⟩
      have y1 := Ext.new (o := .tup [.int n, v]) w ht
      have w1 := Wo.new (o := .tup [.int n, v]) w ht
      exact q' (.ref t) _ _ (x.trans y1 w1) w1 ⟨t, _, rfl, upd_same, _, _, rfl, rfl, _, _, rfl, Rep.mono y1.grow d v rv, rfl⟩
    · have hcc : c ≠ c' := fun z => by rw [decide_eq_true z] at hb; cases hb
      refine ih ?_
      unfold hsN at q
      rw [if_neg hcc] at q
      exact q
theorem p_tryN (h1 : X.stack = X.env :: X.outer) (h2 : X.env.frame = some X.env.locals) (hN : X.N.Nodup) (hi : X.N[i]? = some nm) (hln : X.env.kindOf nm = some .local) (tk : Takes X W)
    (hb : ∀ (W' : WX) (pn : List (Addr × Obj)) (xe : Value → Shared → Prop), Takes (X.tr pn xe) W' → PassesOwn (model X.prog X.w) X.A X.env xe → PSs (X.tr pn xe) body (liftS X.K dk l W' I0 H0 m))
    (hh : HdsN X nm i (h₀ :: hds) hs L) : PS X (.Try body (h₀ :: hds) [] [] pos) (liftS X.K dk l W I0 H0 (sTryN m hs)) := by
  refine PS_imp (ps_try_manyAs (tb := fun W' => liftS X.K dk l W' I0 H0 m) h1 h2 hN hi hln tk hb hh.as) fun D σ H ⟨I, env, s, k, q⟩ => ?_
  refine ⟨I, env, s, k, ?_⟩
  have hlt : i < X.N.length := (List.getElem?_eq_some_iff.mp hi).1
  unfold sTryN at q
  cases e : m env s with
  | bad => rw [e] at q; exact q
  | ok f s1 => rw [e] at q; exact q
  | exc c d s1 =>
    rw [e] at q
    refine tell_okN hlt hh ?_
    have q' : Post (match hsN hs c with | some n => Res.ok (Fl.rt (.tup [.int n, d])) s1 | none => .exc c d s1) (flP X.K dk l I0 H0 I D) (exS X.K dk l W I0 H0) := q
    cases e2 : hsN hs c with
    | none => rw [e2] at q'; exact q'
    | some n => rw [e2] at q'; exact q'
end
/-! ### try, except the base class as e: return kinds(e) -/
def sTryB (m : En → M Fl) (ks : List (Option Nat)) : En → M Fl := fun env s => match m env s with
  | .exc c d s' => .ok (.rt (.lst ((kindsOf ks c).map D.bl))) s'
  | r => r
def tHdB (K : PySem.W.Frag) (ks : List (Option Nat)) (i : Nat) (len : Nat) (a : Addr) (cls : Value) (d : Option Addr) : TS := fun D σ H => σ.length = len → ∃ (C da : Addr) (c : Nat) (fs : List (Str × V)), cls = .ref C ∧ d = some da ∧ ClsOf K c C ∧ σ[i]? = some (some (.ref a)) ∧ H da = some (.xd fs) ∧
  ∀ (H' : Hp) (t : Addr), (∀ b o, H b = some o → H' b = some o) → H' t = none → D.rt (.ref t) (upd H' t (.lst ((kindsOf ks c).map V.bl)))
section
variable {X : Cx} {i k : Nat} {a : Addr} {oe : Obj} {cls : Value} {d : Option Addr} {pn : List (Addr × Obj)} {nm x : Str} {ks : List (Option Nat)} {f : Addr} {fd : FuncData} {p4 p5 p6 pos2 : Pos}
theorem ps_suiteB (XK : Xk X.K) (F : FnP X.prog X.w X.K X.mg X.base k f fd [nm] (spKinds X.K ks)) (hr : L2H.RoomH k X.A) (hg : Gl X x) (hm : X.mg x = some (.ref f)) (hk : PySem.W.keepIn X.K (.ref f) = true) (hb : Binds X.K fd [nm] []) {nm' : Str}
    (hN : X.N[i]? = some nm') (hv : Vis X.env.scope nm') (hz : Zc cls d oe) (hf : ∃ vs, oe.data = .fields vs)
    (hd : (nm' == ("__debug__" : Str)) = false := by decide) (hcd : (nm' == ("__classdict__" : Str)) = false := by decide) (hdx : (x == ("__debug__" : Str)) = false := by decide) :
    PSs (X.suite a ((a, oe) :: pn)) [.Return (some (.Call (.Name x p4) [.Name nm' p5] [] p6)) pos2] (tHdB X.K ks i X.N.length a cls d) := by
  have hw5 : PE (X.suite a ((a, oe) :: pn)) (.Name nm' p5) (tVar i) := pe_var hN hv hd hcd
  have h3 : PE (X.suite a ((a, oe) :: pn)) (.Call (.Name x p4) [.Name nm' p5] [] p6) (tCallP (spKinds X.K ks (a, oe)) (tCons (tVar i) tNil)) :=
    pe_callP (X := X.suite a ((a, oe) :: pn)) (p := (a, oe)) F ⟨hr.dp, hr.un⟩ List.mem_cons_self hg hm hk hb (pa_cons hw5 pa_nil) hdx
  refine ⟨fun pins s σ H D I h => (pss_one (ps_ret h3)).run pins s σ H D I ?_⟩
  obtain ⟨C, da, c, fs, e1, e2, hC, hs, hd2, q⟩ := h I.len
  subst e1
  subst e2
  exact ⟨.ref a, hs, rfl, C, c, da, fs, hz, hf, hC, (XK c C hC).1, hd2, fun H' t hk ht => q H' t hk ht⟩
end
/-- the base class, as a clause asks it -/
structure BaseX (K : PySem.W.Frag) (S : Addr) : Prop where
  exC : PySem.W.subIn K (.ref S) (.type "BaseException") = some true
  hdC : PySem.W.hasDictIn K S = true
section
variable {X : Cx} {dk l : Addr} {W : WX} {I0 H0 : Hp} {i : Nat} {nm x : Str} {body : List Stmt} {b₀ : Stmt} {suite : List Stmt} {np pos' : Pos} {m : En → M Fl} {ks : List (Option Nat)} {S : Addr} {pos : Pos}
theorem p_tryB (B : BaseT X.K X.mg S) (B2 : BaseX X.K S) (h1 : X.stack = X.env :: X.outer) (h2 : X.env.frame = some X.env.locals) (hN : X.N.Nodup) (hi : X.N[i]? = some nm) (hln : X.env.kindOf nm = some .local) (tk : Takes X W) (hx : Names X x (.ref S))
    (hb : ∀ (W' : WX) (pn : List (Addr × Obj)) (xe : Value → Shared → Prop), Takes (X.tr pn xe) W' → PassesOwn (model X.prog X.w) X.A X.env xe → PSs (X.tr pn xe) body (liftS X.K dk l W' I0 H0 m))
    (hsu : ∀ (a : Addr) (oe : Obj) (cls : Value) (d : Option Addr) (pn : List (Addr × Obj)), Zc cls d oe → (∃ vs, oe.data = .fields vs) → PSs (X.suite a ((a, oe) :: pn)) (b₀ :: suite) (tHdB X.K ks i X.N.length a cls d)) :
    PS X (.Try body [.ExceptHandler (some (.Name x np)) (some nm) (b₀ :: suite) pos'] [] [] pos) (liftS X.K dk l W I0 H0 (sTryB m ks)) := by
  have hh : HdsAs X nm [.ExceptHandler (some (.Name x np)) (some nm) (b₀ :: suite) pos'] [(.ref S, tHdB X.K ks i X.N.length)] := .cons hx hsu .nil
  refine PS_imp (ps_try_manyAs (tb := fun W' => liftS X.K dk l W' I0 H0 m) h1 h2 hN hi hln tk hb hh) fun D σ H ⟨I, env, s, k, q⟩ => ?_
  refine ⟨I, env, s, k, ?_⟩
  have hlt : i < X.N.length := (List.getElem?_eq_some_iff.mp hi).1
  unfold sTryB at q
  cases e : m env s with
  | bad => rw [e] at q; exact q
  | ok f s1 => rw [e] at q; exact q
  | exc c d s1 =>
    rw [e] at q
    have q' : ∀ v I' H', Ext dk l I0 H0 I' H' → Wo dk l I' H' s1 → Rep X.K I' dk (.lst ((kindsOf ks c).map PV.D.bl)) v → D.rt v H' := q
    intro σ' cls dd I' H' x w r
    obtain ⟨C, da, v, ec, hC, ed, hd, rv⟩ := r
    subst ec
    subst ed
    have sub := (cls_subS hC B.ns).1
    refine ⟨true, PySem.W.exm_ref B2.exC B2.hdC B.ty sub, fun _ a na hlen => ?_, fun z => by cases z⟩
    refine ⟨C, da, c, _, rfl, rfl, hC, List.getElem?_set_self (by rw [List.length_set] at hlen; omega), w.sub _ _ hd, fun H2 t hkp ht => ?_⟩
    have w0 : Wo dk l I' H2 s1 := ⟨fun b o e => hkp _ _ (w.sub _ _ e), hkp _ _ w.dko, hkp _ _ w.lft, w.idk, w.il⟩
    have x0 : Ext dk l I' H' I' H2 := ⟨Sm.refl I', fun b o e _ _ => hkp b o e, fun b o e n => by rw [e] at n; cases n⟩
    have y1 := Ext.new (o := .lst ((kindsOf ks c).map V.bl)) w0 ht
    have w1 := Wo.new (o := .lst ((kindsOf ks c).map V.bl)) w0 ht
    exact q' (.ref t) _ _ ((x.trans x0 w0).trans y1 w1) w1 ⟨t, _, rfl, upd_same, RepL.bls _⟩
end
end PV

end

section
set_option maxRecDepth 100000
set_option maxHeartbeats 4000000
namespace K00
open PySem PySem.Spec PyProof.Rows L2 PV
def q__law_deck : PickS PySem.Challenge.pw_sightsums_k00_errors_by_position_and_by.main.body 18 := ⟨_, by conv => lhs; whnf⟩
def s__law_deck : Stmt := q__law_deck.st
theorem sc__law_deck : FnScope ["script", "seed", "mixed", "cell"] ["script", "seed"] (defScope s__law_deck) := ⟨rfl, rfl, rfl, by decide +kernel, rfl, by decide +kernel, by decide +kernel⟩
def q__law_draw : PickS PySem.Challenge.pw_sightsums_k00_errors_by_position_and_by.main.body 19 := ⟨_, by conv => lhs; whnf⟩
def s__law_draw : Stmt := q__law_draw.st
theorem sc__law_draw : FnScope ["deck", "many", "cell", "figure"] ["deck", "many"] (defScope s__law_draw) := ⟨rfl, rfl, rfl, by decide +kernel, rfl, by decide +kernel, by decide +kernel⟩
def q__law_kinds : PickS PySem.Challenge.pw_sightsums_k00_errors_by_position_and_by.main.body 25 := ⟨_, by conv => lhs; whnf⟩
def s__law_kinds : Stmt := q__law_kinds.st
theorem sc__law_kinds : FnScope ["error", "found"] ["error"] (defScope s__law_kinds) := ⟨rfl, rfl, rfl, by decide +kernel, rfl, by decide +kernel, by decide +kernel⟩
def q__law_carried : PickS PySem.Challenge.pw_sightsums_k00_errors_by_position_and_by.main.body 30 := ⟨_, by conv => lhs; whnf⟩
def s__law_carried : Stmt := q__law_carried.st
theorem sc__law_carried : FnScope ["made", "found"] ["made"] (defScope s__law_carried) := ⟨rfl, rfl, rfl, by decide +kernel, rfl, by decide +kernel, by decide +kernel⟩
def q__law_pick : PickS PySem.Challenge.pw_sightsums_k00_errors_by_position_and_by.main.body 20 := ⟨_, by conv => lhs; whnf⟩
def s__law_pick : Stmt := q__law_pick.st
theorem sc__law_pick : FnScope ["deck", "some"] ["deck", "some"] (defScope s__law_pick) := ⟨rfl, rfl, rfl, by decide +kernel, rfl, by decide +kernel, by decide +kernel⟩
def q__law_is_own : PickS PySem.Challenge.pw_sightsums_k00_errors_by_position_and_by.main.body 26 := ⟨_, by conv => lhs; whnf⟩
def s__law_is_own : Stmt := q__law_is_own.st
theorem sc__law_is_own : FnScope ["at", "error", "place"] ["at", "error"] (defScope s__law_is_own) := ⟨rfl, rfl, rfl, by decide +kernel, rfl, by decide +kernel, by decide +kernel⟩
def q__law_by_position : PickS PySem.Challenge.pw_sightsums_k00_errors_by_position_and_by.main.body 23 := ⟨_, by conv => lhs; whnf⟩
def s__law_by_position : Stmt := q__law_by_position.st
theorem sc__law_by_position : FnScope ["it", "found"] ["it"] (defScope s__law_by_position) := ⟨rfl, rfl, rfl, by decide +kernel, rfl, by decide +kernel, by decide +kernel⟩
def q__law_by_name : PickS PySem.Challenge.pw_sightsums_k00_errors_by_position_and_by.main.body 24 := ⟨_, by conv => lhs; whnf⟩
def s__law_by_name : Stmt := q__law_by_name.st
theorem sc__law_by_name : FnScope ["it", "found"] ["it"] (defScope s__law_by_name) := ⟨rfl, rfl, rfl, by decide +kernel, rfl, by decide +kernel, by decide +kernel⟩
def q__law_raise : PickS PySem.Challenge.pw_sightsums_k00_errors_by_position_and_by.main.body 27 := ⟨_, by conv => lhs; whnf⟩
def s__law_raise : Stmt := q__law_raise.st
theorem sc__law_raise : FnScope ["way", "it"] ["way", "it"] (defScope s__law_raise) := ⟨rfl, rfl, rfl, by decide +kernel, rfl, by decide +kernel, by decide +kernel⟩
def q__law_caught : PickS PySem.Challenge.pw_sightsums_k00_errors_by_position_and_by.main.body 28 := ⟨_, by conv => lhs; whnf⟩
def s__law_caught : Stmt := q__law_caught.st
theorem sc__law_caught : FnScope ["way", "it", "e"] ["way", "it"] (defScope s__law_caught) := ⟨rfl, rfl, rfl, by decide +kernel, rfl, by decide +kernel, by decide +kernel⟩
def q__law_caught_as_base : PickS PySem.Challenge.pw_sightsums_k00_errors_by_position_and_by.main.body 29 := ⟨_, by conv => lhs; whnf⟩
def s__law_caught_as_base : Stmt := q__law_caught_as_base.st
theorem sc__law_caught_as_base : FnScope ["way", "it", "e"] ["way", "it"] (defScope s__law_caught_as_base) := ⟨rfl, rfl, rfl, by decide +kernel, rfl, by decide +kernel, by decide +kernel⟩
def q__law_is_same : PickS PySem.Challenge.pw_sightsums_k00_errors_by_position_and_by.main.body 22 := ⟨_, by conv => lhs; whnf⟩
def s__law_is_same : Stmt := q__law_is_same.st
theorem sc__law_is_same : FnScope ["near", "far", "at", "it", "key"] ["near", "far"] (defScope s__law_is_same) := ⟨rfl, rfl, rfl, by decide +kernel, rfl, by decide +kernel, by decide +kernel⟩
def q__law_any : PickS PySem.Challenge.pw_sightsums_k00_errors_by_position_and_by.main.body 21 := ⟨_, by conv => lhs; whnf⟩
def s__law_any : Stmt := q__law_any.st
theorem sc__law_any : FnScope ["deck", "deep", "way", "some", "turn"] ["deck", "deep"] (defScope s__law_any) := ⟨rfl, rfl, rfl, by decide +kernel, rfl, by decide +kernel, by decide +kernel⟩
def q_law : PickS PySem.Challenge.pw_sightsums_k00_errors_by_position_and_by.main.body 31 := ⟨_, by conv => lhs; whnf⟩
def s_law : Stmt := q_law.st
theorem sc_law : FnScope ["script", "deck", "near", "far", "some", "others", "made", "at", "error", "way", "caught", "it", "place"] ["script"] (defScope s_law) := ⟨rfl, rfl, rfl, by decide +kernel, rfl, by decide +kernel, by decide +kernel⟩
/-! the mirrors -/
-- HAND _law_deck
def B__law_draw : En → M Fl := (sSeq (sDkSet 0 .draws (eOp addD (eDkI 0 .draws) (eC (.int 1)))) (sSeq (sIf (tDkNe 0) (sSeq (sAsg (.nm 2) (eDkPop 0)) (sSeq (sIf (tVal (eOp geD (eVar 2) (eOp powD (eC (.int 10)) (eC (.int 18))))) (sSeq (sDkApp 0 (eOp fdivD (eVar 2) (eMapA gMax (eAcons (eC (.int 2)) (eAcons (eVar 1) eAnil))))) (sRet (eOp modD (eMapA (g1 intD) (eAcons (eVar 2) eAnil)) (eVar 1)))) sNext) (sDkSet 0 .mixed (eOp modD (eMapA (g1 intD) (eAcons (eOp addD (eOp addD (eOp mulD (eDkI 0 .mixed) (eC (.int 39373))) (eOp modD (eMapA (g1 intD) (eAcons (eVar 2) eAnil)) (eC (.int 2147483629)))) (eC (.int 13))) eAnil)) (eC (.int 2147483587)))))) sNext) (sSeq (sAsg (.nm 3) (eOp modD (eMapA (g1 intD) (eAcons (eOp addD (eDkI 0 .mixed) (eOp mulD (eC (.int 31337)) (eDkI 0 .draws))) eAnil)) (eC (.int 2147483647)))) (sSeq (sAsg (.nm 3) (eOp modD (eMapA (g1 intD) (eAcons (eOp addD (eOp addD (eOp mulD (eVar 3) (eVar 3)) (eOp mulD (eC (.int 48271)) (eDkI 0 .draws))) (eC (.int 17))) eAnil)) (eC (.int 2147483629)))) (sSeq (sAsg (.nm 3) (eOp modD (eMapA (g1 intD) (eAcons (eOp addD (eOp mulD (eVar 3) (eC (.int 69621))) (eC (.int 77))) eAnil)) (eC (.int 2147483563)))) (sRet (eOp modD (eMapA (g1 intD) (eAcons (eOp fdivD (eVar 3) (eC (.int 64))) eAnil)) (eVar 1))))))))
def F__law_draw : List D → M D := runF 4 B__law_draw
def ks__law_kinds : List (Option Nat) := ([some 0, some 1, some 2, some 3, some 4, some 5, some 6, some 7, some 8, some 9, some 10, some 11, some 12, some 13, some 14] : List (Option Nat))
def B__law_kinds : En → M Fl := (sSeq (sAsg (.nm 1) (eFrz (eMapO gLstO (eAcons (eUn (isE fun c => decide (c = 0)) (eVar 0)) (eAcons (eUn (isE fun c => decide (c = 1)) (eVar 0)) (eAcons (eUn (isE fun c => decide (c = 2)) (eVar 0)) eAnil)))))) (sSeq (sAsg (.nm 1) (eOp addD (eVar 1) (eFrz (eMapO gLstO (eAcons (eUn (isE fun c => decide (c = 3)) (eVar 0)) (eAcons (eUn (isE fun c => decide (c = 4)) (eVar 0)) (eAcons (eUn (isE fun c => decide (c = 5)) (eVar 0)) eAnil))))))) (sSeq (sAsg (.nm 1) (eOp addD (eVar 1) (eFrz (eMapO gLstO (eAcons (eUn (isE fun c => decide (c = 6)) (eVar 0)) (eAcons (eUn (isE fun c => decide (c = 7)) (eVar 0)) (eAcons (eUn (isE fun c => decide (c = 8)) (eVar 0)) eAnil))))))) (sSeq (sAsg (.nm 1) (eOp addD (eVar 1) (eFrz (eMapO gLstO (eAcons (eUn (isE fun c => decide (c = 9)) (eVar 0)) (eAcons (eUn (isE fun c => decide (c = 10)) (eVar 0)) (eAcons (eUn (isE fun c => decide (c = 11)) (eVar 0)) eAnil))))))) (sRet (eOp addD (eVar 1) (eFrz (eMapO gLstO (eAcons (eUn (isE fun c => decide (c = 12)) (eVar 0)) (eAcons (eUn (isE fun c => decide (c = 13)) (eVar 0)) (eAcons (eUn (isE fun c => decide (c = 14)) (eVar 0)) eAnil)))))))))))
def F__law_kinds : List D → M D := runF 2 B__law_kinds
def B__law_carried : En → M Fl := (sSeq (sAsg (.nm 1) (eFrz (eMapO gLstO (eAcons (eUn (fldD "thing") (eOp ixD (eVar 0) (eC (.int 0)))) (eAcons (eUn (fldD "thing") (eOp ixD (eVar 0) (eC (.int 1)))) (eAcons (eUn (fldD "thing") (eOp ixD (eVar 0) (eC (.int 2)))) (eAcons (eUn (fldD "thing") (eOp ixD (eVar 0) (eC (.int 3)))) (eAcons (eUn (fldD "thing") (eOp ixD (eVar 0) (eC (.int 4)))) (eAcons (eUn (fldD "thing") (eOp ixD (eVar 0) (eC (.int 5)))) (eAcons (eUn (fldD "thing") (eOp ixD (eVar 0) (eC (.int 6)))) eAnil)))))))))) (sSeq (sAsg (.nm 1) (eOp addD (eVar 1) (eFrz (eMapO gLstO (eAcons (eUn (fldD "thing") (eOp ixD (eVar 0) (eC (.int 7)))) (eAcons (eUn (fldD "thing") (eOp ixD (eVar 0) (eC (.int 8)))) (eAcons (eUn (fldD "thing") (eOp ixD (eVar 0) (eC (.int 9)))) (eAcons (eUn (fldD "thing") (eOp ixD (eVar 0) (eC (.int 10)))) (eAcons (eUn (fldD "thing") (eOp ixD (eVar 0) (eC (.int 11)))) (eAcons (eUn (fldD "thing") (eOp ixD (eVar 0) (eC (.int 12)))) eAnil)))))))))) (sRet (eOp addD (eVar 1) (eFrz (eMapO gLstO (eAcons (eUn (fldD "thing") (eOp ixD (eVar 0) (eC (.int 13)))) (eAcons (eUn (fldD "certificate") (eOp ixD (eVar 0) (eC (.int 14)))) eAnil))))))))
def F__law_carried : List D → M D := runF 2 B__law_carried
def B__law_pick : En → M Fl := (sRet (eOp ixD (eVar 1) (eCall (cN 2 F__law_draw) (eAcons (eVar 0) (eAcons (eMapA (g1 lenD) (eAcons (eVar 1) eAnil)) eAnil)))))
def F__law_pick : List D → M D := runF 2 B__law_pick
def B__law_is_own : En → M Fl := (sSeq (sIf (tOr' (tNot' (tVal (eUn (isE fun _ => true) (eVar 1)))) (tNot' (tVal (eUn (isE fun _ => true) (eVar 1))))) (sRet (eC (.bl false))) sNext) (sSeq (sIf (tVal (eUn (isE fun _ => false) (eVar 1))) (sRet (eC (.bl false))) sNext) (sRet (eOp eqD (eCall (cN 1 F__law_kinds) (eAcons (eVar 1) eAnil)) (eFrz (eLc (eMapI gRange1 (eAcons (eC (.int 15)) eAnil)) (.nm 2) [2] tYes' (eOp eqD (eVar 2) (eVar 0))))))))
def F__law_is_own : List D → M D := runF 3 B__law_is_own
def B__law_by_position : En → M Fl := (sSeq (sAsg (.nm 1) (eFrz (eMapO gLstO (eAcons (eMk 0 (eVar 0)) (eAcons (eMk 1 (eVar 0)) (eAcons (eMk 2 (eVar 0)) (eAcons (eMk 3 (eVar 0)) (eAcons (eMk 4 (eVar 0)) (eAcons (eMk 5 (eVar 0)) (eAcons (eMk 6 (eVar 0)) eAnil)))))))))) (sSeq (sAsg (.nm 1) (eOp addD (eVar 1) (eFrz (eMapO gLstO (eAcons (eMk 7 (eVar 0)) (eAcons (eMk 8 (eVar 0)) (eAcons (eMk 9 (eVar 0)) (eAcons (eMk 10 (eVar 0)) (eAcons (eMk 11 (eVar 0)) (eAcons (eMk 12 (eVar 0)) eAnil)))))))))) (sRet (eOp addD (eVar 1) (eFrz (eMapO gLstO (eAcons (eMk 13 (eVar 0)) (eAcons (eMk 14 (eVar 0)) eAnil))))))))
def F__law_by_position : List D → M D := runF 2 B__law_by_position
def B__law_by_name : En → M Fl := (sSeq (sAsg (.nm 1) (eFrz (eMapO gLstO (eAcons (eMk 0 (eVar 0)) (eAcons (eMk 1 (eVar 0)) (eAcons (eMk 2 (eVar 0)) (eAcons (eMk 3 (eVar 0)) (eAcons (eMk 4 (eVar 0)) eAnil)))))))) (sSeq (sAsg (.nm 1) (eOp addD (eVar 1) (eFrz (eMapO gLstO (eAcons (eMk 5 (eVar 0)) (eAcons (eMk 6 (eVar 0)) (eAcons (eMk 7 (eVar 0)) (eAcons (eMk 8 (eVar 0)) eAnil)))))))) (sSeq (sAsg (.nm 1) (eOp addD (eVar 1) (eFrz (eMapO gLstO (eAcons (eMk 9 (eVar 0)) (eAcons (eMk 10 (eVar 0)) (eAcons (eMk 11 (eVar 0)) (eAcons (eMk 12 (eVar 0)) eAnil)))))))) (sRet (eOp addD (eVar 1) (eFrz (eMapO gLstO (eAcons (eMk 13 (eVar 0)) (eAcons (eMk 14 (eVar 0)) eAnil)))))))))
def F__law_by_name : List D → M D := runF 2 B__law_by_name
def B__law_raise : En → M Fl := (sSeq (sIf (tVal (eOp eqD (eVar 0) (eC (.int 0)))) (sRaise 0 (eVar 1)) sNext) (sSeq (sIf (tVal (eOp eqD (eVar 0) (eC (.int 1)))) (sRaise 1 (eVar 1)) sNext) (sSeq (sIf (tVal (eOp eqD (eVar 0) (eC (.int 2)))) (sRaise 2 (eVar 1)) sNext) (sSeq (sIf (tVal (eOp eqD (eVar 0) (eC (.int 3)))) (sRaise 3 (eVar 1)) sNext) (sSeq (sIf (tVal (eOp eqD (eVar 0) (eC (.int 4)))) (sRaise 4 (eVar 1)) sNext) (sSeq (sIf (tVal (eOp eqD (eVar 0) (eC (.int 5)))) (sRaise 5 (eVar 1)) sNext) (sSeq (sIf (tVal (eOp eqD (eVar 0) (eC (.int 6)))) (sRaise 6 (eVar 1)) sNext) (sSeq (sIf (tVal (eOp eqD (eVar 0) (eC (.int 7)))) (sRaise 7 (eVar 1)) sNext) (sSeq (sIf (tVal (eOp eqD (eVar 0) (eC (.int 8)))) (sRaise 8 (eVar 1)) sNext) (sSeq (sIf (tVal (eOp eqD (eVar 0) (eC (.int 9)))) (sRaise 9 (eVar 1)) sNext) (sSeq (sIf (tVal (eOp eqD (eVar 0) (eC (.int 10)))) (sRaise 10 (eVar 1)) sNext) (sSeq (sIf (tVal (eOp eqD (eVar 0) (eC (.int 11)))) (sRaise 11 (eVar 1)) sNext) (sSeq (sIf (tVal (eOp eqD (eVar 0) (eC (.int 12)))) (sRaise 12 (eVar 1)) sNext) (sSeq (sIf (tVal (eOp eqD (eVar 0) (eC (.int 13)))) (sRaise 13 (eVar 1)) sNext) (sRaise 14 (eVar 1))))))))))))))))
def F__law_raise : List D → M D := runF 2 B__law_raise
def B__law_caught : En → M Fl := (sSeq (sTryN (sDrop (eCall (cN 2 F__law_raise) (eAcons (eVar 0) (eAcons (eVar 1) eAnil)))) [(14, 14), (2, 2), (1, 1), (12, 12), (0, 0), (8, 8), (4, 4), (13, 13), (3, 3), (11, 11), (7, 7), (5, 5), (10, 10), (6, 6), (9, 9)]) (sRet (eMapA gTupD (eAcons (eC (.int 15)) (eAcons (eC .non) eAnil)))))
def F__law_caught : List D → M D := runF 3 B__law_caught
def B__law_caught_as_base : En → M Fl := (sSeq (sTryB (sDrop (eCall (cN 2 F__law_raise) (eAcons (eVar 0) (eAcons (eVar 1) eAnil)))) ks__law_kinds) (sRet (eFrz (eMapO gLstO eAnil))))
def F__law_caught_as_base : List D → M D := runF 3 B__law_caught_as_base
def B__law_is_same (R : List D → M D) : En → M Fl := (sSeq (sIf (tVal (eUn (isTs [.list, .tuple]) (eVar 0))) (sSeq (sIf (tOr' (tNot' (tVal (eUn (isTs [.list, .tuple]) (eVar 1)))) (tVal (eOp neD (eUn (isT .list) (eVar 0)) (eUn (isT .list) (eVar 1))))) (sRet (eC (.bl false))) sNext) (sRet (eAndV (eOp eqD (eMapA (g1 lenD) (eAcons (eVar 0) eAnil)) (eMapA (g1 lenD) (eAcons (eVar 1) eAnil))) (eOp eqN (eFrz (eLc (eMapI gEnum (eAcons (eVar 0) eAnil)) (.tp [(.nm 2), (.nm 3)]) [2, 3] (tNot' (tVal (eCall (cN 2 R) (eAcons (eVar 3) (eAcons (eOp ixD (eVar 1) (eVar 2)) eAnil))))) (eVar 2))) (eFrz (eMapO gLstO eAnil)))))) sNext) (sSeq (sIf (tVal (eUn (isT .dict) (eVar 0))) (sSeq (sIf (tOr' (tNot' (tVal (eUn (isT .dict) (eVar 1)))) (tVal (eOp neD (eMapA (g1 lenF) (eAcons (eVar 0) eAnil)) (eMapA (g1 lenF) (eAcons (eVar 1) eAnil))))) (sRet (eC (.bl false))) sNext) (sRet (eOp eqN (eFrz (eLc (eKeys (eVar 0)) (.nm 4) [4] (tOr' (tVal (eOp notinF (eVar 4) (eVar 1))) (tNot' (tVal (eCall (cN 2 R) (eAcons (eOp ixF (eVar 0) (eVar 4)) (eAcons (eOp ixF (eVar 1) (eVar 4)) eAnil)))))) (eVar 4))) (eFrz (eMapO gLstO eAnil))))) sNext) (sRet (eAndV (eNotV (eUn (isTs [.list, .tuple, .dict]) (eVar 1))) (eOp eqD (eMapA (g1 reprD2) (eAcons (eVar 0) eAnil)) (eMapA (g1 reprD2) (eAcons (eVar 1) eAnil)))))))
def Fr__law_is_same : Nat → List D → M D
  | 0 => fun _ => bad
  | n + 1 => runF 5 (B__law_is_same (Fr__law_is_same n))
def F__law_is_same : List D → M D := Fr__law_is_same 10
def B__law_any (R : List D → M D) : En → M Fl := (sSeq (sAsg (.nm 2) (eCall (cN 2 F__law_draw) (eAcons (eVar 0) (eAcons (eC (.int 10)) eAnil)))) (sSeq (sIf (tVal (eOp ltD (eVar 2) (eC (.int 2)))) (sRet (eCall (cN 2 F__law_pick) (eAcons (eVar 0) (eAcons (eFrz (eMapO gLstO (eAcons (eC (.int 0)) (eAcons (eC (.int 1)) (eAcons (eUn negD (eC (.int 1))) (eAcons (eC (.int 7)) (eAcons (eOp powD (eC (.int 10)) (eC (.int 29))) (eAcons (eUn negD (eOp powD (eC (.int 10)) (eC (.int 20)))) (eAcons (eC (.int 2)) (eAcons (eC (.int 5)) eAnil)))))))))) eAnil)))) sNext) (sSeq (sIf (tVal (eOp ltD (eVar 2) (eC (.int 4)))) (sRet (eCall (cN 2 F__law_pick) (eAcons (eVar 0) (eAcons (eFrz (eMapO gLstO (eAcons (eC (.str "")) (eAcons (eC (.str "a")) (eAcons (eC (.str "(0, 1)")) (eAcons (eC (.str "lists")) (eAcons (eC (.str "x\ny")) (eAcons (eC (.str "~")) eAnil)))))))) eAnil)))) sNext) (sSeq (sIf (tVal (eOp eqD (eVar 2) (eC (.int 4)))) (sRet (eCall (cN 2 F__law_pick) (eAcons (eVar 0) (eAcons (eFrz (eMapO gLstO (eAcons (eC (.bl true)) (eAcons (eC (.bl false)) (eAcons (eC .non) eAnil))))) eAnil)))) sNext) (sSeq (sAsg (.nm 3) (eIf (tVal (eOp gtD (eVar 1) (eC (.int 0)))) (eFrz (eLc (eMapI gRange1 (eAcons (eCall (cN 2 F__law_draw) (eAcons (eVar 0) (eAcons (eC (.int 4)) eAnil))) eAnil)) (.nm 4) [4] tYes' (eCall (cN 2 R) (eAcons (eVar 0) (eAcons (eOp subD (eVar 1) (eC (.int 1))) eAnil))))) (eFrz (eMapO gLstO eAnil)))) (sSeq (sIf (tVal (eOp eqD (eVar 2) (eC (.int 5)))) (sRet (eVar 3)) sNext) (sRet (eIf (tVal (eOp eqD (eVar 2) (eC (.int 6)))) (eDispF (.inr "key") (.inl 1) (eVar 3) (eMapA (g1 lenD) (eAcons (eVar 3) eAnil))) (eMapA (g1 tupleD) (eAcons (eVar 3) eAnil))))))))))
def Fr__law_any : Nat → List D → M D
  | 0 => fun _ => bad
  | n + 1 => runF 5 (B__law_any (Fr__law_any n))
def F__law_any : List D → M D := Fr__law_any 10
def B_law : En → M Fl := (sSeq (sAsg2 [2, 3] (e2val (eCall (cN 2 F__law_any) (eAcons (eVar 1) (eAcons (eC (.int 3)) eAnil))) (e2val (eMapA gTupD (eAcons (eCall (cN 2 F__law_any) (eAcons (eVar 1) (eAcons (eC (.int 2)) eAnil))) eAnil)) e2nil))) (sSeq (sAsg2 [4, 5] (e2val (eCall (cN 1 F__law_by_position) (eAcons (eVar 2) eAnil)) (e2val (eCall (cN 1 F__law_by_name) (eAcons (eVar 3) eAnil)) e2nil))) (sSeq (sIf (tVal (eOp neN (eFrz (eLc (eItems (eCall (cN 1 F__law_carried) (eAcons (eVar 4) eAnil))) (.nm 11) [11] (tNot' (tVal (eCall (cN 2 F__law_is_same) (eAcons (eVar 11) (eAcons (eVar 2) eAnil))))) (eVar 11))) (eFrz (eMapO gLstO eAnil)))) (sRet (eC (.bl false))) sNext) (sSeq (sIf (tVal (eOp neN (eFrz (eLc (eItems (eCall (cN 1 F__law_carried) (eAcons (eVar 5) eAnil))) (.nm 11) [11] (tNot' (tVal (eCall (cN 2 F__law_is_same) (eAcons (eVar 11) (eAcons (eVar 3) eAnil))))) (eVar 11))) (eFrz (eMapO gLstO eAnil)))) (sRet (eC (.bl false))) sNext) (sSeq (sFor (eItems (eMapA gTupD (eAcons (eVar 4) (eAcons (eVar 5) eAnil)))) (.nm 6) (sFor (eMapI gEnum (eAcons (eVar 6) eAnil)) (.tp [(.nm 7), (.nm 8)]) (sIf (tNot' (tVal (eCall (cN 2 F__law_is_own) (eAcons (eVar 7) (eAcons (eVar 8) eAnil))))) (sRet (eC (.bl false))) sNext))) (sSeq (sFor (eMapI gRange1 (eAcons (eC (.int 15)) eAnil)) (.nm 9) (sSeq (sAsg (.nm 10) (eCall (cN 2 F__law_caught) (eAcons (eVar 9) (eAcons (eVar 2) eAnil)))) (sSeq (sIf (tOr' (tVal (eOp neD (eOp ixD (eVar 10) (eC (.int 0))) (eVar 9))) (tNot' (tVal (eCall (cN 2 F__law_is_same) (eAcons (eOp ixD (eVar 10) (eC (.int 1))) (eAcons (eVar 2) eAnil)))))) (sRet (eC (.bl false))) sNext) (sIf (tVal (eOp neD (eCall (cN 2 F__law_caught_as_base) (eAcons (eVar 9) (eAcons (eVar 3) eAnil))) (eFrz (eLc (eMapI gRange1 (eAcons (eC (.int 15)) eAnil)) (.nm 12) [12] tYes' (eOp eqD (eVar 12) (eVar 9)))))) (sRet (eC (.bl false))) sNext)))) (sRet (eC (.bl true)))))))))
/-! what the module holds -/
abbrev P : Program := PySem.Challenge.pw_sightsums_k00_errors_by_position_and_by
end K00

end

section
set_option maxRecDepth 100000
set_option maxHeartbeats 4000000
namespace K00
open PySem PySem.Spec PyProof.Rows L2 PV
structure Txt (K : PySem.W.Frag) (mg : Str → Option Value) where
  b_ArithmeticError : mg "ArithmeticError" = none
  b_AttributeError : mg "AttributeError" = none
  b_Exception : mg "Exception" = none
  b_LookupError : mg "LookupError" = none
  b_RuntimeError : mg "RuntimeError" = none
  b_TypeError : mg "TypeError" = none
  b_ValueError : mg "ValueError" = none
  b_dict : mg "dict" = none
  b_enumerate : mg "enumerate" = none
  b_int : mg "int" = none
  b_isinstance : mg "isinstance" = none
  b_len : mg "len" = none
  b_list : mg "list" = none
  b_max : mg "max" = none
  b_range : mg "range" = none
  b_repr : mg "repr" = none
  b_tuple : mg "tuple" = none
  C_SightError : Addr
  e_SightError : BaseT K mg C_SightError
  x_SightError : BaseX K C_SightError
  C_BadShape : Addr
  e_BadShape : ErrT P K mg 0 C_BadShape
  C_BadModulus : Addr
  e_BadModulus : ErrT P K mg 1 C_BadModulus
  C_BadLot : Addr
  e_BadLot : ErrT P K mg 2 C_BadLot
  C_BadWord : Addr
  e_BadWord : ErrT P K mg 3 C_BadWord
  C_BadList : Addr
  e_BadList : ErrT P K mg 4 C_BadList
  C_BadFamily : Addr
  e_BadFamily : ErrT P K mg 5 C_BadFamily
  C_BadSystem : Addr
  e_BadSystem : ErrT P K mg 6 C_BadSystem
  C_BadScheme : Addr
  e_BadScheme : ErrT P K mg 7 C_BadScheme
  C_BadPlan : Addr
  e_BadPlan : ErrT P K mg 8 C_BadPlan
  C_BadDemand : Addr
  e_BadDemand : ErrT P K mg 9 C_BadDemand
  C_BadQuestion : Addr
  e_BadQuestion : ErrT P K mg 10 C_BadQuestion
  C_BadTold : Addr
  e_BadTold : ErrT P K mg 11 C_BadTold
  C_BadWeb : Addr
  e_BadWeb : ErrT P K mg 12 C_BadWeb
  C_BadNumber : Addr
  e_BadNumber : ErrT P K mg 13 C_BadNumber
  C_Barred : Addr
  e_Barred : ErrT P K mg 14 C_Barred
  a__law_deck : Addr
  d__law_deck : FuncData
  f__law_deck : Fun K "_law_deck" "_law_deck" s__law_deck a__law_deck d__law_deck
  m__law_deck : mg "_law_deck" = some (.ref a__law_deck)
  a__law_draw : Addr
  d__law_draw : FuncData
  f__law_draw : Fun K "_law_draw" "_law_draw" s__law_draw a__law_draw d__law_draw
  m__law_draw : mg "_law_draw" = some (.ref a__law_draw)
  a__law_kinds : Addr
  d__law_kinds : FuncData
  f__law_kinds : Fun K "_law_kinds" "_law_kinds" s__law_kinds a__law_kinds d__law_kinds
  m__law_kinds : mg "_law_kinds" = some (.ref a__law_kinds)
  a__law_carried : Addr
  d__law_carried : FuncData
  f__law_carried : Fun K "_law_carried" "_law_carried" s__law_carried a__law_carried d__law_carried
  m__law_carried : mg "_law_carried" = some (.ref a__law_carried)
  a__law_pick : Addr
  d__law_pick : FuncData
  f__law_pick : Fun K "_law_pick" "_law_pick" s__law_pick a__law_pick d__law_pick
  m__law_pick : mg "_law_pick" = some (.ref a__law_pick)
  a__law_is_own : Addr
  d__law_is_own : FuncData
  f__law_is_own : Fun K "_law_is_own" "_law_is_own" s__law_is_own a__law_is_own d__law_is_own
  m__law_is_own : mg "_law_is_own" = some (.ref a__law_is_own)
  a__law_by_position : Addr
  d__law_by_position : FuncData
  f__law_by_position : Fun K "_law_by_position" "_law_by_position" s__law_by_position a__law_by_position d__law_by_position
  m__law_by_position : mg "_law_by_position" = some (.ref a__law_by_position)
  a__law_by_name : Addr
  d__law_by_name : FuncData
  f__law_by_name : Fun K "_law_by_name" "_law_by_name" s__law_by_name a__law_by_name d__law_by_name
  m__law_by_name : mg "_law_by_name" = some (.ref a__law_by_name)
  a__law_raise : Addr
  d__law_raise : FuncData
  f__law_raise : Fun K "_law_raise" "_law_raise" s__law_raise a__law_raise d__law_raise
  m__law_raise : mg "_law_raise" = some (.ref a__law_raise)
  a__law_caught : Addr
  d__law_caught : FuncData
  f__law_caught : Fun K "_law_caught" "_law_caught" s__law_caught a__law_caught d__law_caught
  m__law_caught : mg "_law_caught" = some (.ref a__law_caught)
  a__law_caught_as_base : Addr
  d__law_caught_as_base : FuncData
  f__law_caught_as_base : Fun K "_law_caught_as_base" "_law_caught_as_base" s__law_caught_as_base a__law_caught_as_base d__law_caught_as_base
  m__law_caught_as_base : mg "_law_caught_as_base" = some (.ref a__law_caught_as_base)
  a__law_is_same : Addr
  d__law_is_same : FuncData
  f__law_is_same : Fun K "_law_is_same" "_law_is_same" s__law_is_same a__law_is_same d__law_is_same
  m__law_is_same : mg "_law_is_same" = some (.ref a__law_is_same)
  a__law_any : Addr
  d__law_any : FuncData
  f__law_any : Fun K "_law_any" "_law_any" s__law_any a__law_any d__law_any
  m__law_any : mg "_law_any" = some (.ref a__law_any)
  a_law : Addr
  d_law : FuncData
  f_law : Fun K "law" "law" s_law a_law d_law
  m_law : mg "law" = some (.ref a_law)
section
variable {w : World} {K : PySem.W.Frag} {mg : Str → Option Value} {base : Heap}
theorem Txt.xk (T : Txt K mg) : Xk K := fun c C h => match c, h with
  | 0, h => by cases (cls_same h T.e_BadShape.of); exact ⟨T.e_BadShape.xc, cls_some h, T.e_BadShape.nof⟩
  | 1, h => by cases (cls_same h T.e_BadModulus.of); exact ⟨T.e_BadModulus.xc, cls_some h, T.e_BadModulus.nof⟩
  | 2, h => by cases (cls_same h T.e_BadLot.of); exact ⟨T.e_BadLot.xc, cls_some h, T.e_BadLot.nof⟩
  | 3, h => by cases (cls_same h T.e_BadWord.of); exact ⟨T.e_BadWord.xc, cls_some h, T.e_BadWord.nof⟩
  | 4, h => by cases (cls_same h T.e_BadList.of); exact ⟨T.e_BadList.xc, cls_some h, T.e_BadList.nof⟩
  | 5, h => by cases (cls_same h T.e_BadFamily.of); exact ⟨T.e_BadFamily.xc, cls_some h, T.e_BadFamily.nof⟩
  | 6, h => by cases (cls_same h T.e_BadSystem.of); exact ⟨T.e_BadSystem.xc, cls_some h, T.e_BadSystem.nof⟩
  | 7, h => by cases (cls_same h T.e_BadScheme.of); exact ⟨T.e_BadScheme.xc, cls_some h, T.e_BadScheme.nof⟩
  | 8, h => by cases (cls_same h T.e_BadPlan.of); exact ⟨T.e_BadPlan.xc, cls_some h, T.e_BadPlan.nof⟩
  | 9, h => by cases (cls_same h T.e_BadDemand.of); exact ⟨T.e_BadDemand.xc, cls_some h, T.e_BadDemand.nof⟩
  | 10, h => by cases (cls_same h T.e_BadQuestion.of); exact ⟨T.e_BadQuestion.xc, cls_some h, T.e_BadQuestion.nof⟩
  | 11, h => by cases (cls_same h T.e_BadTold.of); exact ⟨T.e_BadTold.xc, cls_some h, T.e_BadTold.nof⟩
  | 12, h => by cases (cls_same h T.e_BadWeb.of); exact ⟨T.e_BadWeb.xc, cls_some h, T.e_BadWeb.nof⟩
  | 13, h => by cases (cls_same h T.e_BadNumber.of); exact ⟨T.e_BadNumber.xc, cls_some h, T.e_BadNumber.nof⟩
  | 14, h => by cases (cls_same h T.e_Barred.of); exact ⟨T.e_Barred.xc, cls_some h, T.e_Barred.nof⟩
  | n + 15, h => absurd h.1 (by omega)
theorem Txt.k__law_deck (T : Txt K mg) : Binds K T.d__law_deck ["script", "seed"] [] := T.f__law_deck.binds fun _ _ _ _ _ _ us hl => match us, hl with | [_, _], _ => rfl
theorem Txt.k__law_draw (T : Txt K mg) : Binds K T.d__law_draw ["deck", "many"] [] := T.f__law_draw.binds fun _ _ _ _ _ _ us hl => match us, hl with | [_, _], _ => rfl
theorem Txt.k__law_kinds (T : Txt K mg) : Binds K T.d__law_kinds ["error"] [] := T.f__law_kinds.binds fun _ _ _ _ _ _ us hl => match us, hl with | [_], _ => rfl
theorem Txt.k__law_carried (T : Txt K mg) : Binds K T.d__law_carried ["made"] [] := T.f__law_carried.binds fun _ _ _ _ _ _ us hl => match us, hl with | [_], _ => rfl
theorem Txt.k__law_pick (T : Txt K mg) : Binds K T.d__law_pick ["deck", "some"] [] := T.f__law_pick.binds fun _ _ _ _ _ _ us hl => match us, hl with | [_, _], _ => rfl
theorem Txt.k__law_is_own (T : Txt K mg) : Binds K T.d__law_is_own ["at", "error"] [] := T.f__law_is_own.binds fun _ _ _ _ _ _ us hl => match us, hl with | [_, _], _ => rfl
theorem Txt.k__law_by_position (T : Txt K mg) : Binds K T.d__law_by_position ["it"] [] := T.f__law_by_position.binds fun _ _ _ _ _ _ us hl => match us, hl with | [_], _ => rfl
theorem Txt.k__law_by_name (T : Txt K mg) : Binds K T.d__law_by_name ["it"] [] := T.f__law_by_name.binds fun _ _ _ _ _ _ us hl => match us, hl with | [_], _ => rfl
theorem Txt.k__law_raise (T : Txt K mg) : Binds K T.d__law_raise ["way", "it"] [] := T.f__law_raise.binds fun _ _ _ _ _ _ us hl => match us, hl with | [_, _], _ => rfl
theorem Txt.k__law_caught (T : Txt K mg) : Binds K T.d__law_caught ["way", "it"] [] := T.f__law_caught.binds fun _ _ _ _ _ _ us hl => match us, hl with | [_, _], _ => rfl
theorem Txt.k__law_caught_as_base (T : Txt K mg) : Binds K T.d__law_caught_as_base ["way", "it"] [] := T.f__law_caught_as_base.binds fun _ _ _ _ _ _ us hl => match us, hl with | [_, _], _ => rfl
theorem Txt.k__law_is_same (T : Txt K mg) : Binds K T.d__law_is_same ["near", "far"] [] := T.f__law_is_same.binds fun _ _ _ _ _ _ us hl => match us, hl with | [_, _], _ => rfl
theorem Txt.k__law_any (T : Txt K mg) : Binds K T.d__law_any ["deck", "deep"] [] := T.f__law_any.binds fun _ _ _ _ _ _ us hl => match us, hl with | [_, _], _ => rfl
theorem Txt.k_law (T : Txt K mg) : Binds K T.d_law ["script"] [] := T.f_law.binds fun _ _ _ _ _ _ us hl => match us, hl with | [_], _ => rfl
-- HAND ok__law_deck (level 1)
end
end K00

end

section
set_option maxRecDepth 100000
set_option maxHeartbeats 400000
namespace K00
open PySem PySem.Spec PyProof.Rows L2 PV
section
variable {w : World} {K : PySem.W.Frag} {mg : Str → Option Value} {base : Heap}
theorem ok__law_deck (T : Txt K mg) : FnG P w K mg base 1 T.a__law_deck T.d__law_deck ["script", "seed"] (spDk K) := by
  have nd := sc__law_deck.nd
  refine fng_of T.f__law_deck sc__law_deck (fun vs H Q E h => ?_) fun cdv A outer z H vs Q E hG hr h => ?_
  · obtain ⟨a, ns, n, e, _⟩ := h
    rw [e]; rfl
  · obtain ⟨a, ns, n, e, hS, hl, q⟩ := h
    subst e
    refine ⟨_, pss_cons (ps_set (i := 2) nd rfl (.inl rfl) (pv 1)) (pss_cons (ps_for (passes_of rfl) rfl (pi_list (pe_slice sl_list (pv 0) po_none (po_some pe_int))) (pg_name (i := 3) nd rfl (.inl rfl))
      (pss_one (ps_set (i := 2) nd rfl (.inl rfl) (pe_op op_modN (pe_callTy call_int1 (by rfl) T.b_int bt_int (pa_cons (pe_op op_add (pe_op op_add (pe_op op_mul (pv 2) pe_int) (pe_op op_modN (pe_callTy call_int1 (by rfl) T.b_int bt_int (pa_cons (pv 3) pa_nil)) pe_int)) pe_int) pa_nil)) pe_int))))
      (pss_one (ps_ret (pe_disp (pps_cons pe_str (pe_revL (pe_callTy call_list_of (by rfl) T.b_list bt_list (pa_cons (pe_slice sl_list (pv 0) po_none (po_some pe_int)) pa_nil))) (pps_cons pe_str (pv 2) (pps_cons pe_str pe_int pps_nil))) rfl rfl (by intro z; cases z) (by decide))))), ?_⟩
    refine ⟨.int n, rfl, ?_⟩
    obtain ⟨ms, em, lm⟩ := cut_ints ns none (some 63)
    refine ⟨.ref a, rfl, 63, rfl, a, _, rfl, hS, fun c nc => ⟨c, rfl, ⟨_, .of upd_same⟩, ?_⟩⟩
    rw [em]
    have kc : ∀ b o, H b = some o → upd H c (.lst (ms.map V.int)) b = some o := fun b o e => by rw [upd_ne (ne_of_none e nc)]; exact e
    refine for_list (xs := ms.map V.int) (fun i σ H3 => H3 = upd H c (.lst (ms.map V.int)) ∧ ∃ (m : Int) (y : Option V), σ = [some (.ref a), some (.int n), some (.int m), y]) ⟨rfl, n, none, rfl⟩ (fun i σ H3 _ h => ?_) (fun i x σ H3 hx h => ?_) fun σ H3 h => ?_
    · obtain ⟨rfl, _⟩ := h
      exact .of upd_same
    · obtain ⟨rfl, m, y, rfl⟩ := h
      rw [List.getElem?_map] at hx
      cases hz : ms[i]? with
      | none => rw [hz] at hx; cases hx
      | some zc =>
        rw [hz] at hx
        cases hx
        exact ⟨.int m, rfl, _, _, rfl, rfl, .inr ⟨by decide, by decide⟩, .int zc, rfl, .inl ⟨zc, rfl, _, _, rfl, rfl, (show (2147483629 : Int) ≠ 0 by decide), _, _, rfl, rfl, _, _, rfl, rfl, .inl ⟨_, rfl, _, _, rfl, rfl, (show (2147483563 : Int) ≠ 0 by decide), rfl, _, _, rfl⟩⟩⟩
    · obtain ⟨rfl, m, y, rfl⟩ := h
      intro p hp
      have hpc : p ≠ c := fun z => by subst z; rw [upd_same] at hp; cases hp
      have hpH : H p = none := by rw [upd_ne hpc] at hp; exact hp
      have k1 : ∀ b o, H b = some o → upd (upd H c (.lst (ms.map V.int))) p (.dK []) b = some o := fun b o e => by rw [upd_ne (ne_of_none e hpH)]; exact kc b o e
      refine ⟨.ref a, rfl, 63, rfl, a, _, rfl, Sm.sqL k1 hS, fun c2 nc2 => ?_⟩
      rw [em]
      refine ⟨c2, _, rfl, .inl (.of upd_same), fun l1 nl1 => ⟨l1, _, rfl, .of upd_same, fun l nl => ⟨.int m, rfl, ?_⟩⟩⟩
      have n2 : p ≠ c2 := ne_of_none upd_same nc2
      have e2 : upd (upd (upd H c (.lst (ms.map V.int))) p (.dK [])) c2 (.lst (ms.map V.int)) p = some (.dK []) := by rw [upd_ne n2]; exact upd_same
      have n3 : p ≠ l1 := ne_of_none e2 nl1
      have e3 : upd (upd (upd (upd H c (.lst (ms.map V.int))) p (.dK [])) c2 (.lst (ms.map V.int))) l1 (.lst (ms.map V.int)) p = some (.dK []) := by rw [upd_ne n3]; exact e2
      have n4 : p ≠ l := ne_of_none e3 nl
      have e4 : upd (upd (upd (upd (upd H c (.lst (ms.map V.int))) p (.dK [])) c2 (.lst (ms.map V.int))) l1 (.lst (ms.map V.int))) l (.lst (ms.map V.int).reverse) p = some (.dK []) := by rw [upd_ne n4]; exact e3
      refine ⟨e4, [(.inr "left", .ref l), (.inr "mixed", .int m), (.inr "draws", .int 0)], rfl, (show 3 ≤ 15 by decide), ?_⟩
      have k2 : ∀ b o, H b = some o → upd (upd (upd (upd (upd H c (.lst (ms.map V.int))) p (.dK [])) c2 (.lst (ms.map V.int))) l1 (.lst (ms.map V.int))) l (.lst (ms.map V.int).reverse) b = some o := fun b o e => by
        have h1 := k1 b o e
        have h2 : upd (upd (upd H c (.lst (ms.map V.int))) p (.dK [])) c2 (.lst (ms.map V.int)) b = some o := by rw [upd_ne (ne_of_none h1 nc2)]; exact h1
        have h3 : upd (upd (upd (upd H c (.lst (ms.map V.int))) p (.dK [])) c2 (.lst (ms.map V.int))) l1 (.lst (ms.map V.int)) b = some o := by rw [upd_ne (ne_of_none h2 nl1)]; exact h2
        rw [upd_ne (ne_of_none h3 nl)]; exact h3
      refine q _ p l ⟨ms.reverse, m, 0⟩ (fun b o e => ?_) (by rw [upd_same]; rfl) ?_ (by show ms.reverse.length ≤ 63; rw [List.length_reverse]; omega)
      · rw [upd_ne (ne_of_none e hpH)]
        exact k2 b o e
      · rw [upd_ne n4.symm, upd_same, List.map_reverse]
theorem ok__law_draw (T : Txt K mg) : FnG P w K mg base 1 T.a__law_draw T.d__law_draw ["deck", "many"] (spF K 2 F__law_draw) := by
  have nd := sc__law_draw.nd
  have h := fun b => @def_rule P w K mg base _ _ _ _ _ _ _ 0 B__law_draw T.f__law_draw sc__law_draw b
  have e : spF K ((["deck", "many"] : List Str).length) (runF ((["deck", "many", "cell", "figure"] : List Str).length) B__law_draw) = spF K 2 F__law_draw := rfl
  rw [e] at h
  refine h (fun cdv A outer z H0 E dk l I0 hG hr => ?_)
  have un := hr.un
  have hu0 : (A.deeper (envOfC "_law_draw" (defScope s__law_draw) z.heap.objs.size T.a__law_draw cdv)).units < cLine := by omega
  have hu1 : (A.deeper (envOfC "_law_draw" (defScope s__law_draw) z.heap.objs.size T.a__law_draw cdv)).units + 1 < cLine := by omega
  have hu8 : (A.deeper (envOfC "_law_draw" (defScope s__law_draw) z.heap.objs.size T.a__law_draw cdv)).units + 8 < cLine := by omega
  have hu64 : (A.deeper (envOfC "_law_draw" (defScope s__law_draw) z.heap.objs.size T.a__law_draw cdv)).units + 64 < cLine := by omega
  have hu128 : (A.deeper (envOfC "_law_draw" (defScope s__law_draw) z.heap.objs.size T.a__law_draw cdv)).units + 128 < cLine := by omega
  exact (p_cons (p_dkSet 0 .draws hu1 (pv 0) (r_op o_add (r_dkI 0 .draws hu1 (pv 0)) r_int)) (p_cons (p_if (r_dkNe 0 hu1 hu64 (pv 0)) (p_cons (p_asg (r_dkPop 0 hu1 (pv 0)) (pgN (pg_name nd (i := 2) (by rfl) (by first | exact .inl rfl | exact .inr rfl)))) (p_cons (p_if (r_tcmp o_ge (r_var 2 (ta := tVar 2) (pv 2)) (r_op o_pow r_int r_int) (nomark _)) (p_cons (p_dkApp 0 hu1 (pv 0) (r_op o_fdiv (r_var 2 (ta := tVar 2) (pv 2)) (r_callB (c_max rfl) (by rfl) T.b_max bt_max (r_acons r_int (r_acons (r_var 1 (ta := tVar 1) (pv 1)) r_anil))))) (p_one (p_ret (r_op o_mod (r_callT c_int (by rfl) T.b_int bt_int (r_acons (r_var 2 (ta := tVar 2) (pv 2)) r_anil)) (r_var 1 (ta := tVar 1) (pv 1)))))) p_nil) (p_one (p_dkSet 0 .mixed hu1 (pv 0) (r_op o_mod (r_callT c_int (by rfl) T.b_int bt_int (r_acons (r_op o_add (r_op o_add (r_op o_mul (r_dkI 0 .mixed hu1 (pv 0)) r_int) (r_op o_mod (r_callT c_int (by rfl) T.b_int bt_int (r_acons (r_var 2 (ta := tVar 2) (pv 2)) r_anil)) r_int)) r_int) r_anil)) r_int))))) p_nil) (p_cons (p_asg (r_op o_mod (r_callT c_int (by rfl) T.b_int bt_int (r_acons (r_op o_add (r_dkI 0 .mixed hu1 (pv 0)) (r_op o_mul r_int (r_dkI 0 .draws hu1 (pv 0)))) r_anil)) r_int) (pgN (pg_name nd (i := 3) (by rfl) (by first | exact .inl rfl | exact .inr rfl)))) (p_cons (p_asg (r_op o_mod (r_callT c_int (by rfl) T.b_int bt_int (r_acons (r_op o_add (r_op o_add (r_op o_mul (r_var 3 (ta := tVar 3) (pv 3)) (r_var 3 (ta := tVar 3) (pv 3))) (r_op o_mul r_int (r_dkI 0 .draws hu1 (pv 0)))) r_int) r_anil)) r_int) (pgN (pg_name nd (i := 3) (by rfl) (by first | exact .inl rfl | exact .inr rfl)))) (p_cons (p_asg (r_op o_mod (r_callT c_int (by rfl) T.b_int bt_int (r_acons (r_op o_add (r_op o_mul (r_var 3 (ta := tVar 3) (pv 3)) r_int) r_int) r_anil)) r_int) (pgN (pg_name nd (i := 3) (by rfl) (by first | exact .inl rfl | exact .inr rfl)))) (p_one (p_ret (r_op o_mod (r_callT c_int (by rfl) T.b_int bt_int (r_acons (r_op o_fdiv (r_var 3 (ta := tVar 3) (pv 3)) r_int) r_anil)) (r_var 1 (ta := tVar 1) (pv 1))))))))))
theorem okp__law_kinds (T : Txt K mg) : FnP P w K mg base 1 T.a__law_kinds T.d__law_kinds ["error"] (spKinds K ks__law_kinds) := fnp_kinds3 (k := 0) (fun c => [decide (c = 0), decide (c = 1), decide (c = 2)] ++ ([decide (c = 3), decide (c = 4), decide (c = 5)] ++ ([decide (c = 6), decide (c = 7), decide (c = 8)] ++ ([decide (c = 9), decide (c = 10), decide (c = 11)] ++ ([decide (c = 12), decide (c = 13), decide (c = 14)]))))) (fun c => rfl) T.f__law_kinds sc__law_kinds (by decide) fun cdv A outer s H E p C c da hz hf hc hx hr => by
  exact ps_kr_first (pa_is_cons (pe_isX hx (cls_some hc) (by exact List.mem_singleton.mpr rfl) hz hf (kit_dec hc T.e_BadShape.of T.e_BadShape.xc) (by rfl) T.b_isinstance (by rfl) (.inl rfl) (by rfl) T.e_BadShape.glob) (pa_is_cons (pe_isX hx (cls_some hc) (by exact List.mem_singleton.mpr rfl) hz hf (kit_dec hc T.e_BadModulus.of T.e_BadModulus.xc) (by rfl) T.b_isinstance (by rfl) (.inl rfl) (by rfl) T.e_BadModulus.glob) (pa_is_cons (pe_isX hx (cls_some hc) (by exact List.mem_singleton.mpr rfl) hz hf (kit_dec hc T.e_BadLot.of T.e_BadLot.xc) (by rfl) T.b_isinstance (by rfl) (.inl rfl) (by rfl) T.e_BadLot.glob) pa_is_nil))) (ps_kr_step (pa_is_cons (pe_isX hx (cls_some hc) (by exact List.mem_singleton.mpr rfl) hz hf (kit_dec hc T.e_BadWord.of T.e_BadWord.xc) (by rfl) T.b_isinstance (by rfl) (.inl rfl) (by rfl) T.e_BadWord.glob) (pa_is_cons (pe_isX hx (cls_some hc) (by exact List.mem_singleton.mpr rfl) hz hf (kit_dec hc T.e_BadList.of T.e_BadList.xc) (by rfl) T.b_isinstance (by rfl) (.inl rfl) (by rfl) T.e_BadList.glob) (pa_is_cons (pe_isX hx (cls_some hc) (by exact List.mem_singleton.mpr rfl) hz hf (kit_dec hc T.e_BadFamily.of T.e_BadFamily.xc) (by rfl) T.b_isinstance (by rfl) (.inl rfl) (by rfl) T.e_BadFamily.glob) pa_is_nil))) (ps_kr_step (pa_is_cons (pe_isX hx (cls_some hc) (by exact List.mem_singleton.mpr rfl) hz hf (kit_dec hc T.e_BadSystem.of T.e_BadSystem.xc) (by rfl) T.b_isinstance (by rfl) (.inl rfl) (by rfl) T.e_BadSystem.glob) (pa_is_cons (pe_isX hx (cls_some hc) (by exact List.mem_singleton.mpr rfl) hz hf (kit_dec hc T.e_BadScheme.of T.e_BadScheme.xc) (by rfl) T.b_isinstance (by rfl) (.inl rfl) (by rfl) T.e_BadScheme.glob) (pa_is_cons (pe_isX hx (cls_some hc) (by exact List.mem_singleton.mpr rfl) hz hf (kit_dec hc T.e_BadPlan.of T.e_BadPlan.xc) (by rfl) T.b_isinstance (by rfl) (.inl rfl) (by rfl) T.e_BadPlan.glob) pa_is_nil))) (ps_kr_step (pa_is_cons (pe_isX hx (cls_some hc) (by exact List.mem_singleton.mpr rfl) hz hf (kit_dec hc T.e_BadDemand.of T.e_BadDemand.xc) (by rfl) T.b_isinstance (by rfl) (.inl rfl) (by rfl) T.e_BadDemand.glob) (pa_is_cons (pe_isX hx (cls_some hc) (by exact List.mem_singleton.mpr rfl) hz hf (kit_dec hc T.e_BadQuestion.of T.e_BadQuestion.xc) (by rfl) T.b_isinstance (by rfl) (.inl rfl) (by rfl) T.e_BadQuestion.glob) (pa_is_cons (pe_isX hx (cls_some hc) (by exact List.mem_singleton.mpr rfl) hz hf (kit_dec hc T.e_BadTold.of T.e_BadTold.xc) (by rfl) T.b_isinstance (by rfl) (.inl rfl) (by rfl) T.e_BadTold.glob) pa_is_nil))) (ps_kr_last (pa_is_cons (pe_isX hx (cls_some hc) (by exact List.mem_singleton.mpr rfl) hz hf (kit_dec hc T.e_BadWeb.of T.e_BadWeb.xc) (by rfl) T.b_isinstance (by rfl) (.inl rfl) (by rfl) T.e_BadWeb.glob) (pa_is_cons (pe_isX hx (cls_some hc) (by exact List.mem_singleton.mpr rfl) hz hf (kit_dec hc T.e_BadNumber.of T.e_BadNumber.xc) (by rfl) T.b_isinstance (by rfl) (.inl rfl) (by rfl) T.e_BadNumber.glob) (pa_is_cons (pe_isX hx (cls_some hc) (by exact List.mem_singleton.mpr rfl) hz hf (kit_dec hc T.e_Barred.of T.e_Barred.xc) (by rfl) T.b_isinstance (by rfl) (.inl rfl) (by rfl) T.e_Barred.glob) pa_is_nil))) (by rfl) (by rfl)) sc__law_kinds.nd (by rfl) (by rfl)) sc__law_kinds.nd (by rfl) (by rfl)) sc__law_kinds.nd (by rfl) (by rfl)) sc__law_kinds.nd (by rfl) (by rfl)
theorem ok__law_kinds (T : Txt K mg) : FnG P w K mg base 1 T.a__law_kinds T.d__law_kinds ["error"] (spF K 1 F__law_kinds) := by
  have nd := sc__law_kinds.nd
  have h := fun b => @def_rule P w K mg base _ _ _ _ _ _ _ 0 B__law_kinds T.f__law_kinds sc__law_kinds b
  have e : spF K ((["error"] : List Str).length) (runF ((["error", "found"] : List Str).length) B__law_kinds) = spF K 1 F__law_kinds := rfl
  rw [e] at h
  refine h (fun cdv A outer z H0 E dk l I0 hG hr => ?_)
  have un := hr.un
  have hu0 : (A.deeper (envOfC "_law_kinds" (defScope s__law_kinds) z.heap.objs.size T.a__law_kinds cdv)).units < cLine := by omega
  have hu1 : (A.deeper (envOfC "_law_kinds" (defScope s__law_kinds) z.heap.objs.size T.a__law_kinds cdv)).units + 1 < cLine := by omega
  have hu8 : (A.deeper (envOfC "_law_kinds" (defScope s__law_kinds) z.heap.objs.size T.a__law_kinds cdv)).units + 8 < cLine := by omega
  have hu64 : (A.deeper (envOfC "_law_kinds" (defScope s__law_kinds) z.heap.objs.size T.a__law_kinds cdv)).units + 64 < cLine := by omega
  have hu128 : (A.deeper (envOfC "_law_kinds" (defScope s__law_kinds) z.heap.objs.size T.a__law_kinds cdv)).units + 128 < cLine := by omega
  exact (p_cons (p_asg (r_frz (r_lst (r_acons (r_isC T.xk (by rfl) T.b_isinstance (fun _ _ h => kit_dec h T.e_BadShape.of T.e_BadShape.xc) (.own _) (pe_glob (v := .ref T.C_BadShape) (by rfl) T.e_BadShape.glob rfl) (r_var 0 (ta := tVar 0) (pv 0))) (r_acons (r_isC T.xk (by rfl) T.b_isinstance (fun _ _ h => kit_dec h T.e_BadModulus.of T.e_BadModulus.xc) (.own _) (pe_glob (v := .ref T.C_BadModulus) (by rfl) T.e_BadModulus.glob rfl) (r_var 0 (ta := tVar 0) (pv 0))) (r_acons (r_isC T.xk (by rfl) T.b_isinstance (fun _ _ h => kit_dec h T.e_BadLot.of T.e_BadLot.xc) (.own _) (pe_glob (v := .ref T.C_BadLot) (by rfl) T.e_BadLot.glob rfl) (r_var 0 (ta := tVar 0) (pv 0))) r_anil))))) (pgN (pg_name nd (i := 1) (by rfl) (by first | exact .inl rfl | exact .inr rfl)))) (p_cons (p_asg (r_op o_add (r_var 1 (ta := tVar 1) (pv 1)) (r_frz (r_lst (r_acons (r_isC T.xk (by rfl) T.b_isinstance (fun _ _ h => kit_dec h T.e_BadWord.of T.e_BadWord.xc) (.own _) (pe_glob (v := .ref T.C_BadWord) (by rfl) T.e_BadWord.glob rfl) (r_var 0 (ta := tVar 0) (pv 0))) (r_acons (r_isC T.xk (by rfl) T.b_isinstance (fun _ _ h => kit_dec h T.e_BadList.of T.e_BadList.xc) (.own _) (pe_glob (v := .ref T.C_BadList) (by rfl) T.e_BadList.glob rfl) (r_var 0 (ta := tVar 0) (pv 0))) (r_acons (r_isC T.xk (by rfl) T.b_isinstance (fun _ _ h => kit_dec h T.e_BadFamily.of T.e_BadFamily.xc) (.own _) (pe_glob (v := .ref T.C_BadFamily) (by rfl) T.e_BadFamily.glob rfl) (r_var 0 (ta := tVar 0) (pv 0))) r_anil)))))) (pgN (pg_name nd (i := 1) (by rfl) (by first | exact .inl rfl | exact .inr rfl)))) (p_cons (p_asg (r_op o_add (r_var 1 (ta := tVar 1) (pv 1)) (r_frz (r_lst (r_acons (r_isC T.xk (by rfl) T.b_isinstance (fun _ _ h => kit_dec h T.e_BadSystem.of T.e_BadSystem.xc) (.own _) (pe_glob (v := .ref T.C_BadSystem) (by rfl) T.e_BadSystem.glob rfl) (r_var 0 (ta := tVar 0) (pv 0))) (r_acons (r_isC T.xk (by rfl) T.b_isinstance (fun _ _ h => kit_dec h T.e_BadScheme.of T.e_BadScheme.xc) (.own _) (pe_glob (v := .ref T.C_BadScheme) (by rfl) T.e_BadScheme.glob rfl) (r_var 0 (ta := tVar 0) (pv 0))) (r_acons (r_isC T.xk (by rfl) T.b_isinstance (fun _ _ h => kit_dec h T.e_BadPlan.of T.e_BadPlan.xc) (.own _) (pe_glob (v := .ref T.C_BadPlan) (by rfl) T.e_BadPlan.glob rfl) (r_var 0 (ta := tVar 0) (pv 0))) r_anil)))))) (pgN (pg_name nd (i := 1) (by rfl) (by first | exact .inl rfl | exact .inr rfl)))) (p_cons (p_asg (r_op o_add (r_var 1 (ta := tVar 1) (pv 1)) (r_frz (r_lst (r_acons (r_isC T.xk (by rfl) T.b_isinstance (fun _ _ h => kit_dec h T.e_BadDemand.of T.e_BadDemand.xc) (.own _) (pe_glob (v := .ref T.C_BadDemand) (by rfl) T.e_BadDemand.glob rfl) (r_var 0 (ta := tVar 0) (pv 0))) (r_acons (r_isC T.xk (by rfl) T.b_isinstance (fun _ _ h => kit_dec h T.e_BadQuestion.of T.e_BadQuestion.xc) (.own _) (pe_glob (v := .ref T.C_BadQuestion) (by rfl) T.e_BadQuestion.glob rfl) (r_var 0 (ta := tVar 0) (pv 0))) (r_acons (r_isC T.xk (by rfl) T.b_isinstance (fun _ _ h => kit_dec h T.e_BadTold.of T.e_BadTold.xc) (.own _) (pe_glob (v := .ref T.C_BadTold) (by rfl) T.e_BadTold.glob rfl) (r_var 0 (ta := tVar 0) (pv 0))) r_anil)))))) (pgN (pg_name nd (i := 1) (by rfl) (by first | exact .inl rfl | exact .inr rfl)))) (p_one (p_ret (r_op o_add (r_var 1 (ta := tVar 1) (pv 1)) (r_frz (r_lst (r_acons (r_isC T.xk (by rfl) T.b_isinstance (fun _ _ h => kit_dec h T.e_BadWeb.of T.e_BadWeb.xc) (.own _) (pe_glob (v := .ref T.C_BadWeb) (by rfl) T.e_BadWeb.glob rfl) (r_var 0 (ta := tVar 0) (pv 0))) (r_acons (r_isC T.xk (by rfl) T.b_isinstance (fun _ _ h => kit_dec h T.e_BadNumber.of T.e_BadNumber.xc) (.own _) (pe_glob (v := .ref T.C_BadNumber) (by rfl) T.e_BadNumber.glob rfl) (r_var 0 (ta := tVar 0) (pv 0))) (r_acons (r_isC T.xk (by rfl) T.b_isinstance (fun _ _ h => kit_dec h T.e_Barred.of T.e_Barred.xc) (.own _) (pe_glob (v := .ref T.C_Barred) (by rfl) T.e_Barred.glob rfl) (r_var 0 (ta := tVar 0) (pv 0))) r_anil))))))))))))
theorem ok__law_carried (T : Txt K mg) : FnG P w K mg base 1 T.a__law_carried T.d__law_carried ["made"] (spF K 1 F__law_carried) := by
  have nd := sc__law_carried.nd
  have h := fun b => @def_rule P w K mg base _ _ _ _ _ _ _ 0 B__law_carried T.f__law_carried sc__law_carried b
  have e : spF K ((["made"] : List Str).length) (runF ((["made", "found"] : List Str).length) B__law_carried) = spF K 1 F__law_carried := rfl
  rw [e] at h
  refine h (fun cdv A outer z H0 E dk l I0 hG hr => ?_)
  have un := hr.un
  have hu0 : (A.deeper (envOfC "_law_carried" (defScope s__law_carried) z.heap.objs.size T.a__law_carried cdv)).units < cLine := by omega
  have hu1 : (A.deeper (envOfC "_law_carried" (defScope s__law_carried) z.heap.objs.size T.a__law_carried cdv)).units + 1 < cLine := by omega
  have hu8 : (A.deeper (envOfC "_law_carried" (defScope s__law_carried) z.heap.objs.size T.a__law_carried cdv)).units + 8 < cLine := by omega
  have hu64 : (A.deeper (envOfC "_law_carried" (defScope s__law_carried) z.heap.objs.size T.a__law_carried cdv)).units + 64 < cLine := by omega
  have hu128 : (A.deeper (envOfC "_law_carried" (defScope s__law_carried) z.heap.objs.size T.a__law_carried cdv)).units + 128 < cLine := by omega
  exact (p_cons (p_asg (r_frz (r_lst (r_acons (r_fld T.xk (r_ix hu1 (r_var 0 (ta := tVar 0) (pv 0)) r_int (fun _ _ => rfl))) (r_acons (r_fld T.xk (r_ix hu1 (r_var 0 (ta := tVar 0) (pv 0)) r_int (fun _ _ => rfl))) (r_acons (r_fld T.xk (r_ix hu1 (r_var 0 (ta := tVar 0) (pv 0)) r_int (fun _ _ => rfl))) (r_acons (r_fld T.xk (r_ix hu1 (r_var 0 (ta := tVar 0) (pv 0)) r_int (fun _ _ => rfl))) (r_acons (r_fld T.xk (r_ix hu1 (r_var 0 (ta := tVar 0) (pv 0)) r_int (fun _ _ => rfl))) (r_acons (r_fld T.xk (r_ix hu1 (r_var 0 (ta := tVar 0) (pv 0)) r_int (fun _ _ => rfl))) (r_acons (r_fld T.xk (r_ix hu1 (r_var 0 (ta := tVar 0) (pv 0)) r_int (fun _ _ => rfl))) r_anil))))))))) (pgN (pg_name nd (i := 1) (by rfl) (by first | exact .inl rfl | exact .inr rfl)))) (p_cons (p_asg (r_op o_add (r_var 1 (ta := tVar 1) (pv 1)) (r_frz (r_lst (r_acons (r_fld T.xk (r_ix hu1 (r_var 0 (ta := tVar 0) (pv 0)) r_int (fun _ _ => rfl))) (r_acons (r_fld T.xk (r_ix hu1 (r_var 0 (ta := tVar 0) (pv 0)) r_int (fun _ _ => rfl))) (r_acons (r_fld T.xk (r_ix hu1 (r_var 0 (ta := tVar 0) (pv 0)) r_int (fun _ _ => rfl))) (r_acons (r_fld T.xk (r_ix hu1 (r_var 0 (ta := tVar 0) (pv 0)) r_int (fun _ _ => rfl))) (r_acons (r_fld T.xk (r_ix hu1 (r_var 0 (ta := tVar 0) (pv 0)) r_int (fun _ _ => rfl))) (r_acons (r_fld T.xk (r_ix hu1 (r_var 0 (ta := tVar 0) (pv 0)) r_int (fun _ _ => rfl))) r_anil))))))))) (pgN (pg_name nd (i := 1) (by rfl) (by first | exact .inl rfl | exact .inr rfl)))) (p_one (p_ret (r_op o_add (r_var 1 (ta := tVar 1) (pv 1)) (r_frz (r_lst (r_acons (r_fld T.xk (r_ix hu1 (r_var 0 (ta := tVar 0) (pv 0)) r_int (fun _ _ => rfl))) (r_acons (r_fld T.xk (r_ix hu1 (r_var 0 (ta := tVar 0) (pv 0)) r_int (fun _ _ => rfl))) r_anil)))))))))
theorem ok__law_pick (T : Txt K mg) : FnG P w K mg base 2 T.a__law_pick T.d__law_pick ["deck", "some"] (spF K 2 F__law_pick) := by
  have G__law_draw := ok__law_draw (w := w) (base := base) T
  have nd := sc__law_pick.nd
  have h := fun b => @def_rule P w K mg base _ _ _ _ _ _ _ 1 B__law_pick T.f__law_pick sc__law_pick b
  have e : spF K ((["deck", "some"] : List Str).length) (runF ((["deck", "some"] : List Str).length) B__law_pick) = spF K 2 F__law_pick := rfl
  rw [e] at h
  refine h (fun cdv A outer z H0 E dk l I0 hG hr => ?_)
  have un := hr.un
  have hu0 : (A.deeper (envOfC "_law_pick" (defScope s__law_pick) z.heap.objs.size T.a__law_pick cdv)).units < cLine := by omega
  have hu1 : (A.deeper (envOfC "_law_pick" (defScope s__law_pick) z.heap.objs.size T.a__law_pick cdv)).units + 1 < cLine := by omega
  have hu8 : (A.deeper (envOfC "_law_pick" (defScope s__law_pick) z.heap.objs.size T.a__law_pick cdv)).units + 8 < cLine := by omega
  have hu64 : (A.deeper (envOfC "_law_pick" (defScope s__law_pick) z.heap.objs.size T.a__law_pick cdv)).units + 64 < cLine := by omega
  have hu128 : (A.deeper (envOfC "_law_pick" (defScope s__law_pick) z.heap.objs.size T.a__law_pick cdv)).units + 128 < cLine := by omega
  exact (p_one (p_ret (r_ix hu1 (r_var 1 (ta := tVar 1) (pv 1)) (r_call G__law_draw hG (hr.mono (by decide)) (by rfl) T.m__law_draw T.f__law_draw.kp T.k__law_draw (fun σ => passAt (takes_of rfl rfl rfl rfl) σ) (r_acons (r_var 0 (ta := tVar 0) (pv 0)) (r_acons (r_callB c_len (by rfl) T.b_len PySem.boot_len (r_acons (r_var 1 (ta := tVar 1) (pv 1)) r_anil)) r_anil)) rfl) (fun _ _ => rfl))))
theorem ok__law_is_own (T : Txt K mg) : FnG P w K mg base 2 T.a__law_is_own T.d__law_is_own ["at", "error"] (spF K 2 F__law_is_own) := by
  have GP__law_kinds := okp__law_kinds (w := w) (base := base) T
  have G__law_kinds := ok__law_kinds (w := w) (base := base) T
  have nd := sc__law_is_own.nd
  have h := fun b => @def_rule P w K mg base _ _ _ _ _ _ _ 1 B__law_is_own T.f__law_is_own sc__law_is_own b
  have e : spF K ((["at", "error"] : List Str).length) (runF ((["at", "error", "place"] : List Str).length) B__law_is_own) = spF K 2 F__law_is_own := rfl
  rw [e] at h
  refine h (fun cdv A outer z H0 E dk l I0 hG hr => ?_)
  have un := hr.un
  have hu0 : (A.deeper (envOfC "_law_is_own" (defScope s__law_is_own) z.heap.objs.size T.a__law_is_own cdv)).units < cLine := by omega
  have hu1 : (A.deeper (envOfC "_law_is_own" (defScope s__law_is_own) z.heap.objs.size T.a__law_is_own cdv)).units + 1 < cLine := by omega
  have hu8 : (A.deeper (envOfC "_law_is_own" (defScope s__law_is_own) z.heap.objs.size T.a__law_is_own cdv)).units + 8 < cLine := by omega
  have hu64 : (A.deeper (envOfC "_law_is_own" (defScope s__law_is_own) z.heap.objs.size T.a__law_is_own cdv)).units + 64 < cLine := by omega
  have hu128 : (A.deeper (envOfC "_law_is_own" (defScope s__law_is_own) z.heap.objs.size T.a__law_is_own cdv)).units + 128 < cLine := by omega
  exact (p_cons (p_if ((r_or (r_not (r_tval (r_isC T.xk (by rfl) T.b_isinstance (fun _ _ h => kit_decS h T.e_SightError.ns T.e_SightError.cls T.e_SightError.ty) (.own _) (pe_glob (v := .ref T.C_SightError) (by rfl) T.e_SightError.glob rfl) (r_var 1 (ta := tVar 1) (pv 1))))) (r_or1 (r_not (r_tval (r_isC T.xk (by rfl) T.b_isinstance (fun _ _ h => kit_base "Exception" true (by decide +kernel) (by decide +kernel) h) (.ty _) (pe_bltn (v := .ty "Exception") (by rfl) T.b_Exception (by decide +kernel) rfl) (r_var 1 (ta := tVar 1) (pv 1)))))))).pt (p_one (p_ret r_bl)) p_nil) (p_cons (p_if (r_tval (r_isVT (Ts := ["ValueError", "TypeError", "LookupError", "ArithmeticError", "RuntimeError", "AttributeError"]) T.xk (by rfl) T.b_isinstance (by decide) (by decide +kernel) (pa_ty_cons (by rfl) T.b_ValueError (by decide +kernel) (pa_ty_cons (by rfl) T.b_TypeError (by decide +kernel) (pa_ty_cons (by rfl) T.b_LookupError (by decide +kernel) (pa_ty_cons (by rfl) T.b_ArithmeticError (by decide +kernel) (pa_ty_cons (by rfl) T.b_RuntimeError (by decide +kernel) (pa_ty_cons (by rfl) T.b_AttributeError (by decide +kernel) pa_ty_nil)))))) (r_var 1 (ta := tVar 1) (pv 1)))) (p_one (p_ret r_bl)) p_nil) (p_one (p_ret (r_cmp (o_eq hu64) (r_call G__law_kinds hG (hr.mono (by decide)) (by rfl) T.m__law_kinds T.f__law_kinds.kp T.k__law_kinds (fun σ => passAt (takes_of rfl rfl rfl rfl) σ) (r_acons (r_var 1 (ta := tVar 1) (pv 1)) r_anil) rfl) (r_frz (r_lc (own := [("place", 2)]) rfl nd (r_B (r_range1 (by rfl) T.b_range (r_acons r_int r_anil))) (blkOk_by (N := ["at", "error", "place"]) (sc := defScope s__law_is_own) (by decide +kernel)) (fun _ _ _ _ _ => (pgN (pg_name nd (i := 2) (by rfl) (by first | exact .inl rfl | exact .inr rfl)))) (fun _ _ _ _ _ => r_pts_nil) (fun _ _ _ _ _ => (r_cmp (o_eq hu64) (r_var 2 (ta := tVar 2) (pv 2)) (r_var 0 (ta := tVar 0) (pv 0)) (nomark _))) (by decide))) (nomark _))))))
theorem ok__law_by_position (T : Txt K mg) : FnG P w K mg base 3 T.a__law_by_position T.d__law_by_position ["it"] (spF K 1 F__law_by_position) := by
  have nd := sc__law_by_position.nd
  have h := fun b => @def_rule P w K mg base _ _ _ _ _ _ _ 2 B__law_by_position T.f__law_by_position sc__law_by_position b
  have e : spF K ((["it"] : List Str).length) (runF ((["it", "found"] : List Str).length) B__law_by_position) = spF K 1 F__law_by_position := rfl
  rw [e] at h
  refine h (fun cdv A outer z H0 E dk l I0 hG hr => ?_)
  have un := hr.un
  have hu0 : (A.deeper (envOfC "_law_by_position" (defScope s__law_by_position) z.heap.objs.size T.a__law_by_position cdv)).units < cLine := by omega
  have hu1 : (A.deeper (envOfC "_law_by_position" (defScope s__law_by_position) z.heap.objs.size T.a__law_by_position cdv)).units + 1 < cLine := by omega
  have hu8 : (A.deeper (envOfC "_law_by_position" (defScope s__law_by_position) z.heap.objs.size T.a__law_by_position cdv)).units + 8 < cLine := by omega
  have hu64 : (A.deeper (envOfC "_law_by_position" (defScope s__law_by_position) z.heap.objs.size T.a__law_by_position cdv)).units + 64 < cLine := by omega
  have hu128 : (A.deeper (envOfC "_law_by_position" (defScope s__law_by_position) z.heap.objs.size T.a__law_by_position cdv)).units + 128 < cLine := by omega
  exact (p_cons (p_asg (r_frz (r_lst (r_acons (r_mk (T.e_BadShape.err w base) (hr.mono (by decide)) rfl (by rfl) (r_var 0 (ta := tVar 0) (pv 0))) (r_acons (r_mk (T.e_BadModulus.err w base) (hr.mono (by decide)) rfl (by rfl) (r_var 0 (ta := tVar 0) (pv 0))) (r_acons (r_mk (T.e_BadLot.err w base) (hr.mono (by decide)) rfl (by rfl) (r_var 0 (ta := tVar 0) (pv 0))) (r_acons (r_mk (T.e_BadWord.err w base) (hr.mono (by decide)) rfl (by rfl) (r_var 0 (ta := tVar 0) (pv 0))) (r_acons (r_mk (T.e_BadList.err w base) (hr.mono (by decide)) rfl (by rfl) (r_var 0 (ta := tVar 0) (pv 0))) (r_acons (r_mk (T.e_BadFamily.err w base) (hr.mono (by decide)) rfl (by rfl) (r_var 0 (ta := tVar 0) (pv 0))) (r_acons (r_mk (T.e_BadSystem.err w base) (hr.mono (by decide)) rfl (by rfl) (r_var 0 (ta := tVar 0) (pv 0))) r_anil))))))))) (pgN (pg_name nd (i := 1) (by rfl) (by first | exact .inl rfl | exact .inr rfl)))) (p_cons (p_asg (r_op o_add (r_var 1 (ta := tVar 1) (pv 1)) (r_frz (r_lst (r_acons (r_mk (T.e_BadScheme.err w base) (hr.mono (by decide)) rfl (by rfl) (r_var 0 (ta := tVar 0) (pv 0))) (r_acons (r_mk (T.e_BadPlan.err w base) (hr.mono (by decide)) rfl (by rfl) (r_var 0 (ta := tVar 0) (pv 0))) (r_acons (r_mk (T.e_BadDemand.err w base) (hr.mono (by decide)) rfl (by rfl) (r_var 0 (ta := tVar 0) (pv 0))) (r_acons (r_mk (T.e_BadQuestion.err w base) (hr.mono (by decide)) rfl (by rfl) (r_var 0 (ta := tVar 0) (pv 0))) (r_acons (r_mk (T.e_BadTold.err w base) (hr.mono (by decide)) rfl (by rfl) (r_var 0 (ta := tVar 0) (pv 0))) (r_acons (r_mk (T.e_BadWeb.err w base) (hr.mono (by decide)) rfl (by rfl) (r_var 0 (ta := tVar 0) (pv 0))) r_anil))))))))) (pgN (pg_name nd (i := 1) (by rfl) (by first | exact .inl rfl | exact .inr rfl)))) (p_one (p_ret (r_op o_add (r_var 1 (ta := tVar 1) (pv 1)) (r_frz (r_lst (r_acons (r_mk (T.e_BadNumber.err w base) (hr.mono (by decide)) rfl (by rfl) (r_var 0 (ta := tVar 0) (pv 0))) (r_acons (r_mk (T.e_Barred.err w base) (hr.mono (by decide)) rfl (by rfl) (r_var 0 (ta := tVar 0) (pv 0))) r_anil)))))))))
theorem ok__law_by_name (T : Txt K mg) : FnG P w K mg base 3 T.a__law_by_name T.d__law_by_name ["it"] (spF K 1 F__law_by_name) := by
  have nd := sc__law_by_name.nd
  have h := fun b => @def_rule P w K mg base _ _ _ _ _ _ _ 2 B__law_by_name T.f__law_by_name sc__law_by_name b
  have e : spF K ((["it"] : List Str).length) (runF ((["it", "found"] : List Str).length) B__law_by_name) = spF K 1 F__law_by_name := rfl
  rw [e] at h
  refine h (fun cdv A outer z H0 E dk l I0 hG hr => ?_)
  have un := hr.un
  have hu0 : (A.deeper (envOfC "_law_by_name" (defScope s__law_by_name) z.heap.objs.size T.a__law_by_name cdv)).units < cLine := by omega
  have hu1 : (A.deeper (envOfC "_law_by_name" (defScope s__law_by_name) z.heap.objs.size T.a__law_by_name cdv)).units + 1 < cLine := by omega
  have hu8 : (A.deeper (envOfC "_law_by_name" (defScope s__law_by_name) z.heap.objs.size T.a__law_by_name cdv)).units + 8 < cLine := by omega
  have hu64 : (A.deeper (envOfC "_law_by_name" (defScope s__law_by_name) z.heap.objs.size T.a__law_by_name cdv)).units + 64 < cLine := by omega
  have hu128 : (A.deeper (envOfC "_law_by_name" (defScope s__law_by_name) z.heap.objs.size T.a__law_by_name cdv)).units + 128 < cLine := by omega
  exact (p_cons (p_asg (r_frz (r_lst (r_acons (r_mkK (T.e_BadShape.err w base) (hr.mono (by decide)) rfl rfl (by rfl) (r_kcons (r_var 0 (ta := tVar 0) (pv 0)) r_knil)) (r_acons (r_mkK (T.e_BadModulus.err w base) (hr.mono (by decide)) rfl rfl (by rfl) (r_kcons (r_var 0 (ta := tVar 0) (pv 0)) r_knil)) (r_acons (r_mkK (T.e_BadLot.err w base) (hr.mono (by decide)) rfl rfl (by rfl) (r_kcons (r_var 0 (ta := tVar 0) (pv 0)) r_knil)) (r_acons (r_mkK (T.e_BadWord.err w base) (hr.mono (by decide)) rfl rfl (by rfl) (r_kcons (r_var 0 (ta := tVar 0) (pv 0)) r_knil)) (r_acons (r_mkK (T.e_BadList.err w base) (hr.mono (by decide)) rfl rfl (by rfl) (r_kcons (r_var 0 (ta := tVar 0) (pv 0)) r_knil)) r_anil))))))) (pgN (pg_name nd (i := 1) (by rfl) (by first | exact .inl rfl | exact .inr rfl)))) (p_cons (p_asg (r_op o_add (r_var 1 (ta := tVar 1) (pv 1)) (r_frz (r_lst (r_acons (r_mkK (T.e_BadFamily.err w base) (hr.mono (by decide)) rfl rfl (by rfl) (r_kcons (r_var 0 (ta := tVar 0) (pv 0)) r_knil)) (r_acons (r_mkK (T.e_BadSystem.err w base) (hr.mono (by decide)) rfl rfl (by rfl) (r_kcons (r_var 0 (ta := tVar 0) (pv 0)) r_knil)) (r_acons (r_mkK (T.e_BadScheme.err w base) (hr.mono (by decide)) rfl rfl (by rfl) (r_kcons (r_var 0 (ta := tVar 0) (pv 0)) r_knil)) (r_acons (r_mkK (T.e_BadPlan.err w base) (hr.mono (by decide)) rfl rfl (by rfl) (r_kcons (r_var 0 (ta := tVar 0) (pv 0)) r_knil)) r_anil))))))) (pgN (pg_name nd (i := 1) (by rfl) (by first | exact .inl rfl | exact .inr rfl)))) (p_cons (p_asg (r_op o_add (r_var 1 (ta := tVar 1) (pv 1)) (r_frz (r_lst (r_acons (r_mkK (T.e_BadDemand.err w base) (hr.mono (by decide)) rfl rfl (by rfl) (r_kcons (r_var 0 (ta := tVar 0) (pv 0)) r_knil)) (r_acons (r_mkK (T.e_BadQuestion.err w base) (hr.mono (by decide)) rfl rfl (by rfl) (r_kcons (r_var 0 (ta := tVar 0) (pv 0)) r_knil)) (r_acons (r_mkK (T.e_BadTold.err w base) (hr.mono (by decide)) rfl rfl (by rfl) (r_kcons (r_var 0 (ta := tVar 0) (pv 0)) r_knil)) (r_acons (r_mkK (T.e_BadWeb.err w base) (hr.mono (by decide)) rfl rfl (by rfl) (r_kcons (r_var 0 (ta := tVar 0) (pv 0)) r_knil)) r_anil))))))) (pgN (pg_name nd (i := 1) (by rfl) (by first | exact .inl rfl | exact .inr rfl)))) (p_one (p_ret (r_op o_add (r_var 1 (ta := tVar 1) (pv 1)) (r_frz (r_lst (r_acons (r_mkK (T.e_BadNumber.err w base) (hr.mono (by decide)) rfl rfl (by rfl) (r_kcons (r_var 0 (ta := tVar 0) (pv 0)) r_knil)) (r_acons (r_mkK (T.e_Barred.err w base) (hr.mono (by decide)) rfl rfl (by rfl) (r_kcons (r_var 0 (ta := tVar 0) (pv 0)) r_knil)) r_anil))))))))))
theorem ok__law_raise (T : Txt K mg) : FnG P w K mg base 3 T.a__law_raise T.d__law_raise ["way", "it"] (spF K 2 F__law_raise) := by
  have nd := sc__law_raise.nd
  have h := fun b => @def_rule P w K mg base _ _ _ _ _ _ _ 2 B__law_raise T.f__law_raise sc__law_raise b
  have e : spF K ((["way", "it"] : List Str).length) (runF ((["way", "it"] : List Str).length) B__law_raise) = spF K 2 F__law_raise := rfl
  rw [e] at h
  refine h (fun cdv A outer z H0 E dk l I0 hG hr => ?_)
  have un := hr.un
  have hu0 : (A.deeper (envOfC "_law_raise" (defScope s__law_raise) z.heap.objs.size T.a__law_raise cdv)).units < cLine := by omega
  have hu1 : (A.deeper (envOfC "_law_raise" (defScope s__law_raise) z.heap.objs.size T.a__law_raise cdv)).units + 1 < cLine := by omega
  have hu8 : (A.deeper (envOfC "_law_raise" (defScope s__law_raise) z.heap.objs.size T.a__law_raise cdv)).units + 8 < cLine := by omega
  have hu64 : (A.deeper (envOfC "_law_raise" (defScope s__law_raise) z.heap.objs.size T.a__law_raise cdv)).units + 64 < cLine := by omega
  have hu128 : (A.deeper (envOfC "_law_raise" (defScope s__law_raise) z.heap.objs.size T.a__law_raise cdv)).units + 128 < cLine := by omega
  exact (p_cons (p_if (r_tcmp (o_eq hu64) (r_var 0 (ta := tVar 0) (pv 0)) r_int (nomark _)) (p_one (p_raise (T.e_BadShape.err w base) rfl (takes_of rfl rfl rfl rfl) (hr.mono (by decide)) rfl (by rfl) (r_var 1 (ta := tVar 1) (pv 1)))) p_nil) (p_cons (p_if (r_tcmp (o_eq hu64) (r_var 0 (ta := tVar 0) (pv 0)) r_int (nomark _)) (p_one (p_raiseK (T.e_BadModulus.err w base) rfl (takes_of rfl rfl rfl rfl) (hr.mono (by decide)) rfl (by rfl) (r_kcons (r_var 1 (ta := tVar 1) (pv 1)) r_knil))) p_nil) (p_cons (p_if (r_tcmp (o_eq hu64) (r_var 0 (ta := tVar 0) (pv 0)) r_int (nomark _)) (p_one (p_raise (T.e_BadLot.err w base) rfl (takes_of rfl rfl rfl rfl) (hr.mono (by decide)) rfl (by rfl) (r_var 1 (ta := tVar 1) (pv 1)))) p_nil) (p_cons (p_if (r_tcmp (o_eq hu64) (r_var 0 (ta := tVar 0) (pv 0)) r_int (nomark _)) (p_one (p_raiseK (T.e_BadWord.err w base) rfl (takes_of rfl rfl rfl rfl) (hr.mono (by decide)) rfl (by rfl) (r_kcons (r_var 1 (ta := tVar 1) (pv 1)) r_knil))) p_nil) (p_cons (p_if (r_tcmp (o_eq hu64) (r_var 0 (ta := tVar 0) (pv 0)) r_int (nomark _)) (p_one (p_raise (T.e_BadList.err w base) rfl (takes_of rfl rfl rfl rfl) (hr.mono (by decide)) rfl (by rfl) (r_var 1 (ta := tVar 1) (pv 1)))) p_nil) (p_cons (p_if (r_tcmp (o_eq hu64) (r_var 0 (ta := tVar 0) (pv 0)) r_int (nomark _)) (p_one (p_raiseK (T.e_BadFamily.err w base) rfl (takes_of rfl rfl rfl rfl) (hr.mono (by decide)) rfl (by rfl) (r_kcons (r_var 1 (ta := tVar 1) (pv 1)) r_knil))) p_nil) (p_cons (p_if (r_tcmp (o_eq hu64) (r_var 0 (ta := tVar 0) (pv 0)) r_int (nomark _)) (p_one (p_raise (T.e_BadSystem.err w base) rfl (takes_of rfl rfl rfl rfl) (hr.mono (by decide)) rfl (by rfl) (r_var 1 (ta := tVar 1) (pv 1)))) p_nil) (p_cons (p_if (r_tcmp (o_eq hu64) (r_var 0 (ta := tVar 0) (pv 0)) r_int (nomark _)) (p_one (p_raiseK (T.e_BadScheme.err w base) rfl (takes_of rfl rfl rfl rfl) (hr.mono (by decide)) rfl (by rfl) (r_kcons (r_var 1 (ta := tVar 1) (pv 1)) r_knil))) p_nil) (p_cons (p_if (r_tcmp (o_eq hu64) (r_var 0 (ta := tVar 0) (pv 0)) r_int (nomark _)) (p_one (p_raise (T.e_BadPlan.err w base) rfl (takes_of rfl rfl rfl rfl) (hr.mono (by decide)) rfl (by rfl) (r_var 1 (ta := tVar 1) (pv 1)))) p_nil) (p_cons (p_if (r_tcmp (o_eq hu64) (r_var 0 (ta := tVar 0) (pv 0)) r_int (nomark _)) (p_one (p_raiseK (T.e_BadDemand.err w base) rfl (takes_of rfl rfl rfl rfl) (hr.mono (by decide)) rfl (by rfl) (r_kcons (r_var 1 (ta := tVar 1) (pv 1)) r_knil))) p_nil) (p_cons (p_if (r_tcmp (o_eq hu64) (r_var 0 (ta := tVar 0) (pv 0)) r_int (nomark _)) (p_one (p_raise (T.e_BadQuestion.err w base) rfl (takes_of rfl rfl rfl rfl) (hr.mono (by decide)) rfl (by rfl) (r_var 1 (ta := tVar 1) (pv 1)))) p_nil) (p_cons (p_if (r_tcmp (o_eq hu64) (r_var 0 (ta := tVar 0) (pv 0)) r_int (nomark _)) (p_one (p_raiseK (T.e_BadTold.err w base) rfl (takes_of rfl rfl rfl rfl) (hr.mono (by decide)) rfl (by rfl) (r_kcons (r_var 1 (ta := tVar 1) (pv 1)) r_knil))) p_nil) (p_cons (p_if (r_tcmp (o_eq hu64) (r_var 0 (ta := tVar 0) (pv 0)) r_int (nomark _)) (p_one (p_raise (T.e_BadWeb.err w base) rfl (takes_of rfl rfl rfl rfl) (hr.mono (by decide)) rfl (by rfl) (r_var 1 (ta := tVar 1) (pv 1)))) p_nil) (p_cons (p_if (r_tcmp (o_eq hu64) (r_var 0 (ta := tVar 0) (pv 0)) r_int (nomark _)) (p_one (p_raiseK (T.e_BadNumber.err w base) rfl (takes_of rfl rfl rfl rfl) (hr.mono (by decide)) rfl (by rfl) (r_kcons (r_var 1 (ta := tVar 1) (pv 1)) r_knil))) p_nil) (p_one (p_raise (T.e_Barred.err w base) rfl (takes_of rfl rfl rfl rfl) (hr.mono (by decide)) rfl (by rfl) (r_var 1 (ta := tVar 1) (pv 1))))))))))))))))))
theorem ok__law_caught (T : Txt K mg) : FnG P w K mg base 4 T.a__law_caught T.d__law_caught ["way", "it"] (spF K 2 F__law_caught) := by
  have G__law_raise := ok__law_raise (w := w) (base := base) T
  have nd := sc__law_caught.nd
  have h := fun b => @def_rule P w K mg base _ _ _ _ _ _ _ 3 B__law_caught T.f__law_caught sc__law_caught b
  have e : spF K ((["way", "it"] : List Str).length) (runF ((["way", "it", "e"] : List Str).length) B__law_caught) = spF K 2 F__law_caught := rfl
  rw [e] at h
  refine h (fun cdv A outer z H0 E dk l I0 hG hr => ?_)
  have un := hr.un
  have hu0 : (A.deeper (envOfC "_law_caught" (defScope s__law_caught) z.heap.objs.size T.a__law_caught cdv)).units < cLine := by omega
  have hu1 : (A.deeper (envOfC "_law_caught" (defScope s__law_caught) z.heap.objs.size T.a__law_caught cdv)).units + 1 < cLine := by omega
  have hu8 : (A.deeper (envOfC "_law_caught" (defScope s__law_caught) z.heap.objs.size T.a__law_caught cdv)).units + 8 < cLine := by omega
  have hu64 : (A.deeper (envOfC "_law_caught" (defScope s__law_caught) z.heap.objs.size T.a__law_caught cdv)).units + 64 < cLine := by omega
  have hu128 : (A.deeper (envOfC "_law_caught" (defScope s__law_caught) z.heap.objs.size T.a__law_caught cdv)).units + 128 < cLine := by omega
  exact (p_cons (p_tryN (nm := "e") (i := 2) rfl rfl nd (by rfl) (by rfl) (takes_of rfl rfl rfl rfl) (fun _ _ _ tk2 _ => (p_one (p_drop (r_call G__law_raise hG (hr.mono (by decide)) (by rfl) T.m__law_raise T.f__law_raise.kp T.k__law_raise (fun σ => passAt tk2 σ) (r_acons (r_var 0 (ta := tVar 0) (pv 0)) (r_acons (r_var 1 (ta := tVar 1) (pv 1)) r_anil)) rfl)))) (.cons T.e_Barred.of T.e_Barred.xc ⟨by rfl, by decide, .inl T.e_Barred.glob⟩ (fun _ _ _ _ _ hz hf => ps_suiteN (by rfl) T.e_Barred.of T.e_Barred.xc T.e_Barred.nof (by rfl) (.inl rfl) hz hf) (.cons T.e_BadLot.of T.e_BadLot.xc ⟨by rfl, by decide, .inl T.e_BadLot.glob⟩ (fun _ _ _ _ _ hz hf => ps_suiteN (by rfl) T.e_BadLot.of T.e_BadLot.xc T.e_BadLot.nof (by rfl) (.inl rfl) hz hf) (.cons T.e_BadModulus.of T.e_BadModulus.xc ⟨by rfl, by decide, .inl T.e_BadModulus.glob⟩ (fun _ _ _ _ _ hz hf => ps_suiteN (by rfl) T.e_BadModulus.of T.e_BadModulus.xc T.e_BadModulus.nof (by rfl) (.inl rfl) hz hf) (.cons T.e_BadWeb.of T.e_BadWeb.xc ⟨by rfl, by decide, .inl T.e_BadWeb.glob⟩ (fun _ _ _ _ _ hz hf => ps_suiteN (by rfl) T.e_BadWeb.of T.e_BadWeb.xc T.e_BadWeb.nof (by rfl) (.inl rfl) hz hf) (.cons T.e_BadShape.of T.e_BadShape.xc ⟨by rfl, by decide, .inl T.e_BadShape.glob⟩ (fun _ _ _ _ _ hz hf => ps_suiteN (by rfl) T.e_BadShape.of T.e_BadShape.xc T.e_BadShape.nof (by rfl) (.inl rfl) hz hf) (.cons T.e_BadPlan.of T.e_BadPlan.xc ⟨by rfl, by decide, .inl T.e_BadPlan.glob⟩ (fun _ _ _ _ _ hz hf => ps_suiteN (by rfl) T.e_BadPlan.of T.e_BadPlan.xc T.e_BadPlan.nof (by rfl) (.inl rfl) hz hf) (.cons T.e_BadList.of T.e_BadList.xc ⟨by rfl, by decide, .inl T.e_BadList.glob⟩ (fun _ _ _ _ _ hz hf => ps_suiteN (by rfl) T.e_BadList.of T.e_BadList.xc T.e_BadList.nof (by rfl) (.inl rfl) hz hf) (.cons T.e_BadNumber.of T.e_BadNumber.xc ⟨by rfl, by decide, .inl T.e_BadNumber.glob⟩ (fun _ _ _ _ _ hz hf => ps_suiteN (by rfl) T.e_BadNumber.of T.e_BadNumber.xc T.e_BadNumber.nof (by rfl) (.inl rfl) hz hf) (.cons T.e_BadWord.of T.e_BadWord.xc ⟨by rfl, by decide, .inl T.e_BadWord.glob⟩ (fun _ _ _ _ _ hz hf => ps_suiteN (by rfl) T.e_BadWord.of T.e_BadWord.xc T.e_BadWord.nof (by rfl) (.inl rfl) hz hf) (.cons T.e_BadTold.of T.e_BadTold.xc ⟨by rfl, by decide, .inl T.e_BadTold.glob⟩ (fun _ _ _ _ _ hz hf => ps_suiteN (by rfl) T.e_BadTold.of T.e_BadTold.xc T.e_BadTold.nof (by rfl) (.inl rfl) hz hf) (.cons T.e_BadScheme.of T.e_BadScheme.xc ⟨by rfl, by decide, .inl T.e_BadScheme.glob⟩ (fun _ _ _ _ _ hz hf => ps_suiteN (by rfl) T.e_BadScheme.of T.e_BadScheme.xc T.e_BadScheme.nof (by rfl) (.inl rfl) hz hf) (.cons T.e_BadFamily.of T.e_BadFamily.xc ⟨by rfl, by decide, .inl T.e_BadFamily.glob⟩ (fun _ _ _ _ _ hz hf => ps_suiteN (by rfl) T.e_BadFamily.of T.e_BadFamily.xc T.e_BadFamily.nof (by rfl) (.inl rfl) hz hf) (.cons T.e_BadQuestion.of T.e_BadQuestion.xc ⟨by rfl, by decide, .inl T.e_BadQuestion.glob⟩ (fun _ _ _ _ _ hz hf => ps_suiteN (by rfl) T.e_BadQuestion.of T.e_BadQuestion.xc T.e_BadQuestion.nof (by rfl) (.inl rfl) hz hf) (.cons T.e_BadSystem.of T.e_BadSystem.xc ⟨by rfl, by decide, .inl T.e_BadSystem.glob⟩ (fun _ _ _ _ _ hz hf => ps_suiteN (by rfl) T.e_BadSystem.of T.e_BadSystem.xc T.e_BadSystem.nof (by rfl) (.inl rfl) hz hf) (.cons T.e_BadDemand.of T.e_BadDemand.xc ⟨by rfl, by decide, .inl T.e_BadDemand.glob⟩ (fun _ _ _ _ _ hz hf => ps_suiteN (by rfl) T.e_BadDemand.of T.e_BadDemand.xc T.e_BadDemand.nof (by rfl) (.inl rfl) hz hf) .nil)))))))))))))))) (p_one (p_ret (r_tup (r_acons r_int (r_acons r_non r_anil))))))
theorem ok__law_caught_as_base (T : Txt K mg) : FnG P w K mg base 4 T.a__law_caught_as_base T.d__law_caught_as_base ["way", "it"] (spF K 2 F__law_caught_as_base) := by
  have GP__law_kinds := okp__law_kinds (w := w) (base := base) T
  have G__law_kinds := ok__law_kinds (w := w) (base := base) T
  have G__law_raise := ok__law_raise (w := w) (base := base) T
  have nd := sc__law_caught_as_base.nd
  have h := fun b => @def_rule P w K mg base _ _ _ _ _ _ _ 3 B__law_caught_as_base T.f__law_caught_as_base sc__law_caught_as_base b
  have e : spF K ((["way", "it"] : List Str).length) (runF ((["way", "it", "e"] : List Str).length) B__law_caught_as_base) = spF K 2 F__law_caught_as_base := rfl
  rw [e] at h
  refine h (fun cdv A outer z H0 E dk l I0 hG hr => ?_)
  have un := hr.un
  have hu0 : (A.deeper (envOfC "_law_caught_as_base" (defScope s__law_caught_as_base) z.heap.objs.size T.a__law_caught_as_base cdv)).units < cLine := by omega
  have hu1 : (A.deeper (envOfC "_law_caught_as_base" (defScope s__law_caught_as_base) z.heap.objs.size T.a__law_caught_as_base cdv)).units + 1 < cLine := by omega
  have hu8 : (A.deeper (envOfC "_law_caught_as_base" (defScope s__law_caught_as_base) z.heap.objs.size T.a__law_caught_as_base cdv)).units + 8 < cLine := by omega
  have hu64 : (A.deeper (envOfC "_law_caught_as_base" (defScope s__law_caught_as_base) z.heap.objs.size T.a__law_caught_as_base cdv)).units + 64 < cLine := by omega
  have hu128 : (A.deeper (envOfC "_law_caught_as_base" (defScope s__law_caught_as_base) z.heap.objs.size T.a__law_caught_as_base cdv)).units + 128 < cLine := by omega
  exact (p_cons (p_tryB (nm := "e") (i := 2) T.e_SightError T.x_SightError rfl rfl nd (by rfl) (by rfl) (takes_of rfl rfl rfl rfl) ⟨by rfl, by decide, .inl T.e_SightError.glob⟩ (fun _ _ _ tk2 _ => (p_one (p_drop (r_call G__law_raise hG (hr.mono (by decide)) (by rfl) T.m__law_raise T.f__law_raise.kp T.k__law_raise (fun σ => passAt tk2 σ) (r_acons (r_var 0 (ta := tVar 0) (pv 0)) (r_acons (r_var 1 (ta := tVar 1) (pv 1)) r_anil)) rfl)))) (fun _ _ _ _ _ hz hf => ps_suiteB (k := 1) T.xk GP__law_kinds (L2H.roomH_of (hr.mono (by decide))) (by rfl) T.m__law_kinds T.f__law_kinds.kp T.k__law_kinds (by rfl) (.inl rfl) hz hf)) (p_one (p_ret (r_frz (r_lst r_anil)))))
theorem okr__law_is_same (T : Txt K mg) : ∀ n : Nat, FnG P w K mg base (1 + n) T.a__law_is_same T.d__law_is_same ["near", "far"] (spF K 2 (Fr__law_is_same n))
| 0 => fng_bad rfl
| m + 1 => by
  have ih := okr__law_is_same T m
  have nd := sc__law_is_same.nd
  have h := fun b => @def_rule P w K mg base _ _ _ _ _ _ _ (1 + m) (B__law_is_same (Fr__law_is_same m)) T.f__law_is_same sc__law_is_same b
  have e : spF K ((["near", "far"] : List Str).length) (runF ((["near", "far", "at", "it", "key"] : List Str).length) (B__law_is_same (Fr__law_is_same m))) = spF K 2 (Fr__law_is_same (m + 1)) := rfl
  rw [e] at h
  refine h (fun cdv A outer z H0 E dk l I0 hG hr => ?_)
  have un := hr.un
  have hu0 : (A.deeper (envOfC "_law_is_same" (defScope s__law_is_same) z.heap.objs.size T.a__law_is_same cdv)).units < cLine := by omega
  have hu1 : (A.deeper (envOfC "_law_is_same" (defScope s__law_is_same) z.heap.objs.size T.a__law_is_same cdv)).units + 1 < cLine := by omega
  have hu8 : (A.deeper (envOfC "_law_is_same" (defScope s__law_is_same) z.heap.objs.size T.a__law_is_same cdv)).units + 8 < cLine := by omega
  have hu64 : (A.deeper (envOfC "_law_is_same" (defScope s__law_is_same) z.heap.objs.size T.a__law_is_same cdv)).units + 64 < cLine := by omega
  have hu128 : (A.deeper (envOfC "_law_is_same" (defScope s__law_is_same) z.heap.objs.size T.a__law_is_same cdv)).units + 128 < cLine := by omega
  exact (p_cons (p_if (r_tval (r_isTs (by rfl) T.b_isinstance (by decide) (pa_ty_cons (by rfl) T.b_list bt_list (pa_ty_cons (by rfl) T.b_tuple bt_tuple pa_ty_nil)) (r_var 0 (ta := tVar 0) (pv 0)))) (p_cons (p_if ((r_or (r_not (r_tval (r_isTs (by rfl) T.b_isinstance (by decide) (pa_ty_cons (by rfl) T.b_list bt_list (pa_ty_cons (by rfl) T.b_tuple bt_tuple pa_ty_nil)) (r_var 1 (ta := tVar 1) (pv 1))))) (r_or1 (r_tcmp (o_ne hu64) (r_isi .list (by rfl) T.b_isinstance (by rfl) T.b_list bt_list (r_var 0 (ta := tVar 0) (pv 0)) bt_isinstance) (r_isi .list (by rfl) T.b_isinstance (by rfl) T.b_list bt_list (r_var 1 (ta := tVar 1) (pv 1)) bt_isinstance) (nomark _))))).pt (p_one (p_ret r_bl)) p_nil) (p_one (p_ret (r_andV (r_cmp (o_eq hu64) (r_callB c_len (by rfl) T.b_len PySem.boot_len (r_acons (r_var 0 (ta := tVar 0) (pv 0)) r_anil)) (r_callB c_len (by rfl) T.b_len PySem.boot_len (r_acons (r_var 1 (ta := tVar 1) (pv 1)) r_anil)) (nomark _)) (r_one (r_cmp (o_eqN hu64) (r_frz (r_lc (own := [("at", 2), ("it", 3)]) rfl nd (r_B (r_enum (by rfl) T.b_enumerate (r_acons (r_var 0 (ta := tVar 0) (pv 0)) r_anil))) (blkOk_by (N := ["near", "far", "at", "it", "key"]) (sc := defScope s__law_is_same) (by decide +kernel)) (fun _ _ _ _ _ => (pgT rfl (pgsC (pgN (pg_name nd (i := 2) (by rfl) (by first | exact .inl rfl | exact .inr rfl))) (pgsC (pgN (pg_name nd (i := 3) (by rfl) (by first | exact .inl rfl | exact .inr rfl))) pgsN)))) (fun _ _ _ _ _ => (r_pts_one (r_not (r_tval (r_call ih hG (hr.mono (by omega)) (by rfl) T.m__law_is_same T.f__law_is_same.kp T.k__law_is_same pass0' (r_acons (r_var 3 (ta := tVar 3) (pv 3)) (r_acons (r_ix hu1 (r_var 1 (ta := tVar 1) (pv 1)) (r_var 2 (ta := tVar 2) (pv 2)) (fun _ _ => rfl)) r_anil)) rfl))))) (fun _ _ _ _ _ => (r_var 2 (ta := tVar 2) (pv 2))) (by decide))) (r_frz (r_lst r_anil)) (nomark _))))))) p_nil) (p_cons (p_if (r_tval (r_isi .dict (by rfl) T.b_isinstance (by rfl) T.b_dict bt_dict (r_var 0 (ta := tVar 0) (pv 0)) bt_isinstance)) (p_cons (p_if ((r_or (r_not (r_tval (r_isi .dict (by rfl) T.b_isinstance (by rfl) T.b_dict bt_dict (r_var 1 (ta := tVar 1) (pv 1)) bt_isinstance))) (r_or1 (r_tcmp (o_ne hu64) (r_callB c_lenF (by rfl) T.b_len PySem.boot_len (r_acons (r_var 0 (ta := tVar 0) (pv 0)) r_anil)) (r_callB c_lenF (by rfl) T.b_len PySem.boot_len (r_acons (r_var 1 (ta := tVar 1) (pv 1)) r_anil)) (nomark _))))).pt (p_one (p_ret r_bl)) p_nil) (p_one (p_ret (r_cmp (o_eqN hu64) (r_frz (r_lc (own := [("key", 4)]) rfl nd (r_B (r_keys (r_var 0 (ta := tVar 0) (pv 0)))) (blkOk_by (N := ["near", "far", "at", "it", "key"]) (sc := defScope s__law_is_same) (by decide +kernel)) (fun _ _ _ _ _ => (pgN (pg_name nd (i := 4) (by rfl) (by first | exact .inl rfl | exact .inr rfl)))) (fun _ _ _ _ _ => (r_pts_one ((r_or (r_tcmp (o_notinF hu1) (r_var 4 (ta := tVar 4) (pv 4)) (r_var 1 (ta := tVar 1) (pv 1)) (by with_unfolding_all rfl)) (r_or1 (r_not (r_tval (r_call ih hG (hr.mono (by omega)) (by rfl) T.m__law_is_same T.f__law_is_same.kp T.k__law_is_same pass0' (r_acons (r_ixF hu1 (r_var 0 (ta := tVar 0) (pv 0)) (r_var 4 (ta := tVar 4) (pv 4)) (fun _ _ => rfl)) (r_acons (r_ixF hu1 (r_var 1 (ta := tVar 1) (pv 1)) (r_var 4 (ta := tVar 4) (pv 4)) (fun _ _ => rfl)) r_anil)) rfl)))))).pt)) (fun _ _ _ _ _ => (r_var 4 (ta := tVar 4) (pv 4))) (by decide))) (r_frz (r_lst r_anil)) (nomark _))))) p_nil) (p_one (p_ret (r_andV (r_notV (r_isTs (by rfl) T.b_isinstance (by decide) (pa_ty_cons (by rfl) T.b_list bt_list (pa_ty_cons (by rfl) T.b_tuple bt_tuple (pa_ty_cons (by rfl) T.b_dict bt_dict pa_ty_nil))) (r_var 1 (ta := tVar 1) (pv 1)))) (r_one (r_cmp (o_eq hu64) (r_callB (c_repr3 hG hu128) (by rfl) T.b_repr bt_repr (r_acons (r_var 0 (ta := tVar 0) (pv 0)) r_anil)) (r_callB (c_repr3 hG hu128) (by rfl) T.b_repr bt_repr (r_acons (r_var 1 (ta := tVar 1) (pv 1)) r_anil)) (nomark _))))))))
theorem ok__law_is_same (T : Txt K mg) : FnG P w K mg base 11 T.a__law_is_same T.d__law_is_same ["near", "far"] (spF K 2 F__law_is_same) := okr__law_is_same T 10
theorem okr__law_any (T : Txt K mg) : ∀ n : Nat, FnG P w K mg base (3 + n) T.a__law_any T.d__law_any ["deck", "deep"] (spF K 2 (Fr__law_any n))
| 0 => fng_bad rfl
| m + 1 => by
  have ih := okr__law_any T m
  have G__law_draw := ok__law_draw (w := w) (base := base) T
  have G__law_pick := ok__law_pick (w := w) (base := base) T
  have nd := sc__law_any.nd
  have h := fun b => @def_rule P w K mg base _ _ _ _ _ _ _ (3 + m) (B__law_any (Fr__law_any m)) T.f__law_any sc__law_any b
  have e : spF K ((["deck", "deep"] : List Str).length) (runF ((["deck", "deep", "way", "some", "turn"] : List Str).length) (B__law_any (Fr__law_any m))) = spF K 2 (Fr__law_any (m + 1)) := rfl
  rw [e] at h
  refine h (fun cdv A outer z H0 E dk l I0 hG hr => ?_)
  have un := hr.un
  have hu0 : (A.deeper (envOfC "_law_any" (defScope s__law_any) z.heap.objs.size T.a__law_any cdv)).units < cLine := by omega
  have hu1 : (A.deeper (envOfC "_law_any" (defScope s__law_any) z.heap.objs.size T.a__law_any cdv)).units + 1 < cLine := by omega
  have hu8 : (A.deeper (envOfC "_law_any" (defScope s__law_any) z.heap.objs.size T.a__law_any cdv)).units + 8 < cLine := by omega
  have hu64 : (A.deeper (envOfC "_law_any" (defScope s__law_any) z.heap.objs.size T.a__law_any cdv)).units + 64 < cLine := by omega
  have hu128 : (A.deeper (envOfC "_law_any" (defScope s__law_any) z.heap.objs.size T.a__law_any cdv)).units + 128 < cLine := by omega
  exact (p_cons (p_asg (r_call G__law_draw hG (hr.mono (by omega)) (by rfl) T.m__law_draw T.f__law_draw.kp T.k__law_draw (fun σ => passAt (takes_of rfl rfl rfl rfl) σ) (r_acons (r_var 0 (ta := tVar 0) (pv 0)) (r_acons r_int r_anil)) rfl) (pgN (pg_name nd (i := 2) (by rfl) (by first | exact .inl rfl | exact .inr rfl)))) (p_cons (p_if (r_tcmp (o_lt hu0) (r_var 2 (ta := tVar 2) (pv 2)) r_int (nomark _)) (p_one (p_ret (r_call G__law_pick hG (hr.mono (by omega)) (by rfl) T.m__law_pick T.f__law_pick.kp T.k__law_pick (fun σ => passAt (takes_of rfl rfl rfl rfl) σ) (r_acons (r_var 0 (ta := tVar 0) (pv 0)) (r_acons (r_frz (r_lst (r_acons r_int (r_acons r_int (r_acons (r_neg r_int) (r_acons r_int (r_acons (r_op o_pow r_int r_int) (r_acons (r_neg (r_op o_pow r_int r_int)) (r_acons r_int (r_acons r_int r_anil)))))))))) r_anil)) rfl))) p_nil) (p_cons (p_if (r_tcmp (o_lt hu0) (r_var 2 (ta := tVar 2) (pv 2)) r_int (nomark _)) (p_one (p_ret (r_call G__law_pick hG (hr.mono (by omega)) (by rfl) T.m__law_pick T.f__law_pick.kp T.k__law_pick (fun σ => passAt (takes_of rfl rfl rfl rfl) σ) (r_acons (r_var 0 (ta := tVar 0) (pv 0)) (r_acons (r_frz (r_lst (r_acons r_str (r_acons r_str (r_acons r_str (r_acons r_str (r_acons r_str (r_acons r_str r_anil)))))))) r_anil)) rfl))) p_nil) (p_cons (p_if (r_tcmp (o_eq hu64) (r_var 2 (ta := tVar 2) (pv 2)) r_int (nomark _)) (p_one (p_ret (r_call G__law_pick hG (hr.mono (by omega)) (by rfl) T.m__law_pick T.f__law_pick.kp T.k__law_pick (fun σ => passAt (takes_of rfl rfl rfl rfl) σ) (r_acons (r_var 0 (ta := tVar 0) (pv 0)) (r_acons (r_frz (r_lst (r_acons r_bl (r_acons r_bl (r_acons r_non r_anil))))) r_anil)) rfl))) p_nil) (p_cons (p_asg (r_if (r_tcmp o_gt (r_var 1 (ta := tVar 1) (pv 1)) r_int (nomark _)) (r_frz (r_lc (own := [("turn", 4)]) rfl nd (r_B (r_range1 (by rfl) T.b_range (r_acons (r_call G__law_draw hG (hr.mono (by omega)) (by rfl) T.m__law_draw T.f__law_draw.kp T.k__law_draw (fun σ => passAt (takes_of rfl rfl rfl rfl) σ) (r_acons (r_var 0 (ta := tVar 0) (pv 0)) (r_acons r_int r_anil)) rfl) r_anil))) (blkOk_by (N := ["deck", "deep", "way", "some", "turn"]) (sc := defScope s__law_any) (by decide +kernel)) (fun _ _ _ _ _ => (pgN (pg_name nd (i := 4) (by rfl) (by first | exact .inl rfl | exact .inr rfl)))) (fun _ _ _ _ _ => r_pts_nil) (fun _ _ _ _ _ => (r_call ih hG (hr.mono (by omega)) (by rfl) T.m__law_any T.f__law_any.kp T.k__law_any pass0' (r_acons (r_var 0 (ta := tVar 0) (pv 0)) (r_acons (r_op o_sub (r_var 1 (ta := tVar 1) (pv 1)) r_int) r_anil)) rfl)) (by decide))) (r_frz (r_lst r_anil))) (pgN (pg_name nd (i := 3) (by rfl) (by first | exact .inl rfl | exact .inr rfl)))) (p_cons (p_if (r_tcmp (o_eq hu64) (r_var 2 (ta := tVar 2) (pv 2)) r_int (nomark _)) (p_one (p_ret (r_var 3 (ta := tVar 3) (pv 3)))) p_nil) (p_one (p_ret (r_if (r_tcmp (o_eq hu64) (r_var 2 (ta := tVar 2) (pv 2)) r_int (nomark _)) (r_dispF (k1 := (.inr "key")) (k2 := (.inl 1)) (by intro z; cases z) pe_str pe_int (r_var 3 (ta := tVar 3) (pv 3)) (r_callB c_len (by rfl) T.b_len PySem.boot_len (r_acons (r_var 3 (ta := tVar 3) (pv 3)) r_anil))) (r_callT c_tuple (by rfl) T.b_tuple bt_tuple (r_acons (r_var 3 (ta := tVar 3) (pv 3)) r_anil)))))))))))
theorem ok__law_any (T : Txt K mg) : FnG P w K mg base 13 T.a__law_any T.d__law_any ["deck", "deep"] (spF K 2 F__law_any) := okr__law_any T 10
theorem ok_law (T : Txt K mg) (math : ∀ s : Dk, s.left.length ≤ 63 → ∃ s', B_law (lawEnv 13) s = .ok (.rt (.bl true)) s') : FnG P w K mg base 14 T.a_law T.d_law ["script"] (spLaw K) := by
  have G__law_any := ok__law_any (w := w) (base := base) T
  have G__law_by_name := ok__law_by_name (w := w) (base := base) T
  have G__law_by_position := ok__law_by_position (w := w) (base := base) T
  have G__law_carried := ok__law_carried (w := w) (base := base) T
  have G__law_caught := ok__law_caught (w := w) (base := base) T
  have G__law_caught_as_base := ok__law_caught_as_base (w := w) (base := base) T
  have G__law_deck := ok__law_deck (w := w) (base := base) T
  have G__law_is_own := ok__law_is_own (w := w) (base := base) T
  have G__law_is_same := ok__law_is_same (w := w) (base := base) T
  have nd := sc_law.nd
  refine fng_of (k := 13) T.f_law sc_law (fun vs H Q E h => ?_) fun cdv A outer z H vs Q E hG hr h => ?_
  · obtain ⟨a, ns, e, _⟩ := h
    rw [e]; rfl
  · obtain ⟨a, ns, e, hS, hl, q⟩ := h
    subst e
    have un := hr.un
    have hu0 : (A.deeper (envOfC "law" (defScope s_law) z.heap.objs.size T.a_law cdv)).units < cLine := by omega
    have hu1 : (A.deeper (envOfC "law" (defScope s_law) z.heap.objs.size T.a_law cdv)).units + 1 < cLine := by omega
    have hu8 : (A.deeper (envOfC "law" (defScope s_law) z.heap.objs.size T.a_law cdv)).units + 8 < cLine := by omega
    have hu64 : (A.deeper (envOfC "law" (defScope s_law) z.heap.objs.size T.a_law cdv)).units + 64 < cLine := by omega
    have hu128 : (A.deeper (envOfC "law" (defScope s_law) z.heap.objs.size T.a_law cdv)).units + 128 < cLine := by omega
    refine ⟨_, pss_cons (ps_set (i := 1) nd rfl (by first | exact .inl rfl | exact .inr rfl) (pe_callG (W := WF E) G__law_deck hG (hr.mono (by decide)) (by rfl) T.m__law_deck T.f__law_deck.kp T.k__law_deck (fun σ => passAt (takes_of rfl rfl rfl rfl) σ) (pa_cons (pv 0) (pa_cons pe_int pa_nil))))
      (pss_any (W := WF E) (B := B_law) fun dk l I0 H0 => (p_cons (p_asg2 (r_2val (r_call G__law_any hG (hr.mono (by decide)) (by rfl) T.m__law_any T.f__law_any.kp T.k__law_any (fun σ => passAt (takes_of rfl rfl rfl rfl) σ) (r_acons (r_var 1 (ta := tVar 1) (pv 1)) (r_acons r_int r_anil)) rfl) (r_2val (r_tup (r_acons (r_call G__law_any hG (hr.mono (by decide)) (by rfl) T.m__law_any T.f__law_any.kp T.k__law_any (fun σ => passAt (takes_of rfl rfl rfl rfl) σ) (r_acons (r_var 1 (ta := tVar 1) (pv 1)) (r_acons r_int r_anil)) rfl) r_anil)) r_2nil)) (pgM rfl (pgmC (pg_name nd (i := 2) (by rfl) (by first | exact .inl rfl | exact .inr rfl)) (pgmC (pg_name nd (i := 3) (by rfl) (by first | exact .inl rfl | exact .inr rfl)) pgmN)))) (p_cons (p_par2 rfl nd (i := 4) (j := 5) (by rfl) (by rfl) (by decide) (by rfl) (by rfl) (r_2val (r_call G__law_by_position hG (hr.mono (by decide)) (by rfl) T.m__law_by_position T.f__law_by_position.kp T.k__law_by_position (fun σ => passAt (takes_of rfl rfl rfl rfl) σ) (r_acons (r_var 2 (ta := tVar 2) (pv 2)) r_anil) rfl) (r_2val (r_call G__law_by_name hG (hr.mono (by decide)) (by rfl) T.m__law_by_name T.f__law_by_name.kp T.k__law_by_name (fun σ => passAt (takes_of rfl rfl rfl rfl) σ) (r_acons (r_var 3 (ta := tVar 3) (pv 3)) r_anil) rfl) r_2nil)) (by rfl)) (p_cons (p_if (r_tcmp (o_neN hu64) (r_frz (r_lc (own := [("it", 11)]) rfl nd (r_B (r_items (r_call G__law_carried hG (hr.mono (by decide)) (by rfl) T.m__law_carried T.f__law_carried.kp T.k__law_carried (fun σ => passAt (takes_of rfl rfl rfl rfl) σ) (r_acons (r_var 4 (ta := tVar 4) (pv 4)) r_anil) rfl))) (blkOk_by (N := ["script", "deck", "near", "far", "some", "others", "made", "at", "error", "way", "caught", "it", "place"]) (sc := defScope s_law) (by decide +kernel)) (fun _ _ _ _ _ => (pgN (pg_name nd (i := 11) (by rfl) (by first | exact .inl rfl | exact .inr rfl)))) (fun _ _ _ _ _ => (r_pts_one (r_not (r_tval (r_call G__law_is_same hG (hr.mono (by decide)) (by rfl) T.m__law_is_same T.f__law_is_same.kp T.k__law_is_same pass0' (r_acons (r_var 11 (ta := tVar 11) (pv 11)) (r_acons (r_var 2 (ta := tVar 2) (pv 2)) r_anil)) rfl))))) (fun _ _ _ _ _ => (r_var 11 (ta := tVar 11) (pv 11))) (by decide))) (r_frz (r_lst r_anil)) (nomark _)) (p_one (p_ret r_bl)) p_nil) (p_cons (p_if (r_tcmp (o_neN hu64) (r_frz (r_lc (own := [("it", 11)]) rfl nd (r_B (r_items (r_call G__law_carried hG (hr.mono (by decide)) (by rfl) T.m__law_carried T.f__law_carried.kp T.k__law_carried (fun σ => passAt (takes_of rfl rfl rfl rfl) σ) (r_acons (r_var 5 (ta := tVar 5) (pv 5)) r_anil) rfl))) (blkOk_by (N := ["script", "deck", "near", "far", "some", "others", "made", "at", "error", "way", "caught", "it", "place"]) (sc := defScope s_law) (by decide +kernel)) (fun _ _ _ _ _ => (pgN (pg_name nd (i := 11) (by rfl) (by first | exact .inl rfl | exact .inr rfl)))) (fun _ _ _ _ _ => (r_pts_one (r_not (r_tval (r_call G__law_is_same hG (hr.mono (by decide)) (by rfl) T.m__law_is_same T.f__law_is_same.kp T.k__law_is_same pass0' (r_acons (r_var 11 (ta := tVar 11) (pv 11)) (r_acons (r_var 3 (ta := tVar 3) (pv 3)) r_anil)) rfl))))) (fun _ _ _ _ _ => (r_var 11 (ta := tVar 11) (pv 11))) (by decide))) (r_frz (r_lst r_anil)) (nomark _)) (p_one (p_ret r_bl)) p_nil) (p_cons (p_for (passes_of rfl) rfl (r_items (r_tup (r_acons (r_var 4 (ta := tVar 4) (pv 4)) (r_acons (r_var 5 (ta := tVar 5) (pv 5)) r_anil)))) (pgN (pg_name nd (i := 6) (by rfl) (by first | exact .inl rfl | exact .inr rfl))) (p_one (p_for (passes_of rfl) rfl (r_enum (by rfl) T.b_enumerate (r_acons (r_var 6 (ta := tVar 6) (pv 6)) r_anil)) (pgT rfl (pgsC (pgN (pg_name nd (i := 7) (by rfl) (by first | exact .inl rfl | exact .inr rfl))) (pgsC (pgN (pg_name nd (i := 8) (by rfl) (by first | exact .inl rfl | exact .inr rfl))) pgsN))) (p_one (p_if (r_not (r_tval (r_call G__law_is_own hG (hr.mono (by decide)) (by rfl) T.m__law_is_own T.f__law_is_own.kp T.k__law_is_own (fun σ => passAt (takes_of rfl rfl rfl rfl) σ) (r_acons (r_var 7 (ta := tVar 7) (pv 7)) (r_acons (r_var 8 (ta := tVar 8) (pv 8)) r_anil)) rfl))) (p_one (p_ret r_bl)) p_nil))))) (p_cons (p_for (passes_of rfl) rfl (r_range1 (by rfl) T.b_range (r_acons r_int r_anil)) (pgN (pg_name nd (i := 9) (by rfl) (by first | exact .inl rfl | exact .inr rfl))) (p_cons (p_asg (r_call G__law_caught hG (hr.mono (by decide)) (by rfl) T.m__law_caught T.f__law_caught.kp T.k__law_caught (fun σ => passAt (takes_of rfl rfl rfl rfl) σ) (r_acons (r_var 9 (ta := tVar 9) (pv 9)) (r_acons (r_var 2 (ta := tVar 2) (pv 2)) r_anil)) rfl) (pgN (pg_name nd (i := 10) (by rfl) (by first | exact .inl rfl | exact .inr rfl)))) (p_cons (p_if ((r_or (r_tcmp (o_ne hu64) (r_ix hu1 (r_var 10 (ta := tVar 10) (pv 10)) r_int (fun _ _ => rfl)) (r_var 9 (ta := tVar 9) (pv 9)) (nomark _)) (r_or1 (r_not (r_tval (r_call G__law_is_same hG (hr.mono (by decide)) (by rfl) T.m__law_is_same T.f__law_is_same.kp T.k__law_is_same (fun σ => passAt (takes_of rfl rfl rfl rfl) σ) (r_acons (r_ix hu1 (r_var 10 (ta := tVar 10) (pv 10)) r_int (fun _ _ => rfl)) (r_acons (r_var 2 (ta := tVar 2) (pv 2)) r_anil)) rfl)))))).pt (p_one (p_ret r_bl)) p_nil) (p_one (p_if (r_tcmp (o_ne hu64) (r_call G__law_caught_as_base hG (hr.mono (by decide)) (by rfl) T.m__law_caught_as_base T.f__law_caught_as_base.kp T.k__law_caught_as_base (fun σ => passAt (takes_of rfl rfl rfl rfl) σ) (r_acons (r_var 9 (ta := tVar 9) (pv 9)) (r_acons (r_var 3 (ta := tVar 3) (pv 3)) r_anil)) rfl) (r_frz (r_lc (own := [("place", 12)]) rfl nd (r_B (r_range1 (by rfl) T.b_range (r_acons r_int r_anil))) (blkOk_by (N := ["script", "deck", "near", "far", "some", "others", "made", "at", "error", "way", "caught", "it", "place"]) (sc := defScope s_law) (by decide +kernel)) (fun _ _ _ _ _ => (pgN (pg_name nd (i := 12) (by rfl) (by first | exact .inl rfl | exact .inr rfl)))) (fun _ _ _ _ _ => r_pts_nil) (fun _ _ _ _ _ => (r_cmp (o_eq hu64) (r_var 12 (ta := tVar 12) (pv 12)) (r_var 9 (ta := tVar 9) (pv 9)) (nomark _))) (by decide))) (nomark _)) (p_one (p_ret r_bl)) p_nil))))) (p_one (p_ret r_bl))))))))), ?_⟩
    refine ⟨.ref a, rfl, a, ns, 13738000, rfl, hS, hl, fun H' dk l s _ h1 h2 h3 => ?_⟩
    exact @law_start' K (WF E) B_law 13 _ a dk l H' s _ rfl (by decide) h1 h2 (math s h3) q
end
end K00

end

section
set_option maxRecDepth 100000
namespace PV
open PySem PySem.Spec PyProof.Rows L2
/-! ### what repr shows, dicts within -/
structure Sq (d : D) (p : PyData) (h n : Nat) : Prop where
  toQ : d.toQ = some p
  able : p.showable = true
  deep : p.depth ≤ h
  len : p.shown.length ≤ n
  ok : okS p.shown
def Sw (d : D) (h n : Nat) : Prop := ∃ p, Sq d p h n
theorem sw_mono {d : D} {h h' n n' : Nat} (s : Sw d h n) (a : h ≤ h') (b : n ≤ n') : Sw d h' n' := by
  obtain ⟨p, s⟩ := s
  exact ⟨p, s.toQ, s.able, Nat.le_trans s.deep a, Nat.le_trans s.len b, s.ok⟩
theorem sw_int {i : Int} {k : Nat} (h0 : 0 < k) (hk : k ≤ 500) (h : i.natAbs < 10 ^ k) : Sw (.int i) 0 (k + 1) := by
  obtain ⟨p, s⟩ := shw_int h0 hk h
  have e := s.toP
  cases e
  exact ⟨_, rfl, s.able, s.deep, s.len, s.ok⟩
theorem sw_bl (b : Bool) : Sw (.bl b) 0 5 := by
  obtain ⟨p, s⟩ := shw_bl b
  have e := s.toP
  cases e
  exact ⟨_, rfl, s.able, s.deep, s.len, s.ok⟩
theorem sw_non : Sw .non 0 5 := ⟨.none, rfl, rfl, by simp [PyData.depth], by simp only [PyData.shown]; decide, by simp only [PyData.shown]; exact okS_string _⟩
theorem okS_ofb {x : Str} (h : (x.cps.toList.all fun c => decide (c < 0x110000)) = true) : okS x := fun c hc => of_decide_eq_true (List.all_eq_true.mp h c hc)
theorem sw_str {x : Str} {n : Nat} (hn : (reprText x).length ≤ n) (h : ((reprText x).cps.toList.all fun c => decide (c < 0x110000)) = true) : Sw (.str x) 0 n := ⟨.str x, rfl, rfl, by simp [PyData.depth], by simp only [PyData.shown]; exact hn, by simp only [PyData.shown]; exact okS_ofb h⟩
theorem sws {h n : Nat} : ∀ {ds : List D}, (∀ d ∈ ds, Sw d h n) → ∃ ps : List PyData, D.toQs ds = some ps ∧ ps.length = ds.length ∧ (∀ p ∈ ps, p.showable = true) ∧ (∀ p ∈ ps, p.depth ≤ h) ∧ (∀ p ∈ ps, p.shown.length ≤ n) ∧ ∀ p ∈ ps, okS p.shown
  | [], _ => ⟨[], rfl, rfl, by simp, by simp, by simp, by simp⟩
  | d :: ds, H => by
    obtain ⟨p, s⟩ := H d List.mem_cons_self
    obtain ⟨ps, e, l, a1, a3, a4, a5⟩ := sws fun d' hd => H d' (List.mem_cons_of_mem _ hd)
    refine ⟨p :: ps, by simp only [D.toQs, s.toQ, e], by simp [l], ?_, ?_, ?_, ?_⟩
    · intro q hq; rcases List.mem_cons.mp hq with rfl | hq; exact s.able; exact a1 q hq
    · intro q hq; rcases List.mem_cons.mp hq with rfl | hq; exact s.deep; exact a3 q hq
    · intro q hq; rcases List.mem_cons.mp hq with rfl | hq; exact s.len; exact a4 q hq
    · intro q hq; rcases List.mem_cons.mp hq with rfl | hq; exact s.ok; exact a5 q hq
theorem sum_le {n : Nat} : ∀ {ts : List Nat}, (∀ t ∈ ts, t ≤ n) → ts.sum ≤ ts.length * n
  | [], _ => by simp
  | t :: ts, h => by
    have h1 := h t List.mem_cons_self
    have h2 := sum_le fun u hu => h u (List.mem_cons_of_mem t hu)
    rw [List.sum_cons, List.length_cons, Nat.succ_mul]
    omega
theorem sw_sum {ps : List PyData} {n : Nat} (h : ∀ p ∈ ps, p.shown.length ≤ n) : ((PyData.shownAll ps).map (·.length)).sum + 2 * (PyData.shownAll ps).length + 3 ≤ ps.length * (n + 2) + 3 := by
  rw [shown_all, List.map_map]
  have h2 := sum_le (n := n) (ts := List.map ((fun x : Str => x.length) ∘ PyData.shown) ps) fun t ht => by
    obtain ⟨p, hp, rfl⟩ := List.mem_map.mp ht
    exact h p hp
  rw [List.length_map] at h2
  rw [List.length_map, Nat.mul_add]
  omega
theorem okS_all {ps : List PyData} (h : ∀ p ∈ ps, okS p.shown) : ∀ t ∈ PyData.shownAll ps, okS t := fun t ht => by
  rw [shown_all] at ht
  obtain ⟨p, hp, rfl⟩ := List.mem_map.mp ht
  exact h p hp
theorem sw_tup {ds : List D} {h n : Nat} (H : ∀ d ∈ ds, Sw d h n) : Sw (.tup ds) (h + 1) (ds.length * (n + 2) + 3) := by
  obtain ⟨ps, e, l, a1, a3, a4, a5⟩ := sws H
  refine ⟨.tuple ps, by simp only [D.toQ, e, Option.map_some], by simp only [PyData.showable]; exact showable_all a1, ?_, ?_, ?_⟩
  · simp only [PyData.depth]
    have := depth_all a3
    omega
  · simp only [PyData.shown]
    rw [← l]
    exact Nat.le_trans (tupleText_len_le _) (sw_sum a4)
  · simp only [PyData.shown]
    exact okS_tuple (okS_all a5)
theorem sw_lst {ds : List D} {h n : Nat} (H : ∀ d ∈ ds, Sw d h n) : Sw (.lst ds) (h + 1) (ds.length * (n + 2) + 3) := by
  obtain ⟨ps, e, l, a1, a3, a4, a5⟩ := sws H
  refine ⟨.list ps, by simp only [D.toQ, e, Option.map_some], by simp only [PyData.showable]; exact showable_all a1, ?_, ?_, ?_⟩
  · simp only [PyData.depth]
    have := depth_all a3
    omega
  · simp only [PyData.shown]
    rw [← l]
    exact Nat.le_trans (listText_len_le _) (sw_sum a4)
  · simp only [PyData.shown]
    exact okS_list (okS_all a5)
theorem okS_dict {ts : List Str} (h : ∀ t ∈ ts, okS t) : okS (dictText ts) := by
  unfold dictText
  exact okS_append (okS_append (okS_string _) (okS_join (okS_string _) ts h)) (okS_string _)
/-- {"key": x, 1: y} -/
theorem sw_dk {x y : D} {h n : Nat} (hx : Sw x h n) (hy : Sw y h n) : Sw (.dK [(.inr "key", x), (.inl 1, y)]) (h + 1) (2 * n + 30) := by
  obtain ⟨p, hx⟩ := hx
  obtain ⟨q, hy⟩ := hy
  refine ⟨.dict [(.str "key", p), (.int 1, q)], by simp only [D.toQ, D.toQk, hx.toQ, hy.toQ, keyP, Option.map_some], ?_, ?_, ?_, ?_⟩
  · simp only [PyData.showable, PyData.showableKv, hx.able, hy.able, Bool.and_true, Bool.true_and]
    decide
  · simp only [PyData.depth, PyData.depthKv]
    have := hx.deep
    have := hy.deep
    omega
  · simp only [PyData.shown, PyData.shownKv]
    refine Nat.le_trans (dictText_len_le _) ?_
    have e1 : (reprText "key").length = 5 := by decide +kernel
    have e2 : ((toString (1 : Int) : String) : Str).length = 1 := by decide +kernel
    have e3 : ((": " : String) : Str).length = 2 := rfl
    have := hx.len
    have := hy.len
    simp only [List.map_cons, List.map_nil, List.sum_cons, List.sum_nil, List.length_cons, List.length_nil, strLen_append, e1, e2, e3]
    omega
  · simp only [PyData.shown, PyData.shownKv]
    refine okS_dict fun t ht => ?_
    rcases List.mem_cons.mp ht with rfl | ht
    · exact okS_append (okS_append (okS_ofb (by decide +kernel)) (okS_string _)) hx.ok
    rcases List.mem_cons.mp ht with rfl | ht
    · exact okS_append (okS_append (okS_string _) (okS_string _)) hy.ok
    cases ht
theorem sw_repr {d : D} {h n : Nat} (s : Sw d h n) (hh : h ≤ 64) (hn : n ≤ 10000000) : ∃ t : Str, reprD2 d = some (.str t) ∧ PyData.strOk t = true := by
  obtain ⟨p, s⟩ := s
  refine ⟨p.shown, ?_, okS_of s.ok⟩
  unfold reprD2
  rw [s.toQ, Option.bind_some, if_pos]
  rw [Bool.and_eq_true, Bool.and_eq_true]
  exact ⟨⟨s.able, decide_eq_true (Nat.le_trans s.deep hh)⟩, decide_eq_true (Nat.le_trans s.len hn)⟩
section
variable {env : En} {s s1 s2 : Dk} {d : D} {m n : En → M D} {h k : Nat}
/-- repr(a) != repr(b), both alike -/
theorem ev_reprNe2 (h1 : Ev (m env) s d s1) (h2 : Ev (n env) s1 d s2) (sh : Sw d h k) (hh : h ≤ 64 := by decide) (hk : k ≤ 10000000 := by decide) : Ev (tVal (eOp neD (eMapA (g1 reprD2) (eAcons m eAnil)) (eMapA (g1 reprD2) (eAcons n eAnil))) env) s false s2 := by
  obtain ⟨t, e, ok⟩ := sw_repr sh hh hk
  exact ev_tval (ev_op (ev_mapA (ev_acons h1 ev_anil) e) (ev_mapA (ev_acons h2 ev_anil) e) (str_ne ok))
end
/-! ### plain: neither the deck nor an error within -/
abbrev Pn (d : D) : Prop := d.toQ.isSome = true
theorem Sw.pn {d : D} {h n : Nat} (s : Sw d h n) : Pn d := by
  obtain ⟨p, s⟩ := s
  show d.toQ.isSome = true
  rw [s.toQ]
  rfl
theorem pn_items : ∀ {ds : List D}, (D.toQs ds).isSome = true → ∀ d ∈ ds, Pn d
  | [], _, d, hd => by cases hd
  | x :: r, h, d, hd => by
    simp only [D.toQs] at h
    cases z : D.toQ x with
    | none => rw [z] at h; cases h
    | some p =>
      cases z2 : D.toQs r with
      | none => rw [z, z2] at h; cases h
      | some ps =>
        rcases List.mem_cons.mp hd with rfl | hd
        · show (D.toQ _).isSome = true
          rw [z]
          rfl
        · exact pn_items (by rw [z2]; rfl) d hd
theorem pn_tup {ds : List D} (h : Pn (.tup ds)) : ∀ d ∈ ds, Pn d := pn_items (by
  have h' : (D.toQ (.tup ds)).isSome = true := h
  simp only [D.toQ, Option.isSome_map] at h'
  exact h')
def intB : D → Bool
  | .int _ => true
  | _ => false
def tupB : D → Bool
  | .tup _ => true
  | _ => false
/-- a whole number from lo to hi -/
def inB (lo hi : Int) : D → Bool
  | .int i => decide (lo ≤ i) && decide (i ≤ hi)
  | _ => false
theorem inB_iff {lo hi : Int} {d : D} (h : inB lo hi d = true) : ∃ i, d = .int i ∧ lo ≤ i ∧ i ≤ hi := by
  cases d with
  | int i =>
    unfold inB at h
    simp only [Bool.and_eq_true, decide_eq_true_eq] at h
    exact ⟨i, rfl, h.1, h.2⟩
  | _ => cases h
theorem inB_all {lo hi : Int} : ∀ {ds : List D}, ds.all (inB lo hi) = true → ∃ ns, ds = iL ns ∧ ∀ n ∈ ns, lo ≤ n ∧ n ≤ hi
  | [], _ => ⟨[], rfl, by simp⟩
  | d :: ds, h => by
    rw [List.all_cons, Bool.and_eq_true] at h
    obtain ⟨i, rfl, h1⟩ := inB_iff h.1
    obtain ⟨ns, rfl, h2⟩ := inB_all h.2
    refine ⟨i :: ns, rfl, fun n hn => ?_⟩
    rcases List.mem_cons.mp hn with rfl | hn
    · exact h1
    · exact h2 n hn
theorem isT_tup {d : D} (h : Pn d) : isT .tuple d = some (.bl (tupB d)) := by
  cases d with
  | deck => cases h
  | exc c d => cases h
  | fK ds => cases h
  | _ => rfl
section
variable {env : En} {s : Dk} {d : D}
/-- the one def that asks for a whole number -/
theorem plainB_ok (h : Pn d) (s : Dk) : Ev (runF 1 (sRet (eAndV (eUn (isT .int) (eVar 0)) (eNotV (eUn (isT .bool) (eVar 0))))) [d]) s (.bl (intB d)) s := by
  cases d with
  | deck => cases h
  | exc c d => cases h
  | fK ds => cases h
  | int i => exact ev_run (ev_rt (ev_andV (c := true) (ev_un (ev_var rfl) rfl) (fun _ => ev_notV (c := false) (ev_un (ev_var rfl) rfl)) (fun h => by cases h)))
  | bl b => exact ev_run (ev_rt (ev_andV (c := true) (ev_un (ev_var rfl) rfl) (fun _ => ev_notV (c := true) (ev_un (ev_var rfl) rfl)) (fun h => by cases h)))
  | _ => exact ev_run (ev_rt (ev_andV (c := false) (ev_un (ev_var rfl) rfl) (fun h => by cases h) (fun _ => ⟨rfl, rfl⟩)))
theorem chainB {a b c : En → M D} {g g' : D → D → Option D} {x y z : Int} {p q : Bool} (h1 : Ev (a env) s (.int x) s) (h2 : Ev (b env) s (.int y) s) (h3 : Ev (c env) s (.int z) s) (hg : g (.int x) (.int y) = some (.bl p)) (hg' : g' (.int y) (.int z) = some (.bl q)) : Ev (eChain g g' a b c env) s (.bl (p && q)) s :=
  ev_chain (c := p) h1 h2 hg (fun hp => ⟨_, h3, by rw [hp, hg']; rfl⟩) (fun hp => by rw [hp]; exact ⟨rfl, rfl⟩)
theorem all_bls (f : D → Bool) (ds : List D) : allD (.lst (ds.map fun d => .bl (f d))) = some (.bl (ds.all f)) := by
  have h : bls? (ds.map fun d => D.bl (f d)) = some (ds.map f) := by
    induction ds with
    | nil => rfl
    | cons d ds ih => simp only [List.map_cons, bls?, ih, Option.map_some]
  simp only [allD, h, Option.map_some]
  congr 2
  induction ds with
  | nil => rfl
  | cons d ds ih => simp
/-- a comprehension with a test -/
theorem ev_lcFil {p : Pat} {t : En → M Bool} {e : En → M D} (g : D → Bool) (f : D → D) : ∀ {ds : List D}, (∀ d ∈ ds, ∃ e1, bindP p d env = some e1 ∧ Ev (t e1) s (g d) s ∧ (g d = true → Ev (e e1) s (f d) s)) → Ev (lcM p t e env ds) s ((ds.filter g).map f) s
  | [], _ => rfl
  | d :: ds, h => by
    obtain ⟨e1, h1, h2, h3⟩ := h d List.mem_cons_self
    have ih := ev_lcFil (p := p) (t := t) (e := e) g f fun d' hd => h d' (List.mem_cons_of_mem _ hd)
    cases hg : g d with
    | true =>
      rw [hg] at h2
      rw [List.filter_cons_of_pos hg, List.map_cons]
      exact ev_lc1 h1 h2 (h3 hg) ih
    | false =>
      rw [hg] at h2
      rw [List.filter_cons_of_neg (by rw [hg]; decide)]
      exact ev_lc2 h1 h2 ih
theorem fil_empty (g : D → Bool) (f : D → D) (ds : List D) : ((ds.filter g).map f).isEmpty = ds.all fun d => !g d := by
  induction ds with
  | nil => rfl
  | cons d ds ih =>
    cases h : g d with
    | true => rw [List.filter_cons_of_pos h]; simp [h]
    | false => rw [List.filter_cons_of_neg (by rw [h]; decide), ih]; simp [h]
end
/-! ### errors that rise -/
def Ex {α : Type} (m : M α) (s : Dk) (c : Nat) (d : D) (s' : Dk) : Prop := m s = .exc c d s'
section
variable {α β : Type} {env : En} {s s1 s2 s3 : Dk} {c : Nat} {d x y z : D}
theorem ex_bind1 {m : M α} {f : α → M β} (h : Ex m s c d s1) : Ex (andThen m f) s c d s1 := by
  unfold Ex at h ⊢
  unfold andThen
  rw [h]
  rfl
theorem ex_bind2 {m : M α} {f : α → M β} {a : α} (h : Ev m s a s1) (h2 : Ex (f a) s1 c d s2) : Ex (andThen m f) s c d s2 := by
  unfold Ev at h
  unfold Ex at h2 ⊢
  unfold andThen
  rw [h]
  exact h2
theorem ex_raise {m : En → M D} (h : Ev (m env) s d s1) : Ex (sRaise c m env) s c d s1 := ex_bind2 h rfl
theorem ex_run {n : Nat} {B : En → M Fl} {ds : List D} (h : Ex (B (env0 n ds)) s c d s1) : Ex (runF n B ds) s c d s1 := ex_bind1 h
theorem ex_call {F : List D → M D} {n : En → M (List D)} {ds : List D} {k : Nat} (h1 : Ev (n env) s ds s1) (hk : ds.length = k) (h2 : Ex (F ds) s1 c d s2) : Ex (eCall (cN k F) n env) s c d s2 := ex_bind2 h1 (by unfold cN; rw [if_pos hk]; exact h2)
theorem ex_callK {F : List D → M D} {n : En → M (List D)} {ds es : List D} {k : Nat} {π : List Nat} (h1 : Ev (n env) s ds s1) (he : permL π ds = es) (hk : es.length = k) (h2 : Ex (F es) s1 c d s2) : Ex (eCallK (cN k F) π n env) s c d s2 := ex_bind2 h1 (by subst he; unfold cN; rw [if_pos hk]; exact h2)
theorem ex_seq1 {a b' : En → M Fl} (h1 : Ex (a env) s c d s1) : Ex (sSeq a b' env) s c d s1 := ex_bind1 h1
theorem ex_seq2 {a b' : En → M Fl} {e : En} (h1 : Ev (a env) s (.nx e) s1) (h2 : Ex (b' e) s1 c d s2) : Ex (sSeq a b' env) s c d s2 := ex_bind2 h1 h2
theorem ex_sif {t : En → M Bool} {a b' : En → M Fl} {k : Bool} (h : Ev (t env) s k s1) (h1 : k = true → Ex (a env) s1 c d s2) (h2 : k = false → Ex (b' env) s1 c d s2) : Ex (sIf t a b' env) s c d s2 := ex_bind2 h (by cases k with
  | true => exact h1 rfl
  | false => exact h2 rfl)
theorem ex_sifT {t : En → M Bool} {a b' : En → M Fl} (h : Ex (t env) s c d s1) : Ex (sIf t a b' env) s c d s1 := ex_bind1 h
theorem ex_if {t : En → M Bool} {m n : En → M D} {k : Bool} (h : Ev (t env) s k s1) (h1 : k = true → Ex (m env) s1 c d s2) (h2 : k = false → Ex (n env) s1 c d s2) : Ex (eIf t m n env) s c d s2 := ex_bind2 h (by cases k with
  | true => exact h1 rfl
  | false => exact h2 rfl)
theorem ex_rt {m : En → M D} (h : Ex (m env) s c d s1) : Ex (sRet m env) s c d s1 := ex_bind1 h
theorem ex_drop {m : En → M D} (h : Ex (m env) s c d s1) : Ex (sDrop m env) s c d s1 := ex_bind1 h
theorem ex_acons1 {m : En → M D} {n : En → M (List D)} (h : Ex (m env) s c d s1) : Ex (eAcons m n env) s c d s1 := ex_bind1 h
theorem ex_acons2 {m : En → M D} {n : En → M (List D)} (h1 : Ev (m env) s x s1) (h : Ex (n env) s1 c d s2) : Ex (eAcons m n env) s c d s2 := ex_bind2 h1 (ex_bind1 h)
theorem ex_mapA {g : List D → Option D} {n : En → M (List D)} (h1 : Ex (n env) s c d s1) : Ex (eMapA g n env) s c d s1 := ex_bind1 h1
theorem ev_tryO {m : En → M Fl} {hs : List (Nat × Str)} {ks : List (Option Nat)} {f : Fl} (h : Ev (m env) s f s1) : Ev (sTry m hs ks env) s f s1 := by
  unfold Ev at h ⊢
  unfold sTry
  rw [h]
theorem ev_tryX {m : En → M Fl} {hs : List (Nat × Str)} {ks : List (Option Nat)} {wd : Str} (h : Ex (m env) s c d s1) (hw : hsW hs c = some wd) : Ev (sTry m hs ks env) s (.rt (hdD ks wd c d)) s1 := by
  unfold Ex at h
  unfold Ev sTry
  rw [h]
  simp only [hw]
end
end PV

end

section
set_option maxRecDepth 100000
namespace PV
open PySem PySem.Spec PyProof.Rows L2
/-! ### repr of texts -/
theorem char_lt (a : Char) : a.toNat < 0x110000 := by
  have := a.valid
  unfold Char.toNat
  rcases this with h | h
  · have : a.val.toNat < 0xd800 := h
    omega
  · have : a.val.toNat < 0x110000 := h.2
    omega
theorem reprChar_lt {q c : Nat} (hc : c < 0x110000) : ∀ y ∈ Builtin.Str.reprChar q c, y < 0x110000 := by
  have hx : ∀ w : Nat, ∀ y ∈ (List.replicate (w - ((Nat.toDigits 16 c).map Char.toNat).length) 48 ++ (Nat.toDigits 16 c).map Char.toNat), y < 0x110000 := fun w y hy => by
    rcases List.mem_append.mp hy with h | h
    · rw [List.eq_of_mem_replicate h]; decide
    · obtain ⟨a, _, rfl⟩ := List.mem_map.mp h
      exact char_lt a
  have two : ∀ (a b : Nat), a < 0x110000 → b < 0x110000 → ∀ y ∈ [a, b], y < 0x110000 := fun a b ha hb y hy => by
    simp only [List.mem_cons, List.not_mem_nil, or_false] at hy
    rcases hy with rfl | rfl
    · exact ha
    · exact hb
  have hex : ∀ (a b w : Nat), a < 0x110000 → b < 0x110000 → ∀ y ∈ [a, b] ++ (List.replicate (w - ((Nat.toDigits 16 c).map Char.toNat).length) 48 ++ (Nat.toDigits 16 c).map Char.toNat), y < 0x110000 := fun a b w ha hb y hy => by
    rcases List.mem_append.mp hy with h | h
    · exact two a b ha hb y h
    · exact hx w y h
  unfold Builtin.Str.reprChar
  dsimp only
  repeat' split
  · exact two _ _ (by decide) hc
  · exact two _ _ (by decide) (by decide)
  · exact two _ _ (by decide) (by decide)
  · exact two _ _ (by decide) (by decide)
  · intro y hy
    rw [List.mem_singleton.mp hy]
    exact hc
  · exact hex _ _ _ (by decide) (by decide)
  · exact hex _ _ _ (by decide) (by decide)
  · exact hex _ _ _ (by decide) (by decide)
theorem foldl_repr_lt (q : Nat) : ∀ (l : List Nat) (acc : Array Nat), (∀ c ∈ l, c < 0x110000) → (∀ y ∈ acc.toList, y < 0x110000) → ∀ y ∈ (l.foldl (fun out c => out ++ (Builtin.Str.reprChar q c).toArray) acc).toList, y < 0x110000
  | [], acc, _, ha => ha
  | c :: r, acc, h, ha => foldl_repr_lt q r _ (fun d hd => h d (List.mem_cons_of_mem _ hd)) fun y hy => by
    rw [Array.toList_append] at hy
    rcases List.mem_append.mp hy with h1 | h1
    · exact ha y h1
    · exact reprChar_lt (h c List.mem_cons_self) y h1
theorem okS_repr {x : Str} (h : okS x) : okS (reprText x) := by
  have hq : reprQuote x < 0x110000 := by
    unfold reprQuote
    split <;> decide
  intro y hy
  unfold reprText at hy
  have hy' : y ∈ ((x.cps.foldl (fun out c => out ++ (Builtin.Str.reprChar (reprQuote x) c).toArray) #[reprQuote x]).push (reprQuote x)).toList := hy
  rw [Array.toList_push, ← Array.foldl_toList] at hy'
  rcases List.mem_append.mp hy' with h1 | h1
  · exact foldl_repr_lt _ _ _ h (fun z hz => by
      have : z = reprQuote x := by simpa using hz
      rw [this]
      exact hq) y h1
  · rw [List.mem_singleton.mp h1]
    exact hq
theorem sw_strT {x : Str} (h : okS x) : Sw (.str x) 0 (10 * x.length + 2) := ⟨.str x, rfl, rfl, by simp [PyData.depth], by
    simp only [PyData.shown]
    exact StrLaws.reprText_len x fun c hc => Nat.lt_trans (h c hc) (by decide), by
    simp only [PyData.shown]
    exact okS_repr h⟩
theorem sw_strI {i : Int} {k : Nat} (h0 : 0 < k) (h : i.natAbs < 10 ^ k) : Sw (.str (toString i)) 0 (10 * (k + 1) + 2) :=
  sw_mono (sw_strT (okS_string _)) (Nat.le_refl _) (by
    have : (Str.ofString (toString i)).length ≤ k + 1 := by
      rw [PySem.ofString_length]
      exact int_text_length_le10 h0 h
    omega)
theorem strD_of {i : Int} {k : Nat} (hk : k ≤ 500) (h : i.natAbs < 10 ^ k) : strD (.int i) = some (.str (toString i)) := by
  have hl : i.natAbs.log2 < 1920 := by
    by_cases hz : i.natAbs = 0
    · rw [hz]; decide
    · refine (Nat.log2_lt hz).mpr (Nat.lt_of_lt_of_le h ?_)
      refine Nat.le_trans (Nat.pow_le_pow_right (by decide) hk) (by decide +kernel)
  simp only [strD, hl, if_true]
end PV

end

section
set_option maxRecDepth 100000
namespace K00
open PySem PySem.Spec PyProof.Rows L2 PV
/-- the last part of a draw -/
theorem draw_tail (n : Int) (h0 : 0 < n) (v : Slot) (s : Dk) : ∃ r, Ev ((sSeq (sAsg (.nm 3) (eOp modD (eMapA (g1 intD) (eAcons (eOp addD (eDkI 0 .mixed) (eOp mulD (eC (.int 31337)) (eDkI 0 .draws))) eAnil)) (eC (.int 2147483647)))) (sSeq (sAsg (.nm 3) (eOp modD (eMapA (g1 intD) (eAcons (eOp addD (eOp addD (eOp mulD (eVar 3) (eVar 3)) (eOp mulD (eC (.int 48271)) (eDkI 0 .draws))) (eC (.int 17))) eAnil)) (eC (.int 2147483629)))) (sSeq (sAsg (.nm 3) (eOp modD (eMapA (g1 intD) (eAcons (eOp addD (eOp mulD (eVar 3) (eC (.int 69621))) (eC (.int 77))) eAnil)) (eC (.int 2147483563)))) (sRet (eOp modD (eMapA (g1 intD) (eAcons (eOp fdivD (eVar 3) (eC (.int 64))) eAnil)) (eVar 1)))))) [Slot.val D.deck, Slot.val (D.int n), v, Slot.no]) s (.rt (.int r)) s ∧ 0 ≤ r ∧ r < n := by
  refine ⟨_, ev_seq (ev_asgN (ev_iop (ev_int1 (ev_iop (ev_dkI rfl) (ev_iop ev_c (ev_dkI rfl) (mulD_l (by decide))) rfl)) ev_c (modD_i (by decide))))
    (ev_seq (ev_asgN (ev_iop (ev_int1 (ev_iop (ev_iop (ev_iop (ev_var rfl) (ev_var rfl) (mulD_l (fmod_small (by decide) (by decide)))) (ev_iop ev_c (ev_dkI rfl) (mulD_l (by decide))) rfl) ev_c rfl)) ev_c (modD_i (by decide))))
    (ev_seq (ev_asgN (ev_iop (ev_int1 (ev_iop (ev_iop (ev_var rfl) ev_c (mulD_r (by decide))) ev_c rfl)) ev_c (modD_i (by decide))))
    (ev_rt (ev_iop (ev_int1 (ev_iop (ev_var rfl) ev_c (fdivD_i (by decide)))) (ev_var rfl) (modD_i (by omega)))))), ?_, ?_⟩
  · exact Int.fmod_nonneg_of_pos _ h0
  · exact Int.fmod_lt_of_pos _ h0
theorem draw_ok (n : Int) (h0 : 0 < n) (h1 : n < 1073741824) (s : Dk) (hl : s.left.length ≤ 63) : ∃ r s', Ev (F__law_draw [.deck, .int n]) s (.int r) s' ∧ 0 ≤ r ∧ r < n ∧ s'.left.length ≤ 63 := by
  have first : Ev ((sDkSet 0 .draws (eOp addD (eDkI 0 .draws) (eC (.int 1)))) [Slot.val D.deck, Slot.val (D.int n), Slot.no, Slot.no]) s (.nx [Slot.val D.deck, Slot.val (D.int n), Slot.no, Slot.no]) { s with draws := s.draws + 1 } := ev_dkSet (ev_iop (ev_dkI rfl) ev_c rfl) rfl
  cases hz : s.left.getLast? with
  | none =>
    have he : s.left = [] := List.getLast?_eq_none_iff.mp hz
    obtain ⟨r, e, r0, r1⟩ := draw_tail n h0 Slot.no { s with draws := s.draws + 1 }
    exact ⟨r, _, ev_run (ev_seq first (ev_seq (ev_sif (ev_dkNe rfl) (fun h => by simp [he] at h) (fun _ => ev_next)) e)), r0, r1, hl⟩
  | some c =>
    have hne : s.left ≠ [] := fun z => by rw [z] at hz; cases hz
    have hdl : s.left.dropLast.length = s.left.length - 1 := List.length_dropLast
    have hpos : 0 < s.left.length := List.length_pos_iff.mpr hne
    have pop : Ev (sAsg (.nm 2) (eDkPop 0) [Slot.val D.deck, Slot.val (D.int n), Slot.no, Slot.no]) { s with draws := s.draws + 1 } (.nx [Slot.val D.deck, Slot.val (D.int n), Slot.val (D.int c), Slot.no]) { s with draws := s.draws + 1, left := s.left.dropLast } := ev_asgN (ev_dkPop rfl hz)
    have test : Ev (tVal (eOp geD (eVar 2) (eOp powD (eC (.int 10)) (eC (.int 18)))) [Slot.val D.deck, Slot.val (D.int n), Slot.val (D.int c), Slot.no]) { s with draws := s.draws + 1, left := s.left.dropLast } (decide (1000000000000000000 ≤ c)) { s with draws := s.draws + 1, left := s.left.dropLast } := ev_tval (ev_iop (ev_var rfl) (ev_iop ev_c ev_c rfl) rfl)
    by_cases hc : 1000000000000000000 ≤ c
    · refine ⟨c.fmod n, { s with draws := s.draws + 1, left := s.left.dropLast ++ [c.fdiv (if n > 2 then n else 2)] }, ev_run (ev_seq first (ev_seqR (ev_sif (ev_dkNe rfl) (fun _ => ev_seq pop (ev_seqR (ev_sif test (fun _ => ev_seq (ev_dkApp rfl (ev_iop (ev_var rfl) (ev_mapA (ev_acons ev_c (ev_acons (ev_var rfl) ev_anil)) rfl) (fdivD_i ?_)) ?_) (ev_rt (ev_iop (ev_int1 (ev_var rfl)) (ev_var rfl) (modD_i (by omega))))) (fun h => by simp [hc] at h)))) (fun h => by simp [hne] at h)))), Int.fmod_nonneg_of_pos _ h0, Int.fmod_lt_of_pos _ h0, ?_⟩
      · by_cases h2 : n > 2
        · rw [if_pos h2]; omega
        · rw [if_neg h2]; omega
      · show s.left.dropLast.length < size7
        have : size7 = 10000000 := rfl
        omega
      · show (s.left.dropLast ++ [c.fdiv (if n > 2 then n else 2)]).length ≤ 63
        rw [List.length_append, List.length_singleton]; omega
    · obtain ⟨r, e, r0, r1⟩ := draw_tail n h0 (Slot.val (D.int c)) { s with draws := s.draws + 1, left := s.left.dropLast, mixed := (s.mixed * 39373 + c.fmod 2147483629 + 13).fmod 2147483587 }
      refine ⟨r, _, ev_run (ev_seq first (ev_seq (ev_sif (ev_dkNe rfl) (fun _ => ev_seq pop (ev_seq (ev_sif test (fun h => absurd (of_decide_eq_true h) hc) (fun _ => ev_next)) (ev_dkSet (ev_iop (ev_int1 (ev_iop (ev_iop (ev_iop (ev_dkI rfl) ev_c (mulD_r (by decide))) (ev_iop (ev_int1 (ev_var rfl)) ev_c (modD_i (by decide))) rfl) ev_c rfl)) ev_c (modD_i (by decide))) rfl))) (fun h => by simp [hne] at h)) e)), r0, r1, ?_⟩
      show s.left.dropLast.length ≤ 63
      omega
theorem atI_nn {ds : List D} {r : Int} (h0 : 0 ≤ r) (h1 : r < ds.length) : ∃ d, d ∈ ds ∧ atI ds r = some d := by
  obtain ⟨k, rfl⟩ := Int.eq_ofNat_of_zero_le h0
  have hk : k < ds.length := by omega
  refine ⟨ds[k], List.getElem_mem hk, ?_⟩
  unfold atI ixN
  rw [if_pos h0, if_pos h1]
  simp [hk]
theorem pick_ok (ds : List D) (h : ds ≠ []) (hn : ds.length < 1073741824) (s : Dk) (hl : s.left.length ≤ 63) : ∃ d s', d ∈ ds ∧ Ev (F__law_pick [.deck, .lst ds]) s d s' ∧ s'.left.length ≤ 63 := by
  have hp : 0 < ds.length := List.length_pos_iff.mpr h
  obtain ⟨r, s', e, r0, r1, l1⟩ := draw_ok ds.length (by omega) (by omega) s hl
  obtain ⟨d, hd, hi⟩ := atI_nn r0 r1
  exact ⟨d, s', hd, ev_run (ev_rt (ev_iop (ev_var rfl) (ev_call (ev_acons (ev_var rfl) (ev_acons (ev_mapA (ev_acons (ev_var rfl) ev_anil) rfl) ev_anil)) rfl e) hi)), l1⟩
theorem ev_while1 {t : En → M Bool} {b : En → M Fl} {n : Nat} {env e : En} {s s1 s2 s3 : Dk} {f : Fl} (h1 : Ev (t env) s true s1) (h2 : Ev (b env) s1 (.nx e) s2) (h3 : Ev (whileM t b n e) s2 f s3) : Ev (whileM t b (n + 1) env) s f s3 := ev_bind h1 (by rw [if_pos rfl]; exact ev_bind h2 h3)
theorem ev_while0 {t : En → M Bool} {b : En → M Fl} {n : Nat} {env : En} {s s1 : Dk} (h1 : Ev (t env) s false s1) : Ev (whileM t b (n + 1) env) s (.nx env) s1 := ev_bind h1 (by rw [if_neg Bool.false_ne_true]; exact ev_ret)
abbrev gT : En → M Bool := tVal (eOp gtD (eVar 3) (eC (.int 0)))
abbrev gB : En → M Fl := sAsg2 [2, 3] (e2val (eOp addD (eOp mulD (eVar 2) (eOp powD (eC (.int 10)) (eC (.int 6)))) (eCall (cN 2 F__law_draw) (eAcons (eVar 0) (eAcons (eOp powD (eC (.int 10)) (eC (.int 6))) eAnil)))) (e2val (eOp fdivD (eVar 3) (eOp powD (eC (.int 10)) (eC (.int 6)))) e2nil))
theorem great_loop (m : Int) : ∀ (n : Nat) (f l : Int) (s : Dk), 0 ≤ l → l < 1000000 ^ n → s.left.length ≤ 63 → ∃ f' l' s', Ev (whileM gT gB (n + 1) [.val .deck, .val (.int m), .val (.int f), .val (.int l)]) s (.nx [.val .deck, .val (.int m), .val (.int f'), .val (.int l')]) s' ∧ s'.left.length ≤ 63
  | 0, f, l, s, h0, h1, hl => by
    have hz : l = 0 := by simp at h1; omega
    subst hz
    exact ⟨f, 0, s, ev_while0 (ev_tval (ev_iop (ev_var rfl) ev_c rfl)), hl⟩
  | n + 1, f, l, s, h0, h1, hl => by
    by_cases hp : 0 < l
    · obtain ⟨r, s', e, r0, r1, l1⟩ := draw_ok 1000000 (by decide) (by decide) s hl
      have hd : l.fdiv 1000000 = l / 1000000 := Int.fdiv_eq_ediv_of_nonneg l (by decide)
      have h2 : l.fdiv 1000000 < 1000000 ^ n := by
        rw [hd]
        refine Int.ediv_lt_of_lt_mul (by decide) ?_
        rw [Int.pow_succ] at h1
        exact h1
      have h3 : 0 ≤ l.fdiv 1000000 := by rw [hd]; exact Int.ediv_nonneg h0 (by decide)
      obtain ⟨f', l', s2, e2, l2⟩ := great_loop m n (f * 1000000 + r) (l.fdiv 1000000) s' h3 h2 l1
      refine ⟨f', l', s2, ev_while1 (ev_tval (ev_iop (ev_var rfl) ev_c (show gtD (.int l) (.int 0) = some (.bl true) by simp [gtD, hp]))) (ev_asg2 (xs := [.val (.int (f * 1000000 + r)), .val (.int (l.fdiv 1000000))]) (ev_2val (ev_iop (ev_iop (ev_var rfl) (ev_iop ev_c ev_c rfl) (mulD_r (by decide))) (ev_call (ev_acons (ev_var rfl) (ev_acons (ev_iop ev_c ev_c rfl) ev_anil)) rfl e) rfl) (ev_2val (ev_iop (ev_var rfl) (ev_iop ev_c ev_c rfl) (fdivD_i (by decide))) ev_2nil)) (show 2 ≤ 1000 by decide) rfl) e2, l2⟩
    · exact ⟨f, l, s, ev_while0 (ev_tval (ev_iop (ev_var rfl) ev_c (show gtD (.int l) (.int 0) = some (.bl false) by simp [gtD, hp]))), hl⟩
abbrev iL (ns : List Int) : List D := ns.map D.int
theorem small62_of {n : Int} (h0 : 0 ≤ n) (h1 : n ≤ 1000) : small62 n = true := by
  unfold small62
  simp only [Bool.and_eq_true, decide_eq_true_eq]
  omega
theorem upto_len (n : Int) : (upto n).length = n.toNat := by simp [upto]
/-- one place more -/
theorem words_step {sh lo : List D} {fd : List (List Int)} {pl n : Int} {z : Slot} {s : Dk} (hn : atI sh pl = some (.int n)) (h0 : 0 ≤ n) (h1 : n ≤ 1000) (hf : fd.length ≤ 1000) (hw : ∀ w ∈ fd, w.length ≤ 99) :
    Ev ((sAsg (.nm 2) (eFrz (eLc2 (eItems (eVar 2)) (.nm 4) [4, 5] tYes' (eMapI gRange1 (eAcons (eOp ixD (eVar 0) (eVar 3)) eAnil)) [5] (.nm 5) tYes' (eMapA gTupD (eAstar (eVar 4) (eAcons (eVar 5) eAnil)))))) [.val (.tup sh), .val (.tup lo), .val (.lst (fd.map tupI)), .val (.int pl), .no, .no]) s
      (.nx [.val (.tup sh), .val (.tup lo), .val (.lst ((grow fd n).map tupI)), .val (.int pl), .no, .no]) s := by
  rw [grow_map]
  refine ev_asgN (ev_frz (ev_clc2 (ev_items (ev_var rfl) rfl) (by rw [List.length_map]; exact hf) (ev_lc2Map _ fun d hd => ?_)))
  obtain ⟨w, hwm, rfl⟩ := List.mem_map.mp hd
  refine ⟨_, rangeD 0 n, rfl, ev_mapI (ev_acons (ev_iop (ev_var rfl) (ev_var rfl) hn) ev_anil) (show (if small62 n = true then some (rangeD 0 n) else none) = some (rangeD 0 n) from if_pos (small62_of h0 h1)), by rw [rangeD_upto, List.length_map, upto_len]; omega, ?_⟩
  rw [rangeD_upto]
  have := ev_lcMap (p := .nm 5) (e := eMapA gTupD (eAstar (eVar 4) (eAcons (eVar 5) eAnil))) (env := [.val (.tup sh), .val (.tup lo), .val (.lst (fd.map tupI)), .val (.int pl), .val (tupI w), .no]) (s := s) (fun d => .tup (w.map D.int ++ [d])) (ds := (upto n).map D.int) (fun d hd => ⟨_, rfl, ev_mapA (ev_astar (ev_var rfl) rfl (ev_acons (ev_var rfl) ev_anil)) (by
    show (if (w.map D.int ++ [d]).length ≤ 1000 then _ else _) = _
    rw [if_pos (by rw [List.length_append, List.length_map, List.length_singleton]; have := hw w hwm; omega)])⟩)
  rw [List.map_map] at this
  exact this
theorem grow_mem {fd : List (List Int)} {n : Int} {w : List Int} (h : w ∈ grow fd n) : ∃ v ∈ fd, ∃ x, w = v ++ [x] := by
  obtain ⟨v, hv, hx⟩ := List.mem_flatMap.mp h
  obtain ⟨x, _, rfl⟩ := List.mem_map.mp hx
  exact ⟨v, hv, x, rfl⟩
theorem words_loop {sh lo : List D} (g : Int → Int) : ∀ (lot : List Int) (fd : List (List Int)) (z : Slot) (k : Nat) (s : Dk), (∀ p ∈ lot, atI sh p = some (.int (g p)) ∧ 0 ≤ g p ∧ g p ≤ 1000) → (∀ j, j ≤ lot.length → (((lot.take j).map g).foldl grow fd).length ≤ 1000) → (∀ w ∈ fd, w.length ≤ k) → k + lot.length ≤ 99 →
    ∃ z', Ev (forM' (.nm 3) (sAsg (.nm 2) (eFrz (eLc2 (eItems (eVar 2)) (.nm 4) [4, 5] tYes' (eMapI gRange1 (eAcons (eOp ixD (eVar 0) (eVar 3)) eAnil)) [5] (.nm 5) tYes' (eMapA gTupD (eAstar (eVar 4) (eAcons (eVar 5) eAnil)))))) (iL lot) [.val (.tup sh), .val (.tup lo), .val (.lst (fd.map tupI)), z, .no, .no]) s
      (.nx [.val (.tup sh), .val (.tup lo), .val (.lst (((lot.map g).foldl grow fd).map tupI)), z', .no, .no]) s
  | [], fd, z, k, s, _, _, _, _ => ⟨z, ev_for0⟩
  | p :: lot, fd, z, k, s, hp, hl, hw, hk => by
    obtain ⟨h1, h2, h3⟩ := hp p List.mem_cons_self
    have hf : fd.length ≤ 1000 := hl 0 (Nat.zero_le _)
    have hkk : k + (lot.length + 1) ≤ 99 := hk
    obtain ⟨z', e⟩ := words_loop g lot (grow fd (g p)) (.val (.int p)) (k + 1) s (fun q hq => hp q (List.mem_cons_of_mem _ hq)) (fun j hj => by
      have := hl (j + 1) (by simp; omega)
      simpa using this) (fun w hm => by
      obtain ⟨v, hv, x, rfl⟩ := grow_mem hm
      have := hw v hv
      rw [List.length_append, List.length_singleton]; omega) (by omega)
    exact ⟨z', ev_for1 rfl (words_step (z := z) h1 h2 h3 hf fun w hm => by have := hw w hm; omega) e⟩
/-- the inner walk: longer grows by each world's next ones -/
theorem longer_loop {sh fo : D} {n : Int} (h0 : 0 ≤ n) (h1 : n ≤ 1000) : ∀ (fd lg : List (List Int)) (z : Slot) (s : Dk), lg.length + (grow fd n).length ≤ 100000 → (∀ w ∈ fd, w.length ≤ 99) →
    ∃ z', Ev (forM' (.nm 4) (sExtend 3 (eLc (eMapI gRange1 (eAcons (eVar 2) eAnil)) (.nm 5) [5] tYes' (eOp addD (eVar 4) (eMapA gTupD (eAcons (eVar 5) eAnil))))) (fd.map tupI) [.val sh, .val fo, .val (.int n), .own (.lst (lg.map tupI)), z, .no]) s
      (.nx [.val sh, .val fo, .val (.int n), .own (.lst ((lg ++ grow fd n).map tupI)), z', .no]) s
  | [], lg, z, s, _, _ => ⟨z, by rw [show grow [] n = [] from rfl, List.append_nil]; exact ev_for0⟩
  | w :: fd, lg, z, s, hl, hw => by
    have hg : grow (w :: fd) n = (upto n).map (fun x => w ++ [x]) ++ grow fd n := by simp [grow]
    rw [hg] at hl ⊢
    have hln : ((upto n).map fun x => w ++ [x]).length = n.toNat := by rw [List.length_map, upto_len]
    rw [List.length_append, hln] at hl
    obtain ⟨z', e⟩ := longer_loop h0 h1 fd (lg ++ (upto n).map fun x => w ++ [x]) (.val (tupI w)) s (by rw [List.length_append, hln]; omega) fun v hv => hw v (List.mem_cons_of_mem _ hv)
    rw [← List.append_assoc]
    refine ⟨z', ev_for1 rfl ?_ e⟩
    have inner := ev_lcMap (p := .nm 5) (e := eOp addD (eVar 4) (eMapA gTupD (eAcons (eVar 5) eAnil))) (env := [.val sh, .val fo, .val (.int n), .own (.lst (lg.map tupI)), .val (tupI w), .no]) (s := s) (fun d => .tup (w.map D.int ++ [d])) (ds := (upto n).map D.int) (fun d hd => ⟨_, rfl, ev_iop (ev_var rfl) (ev_mapA (ev_acons (ev_var rfl) ev_anil) rfl) (by
      show (if (w.map D.int).length + [d].length ≤ size7 then _ else _) = _
      rw [if_pos (by rw [List.length_map, List.length_singleton]; have := hw w List.mem_cons_self; have : size7 = 10000000 := rfl; omega)])⟩)
    have lc : Ev (eLc (eMapI gRange1 (eAcons (eVar 2) eAnil)) (.nm 5) [5] tYes' (eOp addD (eVar 4) (eMapA gTupD (eAcons (eVar 5) eAnil))) [.val sh, .val fo, .val (.int n), .own (.lst (lg.map tupI)), .val (tupI w), .no]) s (.lst (((upto n).map fun x => w ++ [x]).map tupI)) s := by
      have hm : ((upto n).map fun x => w ++ [x]).map tupI = ((upto n).map D.int).map fun d => .tup (w.map D.int ++ [d]) := by
        rw [List.map_map, List.map_map]
        exact List.map_congr_left fun x _ => tupI_snoc w x
      rw [hm]
      refine ev_lc (ds := rangeD 0 n) (ev_mapI (ev_acons (ev_var rfl) ev_anil) (show (if small62 n = true then some (rangeD 0 n) else none) = some (rangeD 0 n) from if_pos (small62_of h0 h1))) (by rw [rangeD_upto, List.length_map, upto_len]; have : size7 = 10000000 := rfl; omega) ?_
      rw [rangeD_upto]
      exact inner
    have ex := ev_extend (i := 3) (env := [.val sh, .val fo, .val (.int n), .own (.lst (lg.map tupI)), .val (tupI w), .no]) (ds := lg.map tupI) rfl lc (by rw [List.length_map, List.length_map, hln]; have : size7 = 10000000 := rfl; omega)
    rw [← List.map_append] at ex
    exact ex
theorem worlds_loop {sh : D} : ∀ (ns : List Int) (fd : List (List Int)) (z2 z3 z4 : Slot) (k : Nat) (s : Dk), (∀ n ∈ ns, 0 ≤ n ∧ n ≤ 1000) → (∀ j, j ≤ ns.length → ((ns.take j).foldl grow fd).length ≤ 100000) → (∀ w ∈ fd, w.length ≤ k) → k + ns.length ≤ 99 →
    ∃ z2' z3' z4', Ev (forM' (.nm 2) (sSeq (sAsgO 3 (eMapO gLstO eAnil)) (sSeq (sFor (eItems (eVar 1)) (.nm 4) (sExtend 3 (eLc (eMapI gRange1 (eAcons (eVar 2) eAnil)) (.nm 5) [5] tYes' (eOp addD (eVar 4) (eMapA gTupD (eAcons (eVar 5) eAnil)))))) (sFrz [3] (sAsg (.nm 1) (eVar 3))))) (iL ns) [.val sh, .val (.lst (fd.map tupI)), z2, z3, z4, .no]) s
      (.nx [.val sh, .val (.lst ((ns.foldl grow fd).map tupI)), z2', z3', z4', .no]) s
  | [], fd, z2, z3, z4, k, s, _, _, _, _ => ⟨z2, z3, z4, ev_for0⟩
  | n :: ns, fd, z2, z3, z4, k, s, hn, hl, hw, hk => by
    obtain ⟨h0, h1⟩ := hn n List.mem_cons_self
    have hkk : k + (ns.length + 1) ≤ 99 := hk
    have hg : (grow fd n).length ≤ 100000 := by
      have := hl 1 (by simp)
      simpa using this
    obtain ⟨z', e1⟩ := longer_loop (sh := sh) (fo := .lst (fd.map tupI)) h0 h1 fd [] z4 s (by simpa using hg) fun w hm => by have := hw w hm; omega
    obtain ⟨a2, a3, a4, e2⟩ := worlds_loop (sh := sh) ns (grow fd n) (.val (.int n)) (.val (.lst ((grow fd n).map tupI))) z' (k + 1) s (fun m hm => hn m (List.mem_cons_of_mem _ hm)) (fun j hj => by
      have := hl (j + 1) (by simp; omega)
      simpa using this) (fun w hm => by
      obtain ⟨v, hv, x, rfl⟩ := grow_mem hm
      have := hw v hv
      rw [List.length_append, List.length_singleton]; omega) (by omega)
    exact ⟨a2, a3, a4, ev_for1 rfl (ev_seq (ev_asgO (ev_mapO ev_anil rfl)) (ev_seq (ev_for (ev_items (ev_var rfl) rfl) e1) (ev_sfrz rfl (ev_asgN (ev_var rfl))))) e2⟩
theorem ev_drop {m : En → M D} {env : En} {s s1 : Dk} {d : D} (h : Ev (m env) s d s1) : Ev (sDrop m env) s (.nx env) s1 := ev_bind h ev_ret
theorem ev_slice1 {m : En → M D} {env : En} {s s1 : Dk} {d e : D} (h : Ev (m env) s d s1) (h2 : cutD d (some 1) none = some e) : Ev (eSlice m (ePart (eC (.int 1))) eNoPart env) s e s1 := ev_bind h (ev_bind (show Ev (ePart (eC (.int 1)) env) s1 (some 1) s1 from rfl) (ev_bind (show Ev (eNoPart env) s1 none s1 from rfl) (ev_opt h2)))
theorem cut1D (ds : List D) : cutL ds (some 1) none = ds.drop 1 := by
  unfold cutL
  rw [show HT.sIx ds.length 0 (some 1) = min 1 ds.length from HT.sIx_nat ds.length 0 1, HT.sIx_none]
  cases ds with
  | nil => rfl
  | cons x r =>
    rw [show min 1 (x :: r).length = 1 by rw [List.length_cons]; omega]
    simp
theorem all_true : ∀ (ds : List D), allD (.lst (ds.map fun _ => .bl true)) = some (.bl true) := fun ds => by
  have h : bls? (ds.map fun _ => D.bl true) = some (ds.map fun _ => true) := by
    induction ds with
    | nil => rfl
    | cons d ds ih => simp only [List.map_cons, bls?, ih, Option.map_some]
  simp only [allD, h, Option.map_some]
  congr 2
  induction ds with
  | nil => rfl
  | cons d ds ih => simp
theorem chain_ok {env : En} {s : Dk} {a b c : En → M D} {g' : D → D → Option D} {x y z : Int} (h1 : Ev (a env) s (.int x) s) (h2 : Ev (b env) s (.int y) s) (h3 : Ev (c env) s (.int z) s) (hx : x ≤ y) (hg : g' (.int y) (.int z) = some (.bl true)) : Ev (eChain leD g' a b c env) s (.bl true) s :=
  ev_chain (c := true) h1 h2 (by simp [leD, hx]) (fun _ => ⟨_, h3, hg⟩) (fun h => by cases h)
structure Shp (sh : List Int) : Prop where
  l1 : 1 ≤ sh.length
  l4 : sh.length ≤ 4
  le : ∀ n ∈ sh, 1 ≤ n ∧ n ≤ 4
theorem zip_mem : ∀ {lot : List Int} {d : D}, lot.Pairwise (· < ·) → d ∈ zipD (iL lot) ((iL lot).drop 1) → ∃ a b : Int, d = .tup [.int a, .int b] ∧ a < b
  | [], d, _, h => by simp [zipD] at h
  | [x], d, _, h => by simp [zipD] at h
  | x :: y :: r, d, hp, h => by
    have h' : d ∈ D.tup [.int x, .int y] :: zipD (iL (y :: r)) ((iL (y :: r)).drop 1) := h
    rcases List.mem_cons.mp h' with e | e
    · exact ⟨x, y, e, (List.pairwise_cons.mp hp).1 y List.mem_cons_self⟩
    · exact zip_mem (List.pairwise_cons.mp hp).2 e
structure Lot (k : Nat) (lot : List Int) : Prop where
  asc : lot.Pairwise (· < ·)
  rng : ∀ p ∈ lot, 0 ≤ p ∧ p < k
  len : lot.length ≤ 4
def nth (xs : List Int) (p : Int) : Int := xs.getD p.toNat 0
theorem nth_at {xs : List Int} {p : Int} (h0 : 0 ≤ p) (h1 : p < xs.length) : atI (iL xs) p = some (.int (nth xs p)) := by
  obtain ⟨k, rfl⟩ := Int.eq_ofNat_of_zero_le h0
  have hk : k < xs.length := by omega
  unfold atI ixN
  rw [if_pos h0, List.length_map, if_pos h1]
  simp [nth, hk]
theorem nth_mem {xs : List Int} {p : Int} (h0 : 0 ≤ p) (h1 : p < xs.length) : nth xs p ∈ xs := by
  obtain ⟨k, rfl⟩ := Int.eq_ofNat_of_zero_le h0
  have hk : k < xs.length := by omega
  have : nth xs (k : Int) = xs[k] := by simp [nth, hk]
  rw [this]
  exact List.getElem_mem hk
theorem upto_nth (xs : List Int) : (upto xs.length).map (nth xs) = xs := by
  apply List.ext_getElem?
  intro i
  unfold upto
  rw [List.map_map, List.getElem?_map]
  by_cases h : i < xs.length
  · rw [List.getElem?_range (by simpa using h)]
    simp [nth, h]
  · rw [List.getElem?_eq_none (by simpa using h), List.getElem?_eq_none (by omega)]
    rfl
theorem grow_len (fd : List (List Int)) (n : Int) : (grow fd n).length = fd.length * n.toNat := by
  induction fd with
  | nil => simp [grow]
  | cons w fd ih =>
    have hg : grow (w :: fd) n = (upto n).map (fun x => w ++ [x]) ++ grow fd n := by simp [grow]
    rw [hg, List.length_append, ih, List.length_map, upto_len, List.length_cons, Nat.succ_mul]
    omega
theorem fold_len : ∀ (ns : List Int) (fd : List (List Int)), (∀ n ∈ ns, n ≤ 4) → (ns.foldl grow fd).length ≤ fd.length * 4 ^ ns.length
  | [], fd, _ => by simp
  | n :: ns, fd, h => by
    have h1 := fold_len ns (grow fd n) fun m hm => h m (List.mem_cons_of_mem _ hm)
    have h2 := h n List.mem_cons_self
    rw [grow_len] at h1
    rw [List.foldl_cons, List.length_cons, Nat.pow_succ]
    refine Nat.le_trans h1 ?_
    have h3 : n.toNat ≤ 4 := by omega
    calc fd.length * n.toNat * 4 ^ ns.length ≤ fd.length * 4 * 4 ^ ns.length := Nat.mul_le_mul_right _ (Nat.mul_le_mul_left _ h3)
      _ = fd.length * (4 ^ ns.length * 4) := by rw [Nat.mul_assoc, Nat.mul_comm 4]
theorem words_len {ns : List Int} (h : ∀ n ∈ ns, n ≤ 4) (hl : ns.length ≤ 4) : (wordsL ns).length ≤ 256 := by
  have h1 := fold_len ns [[]] h
  rw [List.length_singleton, Nat.one_mul] at h1
  exact Nat.le_trans h1 (Nat.pow_le_pow_right (n := 4) (by decide) hl)
theorem ne_int (a b : Int) : neD (.int a) (.int b) = some (.bl (!decide (a = b))) := by
  have e : (a == b) = decide (a = b) := by by_cases h : a = b <;> simp [h]
  simp [neD, D.toP, SeqAt.shaped, PyData.canLay0, PyData.depth, PyData.eqv, e]
theorem eq_int (a b : Int) : eqD (.int a) (.int b) = some (.bl (decide (a = b))) := by
  have e : (a == b) = decide (a = b) := by by_cases h : a = b <;> simp [h]
  simp [eqD, D.toP, SeqAt.shaped, PyData.canLay0, PyData.depth, PyData.eqv, e]
theorem zip_mem2 : ∀ {xs ys : List Int} {d : D}, d ∈ zipD (iL xs) (iL ys) → ∃ (i : Nat) (x y : Int), xs[i]? = some x ∧ ys[i]? = some y ∧ d = .tup [.int x, .int y]
  | [], ys, d, h => by simp [zipD] at h
  | x :: xs, [], d, h => by simp [zipD] at h
  | x :: xs, y :: ys, d, h => by
    have h' : d ∈ D.tup [.int x, .int y] :: zipD (iL xs) (iL ys) := h
    rcases List.mem_cons.mp h' with e | e
    · exact ⟨0, x, y, rfl, rfl, e⟩
    · obtain ⟨i, a, b, e1, e2, e3⟩ := zip_mem2 e
      exact ⟨i + 1, a, b, by simpa using e1, by simpa using e2, e3⟩
/-- w is a word over the lot -/
structure Wd (sh lot w : List Int) : Prop where
  len : w.length = lot.length
  rng : ∀ (i : Nat) (p x : Int), lot[i]? = some p → w[i]? = some x → (0 ≤ p ∧ p < sh.length) ∧ 0 ≤ x ∧ x < nth sh p
structure Md (m : Int) : Prop where
  ok : m = 0 ∨ 2 ≤ m
def Nm (m x : Int) : Prop := m = 0 ∨ (0 ≤ x ∧ x < m)
def prodI (ns : List Int) : Int := ns.foldl (fun a n => a * n) 1
theorem small_le {n : Int} (h0 : 0 ≤ n) (h1 : n ≤ 1000) : small64b n = true := by
  unfold small64b
  simp only [Bool.and_eq_true, decide_eq_true_eq]
  omega
theorem many_loop {sh lo : List Int} (h : Shp sh) : ∀ (lot : List Int) (a : Int) (z : Slot) (s : Dk), (∀ p ∈ lot, 0 ≤ p ∧ p < sh.length) → ∃ z', Ev (forM' (.nm 3) (sAsg (.nm 2) (eOp mulD (eVar 2) (eOp ixD (eVar 0) (eVar 3)))) (iL lot) [.val (.tup (iL sh)), .val (.tup (iL lo)), .val (.int a), z]) s (.nx [.val (.tup (iL sh)), .val (.tup (iL lo)), .val (.int ((lot.map (nth sh)).foldl (fun a n => a * n) a)), z']) s
  | [], a, z, s, _ => ⟨z, ev_for0⟩
  | p :: lot, a, z, s, hr => by
    obtain ⟨p0, p1⟩ := hr p List.mem_cons_self
    obtain ⟨n1, n4⟩ := h.le _ (nth_mem p0 p1)
    obtain ⟨z', e⟩ := many_loop h lot (a * nth sh p) (.val (.int p)) s fun q hq => hr q (List.mem_cons_of_mem _ hq)
    exact ⟨z', ev_for1 rfl (ev_asgN (ev_iop (ev_var rfl) (ev_iop (ev_var rfl) (ev_var rfl) (nth_at p0 p1)) (mulD_r (small_le (by omega) (by omega))))) e⟩
/-- a list over a lot -/
structure Lst (sh : List Int) (m : Int) (lot es : List Int) : Prop where
  len : (es.length : Int) = prodI (lot.map (nth sh))
  num : ∀ x ∈ es, Nm m x
  few : es.length ≤ 256
/-- a word's number -/
def atW (sh lot w : List Int) (a : Int) : Int := lot.foldl (fun a p => a * nth sh p + nth w p) a
theorem met_loop {sh lo es w : List Int} (h : Shp sh) (hw : w.length = sh.length) : ∀ (lot : List Int) (a : Int) (z : Slot) (s : Dk), (∀ p ∈ lot, 0 ≤ p ∧ p < sh.length) → ∃ z', Ev (forM' (.nm 5) (sAsg (.nm 4) (eOp addD (eOp mulD (eVar 4) (eOp ixD (eVar 0) (eVar 5))) (eOp ixD (eVar 3) (eVar 5)))) (iL lot) [.val (.tup (iL sh)), .val (.tup (iL lo)), .val (.tup (iL es)), .val (.tup (iL w)), .val (.int a), z]) s
      (.nx [.val (.tup (iL sh)), .val (.tup (iL lo)), .val (.tup (iL es)), .val (.tup (iL w)), .val (.int (atW sh lot w a)), z']) s
  | [], a, z, s, _ => ⟨z, ev_for0⟩
  | p :: lot, a, z, s, hr => by
    obtain ⟨p0, p1⟩ := hr p List.mem_cons_self
    obtain ⟨n1, n4⟩ := h.le _ (nth_mem p0 p1)
    obtain ⟨z', e⟩ := met_loop h hw lot (a * nth sh p + nth w p) (.val (.int p)) s fun q hq => hr q (List.mem_cons_of_mem _ hq)
    exact ⟨z', ev_for1 rfl (ev_asgN (ev_iop (ev_iop (ev_var rfl) (ev_iop (ev_var rfl) (ev_var rfl) (nth_at p0 p1)) (mulD_r (small_le (by omega) (by omega)))) (ev_iop (ev_var rfl) (ev_var rfl) (nth_at p0 (by rw [hw]; exact p1))) rfl)) e⟩
theorem upto_mem {n x : Int} : x ∈ upto n ↔ 0 ≤ x ∧ x < n := by
  unfold upto
  constructor
  · intro h
    obtain ⟨i, hi, rfl⟩ := List.mem_map.mp h
    have := List.mem_range.mp hi
    omega
  · rintro ⟨h0, h1⟩
    exact List.mem_map.mpr ⟨x.toNat, List.mem_range.mpr (by omega), by omega⟩
theorem fold_mem : ∀ (ns : List Int) (fd : List (List Int)) (w : List Int), w ∈ ns.foldl grow fd → ∃ v ∈ fd, ∃ u, w = v ++ u ∧ u.length = ns.length ∧ ∀ (i : Nat) (n x : Int), ns[i]? = some n → u[i]? = some x → 0 ≤ x ∧ x < n
  | [], fd, w, h => ⟨w, h, [], by simp, rfl, fun i n x e => by simp at e⟩
  | n :: ns, fd, w, h => by
    obtain ⟨v', hv', u, e, hl, hu⟩ := fold_mem ns (grow fd n) w h
    obtain ⟨v, hv, hx⟩ := List.mem_flatMap.mp hv'
    obtain ⟨x, hxm, rfl⟩ := List.mem_map.mp hx
    refine ⟨v, hv, x :: u, by rw [e, List.append_assoc]; rfl, by simp [hl], fun i m y e1 e2 => ?_⟩
    cases i with
    | zero =>
      cases e1
      cases e2
      exact upto_mem.mp hxm
    | succ i => exact hu i m y (by simpa using e1) (by simpa using e2)
theorem words_mem {ns w : List Int} (h : w ∈ wordsL ns) : w.length = ns.length ∧ ∀ (i : Nat) (n x : Int), ns[i]? = some n → w[i]? = some x → 0 ≤ x ∧ x < n := by
  obtain ⟨v, hv, u, e, hl, hu⟩ := fold_mem ns [[]] w h
  have hv' : v = [] := by simpa using hv
  subst hv'
  rw [List.nil_append] at e
  subst e
  exact ⟨hl, hu⟩
theorem nth_get {xs : List Int} {p : Int} {x : Int} (h0 : 0 ≤ p) (h : xs[p.toNat]? = some x) : nth xs p = x := by
  unfold nth
  rw [List.getD_eq_getElem?_getD, h]
  rfl
theorem get_nth {xs : List Int} {p : Int} (h0 : 0 ≤ p) (h1 : p < xs.length) : xs[p.toNat]? = some (nth xs p) := by
  have hk : p.toNat < xs.length := by omega
  unfold nth
  rw [List.getD_eq_getElem?_getD, List.getElem?_eq_getElem hk]
  rfl
theorem world_at {sh w : List Int} (h : w ∈ wordsL sh) {p : Int} (h0 : 0 ≤ p) (h1 : p < sh.length) : 0 ≤ nth w p ∧ nth w p < nth sh p := by
  obtain ⟨hl, hw⟩ := words_mem h
  exact hw p.toNat _ _ (get_nth h0 h1) (get_nth h0 (by rw [hl]; exact h1))
theorem world_wd {sh w : List Int} (h : w ∈ wordsL sh) : Wd sh (upto sh.length) w := by
  obtain ⟨hl, hw⟩ := words_mem h
  refine ⟨by rw [hl, upto_len]; omega, fun i p x e1 e2 => ?_⟩
  have hi : i < sh.length := by
    have := (List.getElem?_eq_some_iff.mp e1).1
    rw [upto_len] at this
    omega
  have hp : p = (i : Int) := by
    unfold upto at e1
    rw [List.getElem?_map, List.getElem?_range (by simpa using hi)] at e1
    simpa using e1.symm
  subst hp
  have hs : sh[i]? = some (nth sh (i : Int)) := by
    have := get_nth (xs := sh) (p := (i : Int)) (by omega) (by omega)
    simpa using this
  exact ⟨⟨by omega, by omega⟩, hw i _ x hs e2⟩
theorem at_bound {sh w : List Int} (hw : ∀ p : Int, 0 ≤ p → p < sh.length → 0 ≤ nth w p ∧ nth w p < nth sh p) : ∀ (lot : List Int) (a P : Int), (∀ p ∈ lot, 0 ≤ p ∧ p < sh.length) → 0 ≤ a → a < P → 0 ≤ atW sh lot w a ∧ atW sh lot w a < (lot.map (nth sh)).foldl (fun a n => a * n) P
  | [], a, P, _, h0, h1 => ⟨h0, h1⟩
  | p :: lot, a, P, hr, h0, h1 => by
    obtain ⟨p0, p1⟩ := hr p List.mem_cons_self
    obtain ⟨x0, x1⟩ := hw p p0 p1
    have hn : 0 < nth sh p := by omega
    refine at_bound hw lot (a * nth sh p + nth w p) (P * nth sh p) (fun q hq => hr q (List.mem_cons_of_mem _ hq)) ?_ ?_
    · have := Int.mul_nonneg h0 (Int.le_of_lt hn)
      omega
    · have h2 : (a + 1) * nth sh p ≤ P * nth sh p := Int.mul_le_mul_of_nonneg_right (by omega) (Int.le_of_lt hn)
      rw [Int.add_mul, Int.one_mul] at h2
      omega
theorem ints_iL : ∀ w : List Int, ints? (w.map D.int) = some w
  | [] => rfl
  | x :: w => by simp only [List.map_cons, ints?, ints_iL w, Option.map_some]
theorem ev_eqR {α : Type} {m : M α} {s s1 : Dk} {a b : α} (h : Ev m s a s1) (e : a = b) : Ev m s b s1 := e ▸ h
/-- [xs[p] for p in lot] -/
theorem pick_map {env : En} {s : Dk} {it : En → M (List D)} {ex : En → M D} {i : Nat} {lot : List Int} (f : Int → D) (h : Ev (it env) s (iL lot) s) (hl : lot.length ≤ 1000) (hx : ∀ p ∈ lot, Ev (ex ((wipeE env [i]).set i (.val (.int p)))) s (f p) s) : Ev (eLc it (.nm i) [i] tYes' ex env) s (.lst (lot.map f)) s := by
  have e := ev_lc (p := .nm i) (vs := [i]) (t := tYes') (e := ex) h (by rw [List.length_map]; have : size7 = 10000000 := rfl; omega) (ev_lcMap (fun d => match d with | .int p => f p | d => d) fun d hd => by
    obtain ⟨p, hp, rfl⟩ := List.mem_map.mp hd
    exact ⟨_, by simp only [bindP], hx p hp⟩)
  rw [List.map_map] at e
  exact e
def lotsF (fd : List (List Int)) (p : Int) : List (List Int) := fd ++ fd.map fun l => l ++ [p]
def lotsL (ps : List Int) : List (List Int) := ps.foldl lotsF [[]]
theorem lotsF_len (fd : List (List Int)) (p : Int) : (lotsF fd p).length = 2 * fd.length := by simp [lotsF]; omega
theorem lots_loop {k : Int} : ∀ (ps : List Int) (fd : List (List Int)) (z : Slot) (s : Dk), fd.length * 2 ^ ps.length ≤ 1000 → (∀ l ∈ fd, l.length + ps.length ≤ 99) → ∃ z', Ev (forM' (.nm 2) (sExtend 1 (eLc (eOwnItems 1) (.nm 3) [3] tYes' (eOp addD (eVar 3) (eMapA gTupD (eAcons (eVar 2) eAnil))))) (iL ps) [.val (.int k), .own (.lst (fd.map tupI)), z, .no]) s
      (.nx [.val (.int k), .own (.lst ((ps.foldl lotsF fd).map tupI)), z', .no]) s
  | [], fd, z, s, _, _ => ⟨z, ev_for0⟩
  | p :: ps, fd, z, s, hl, hk => by
    have hf : fd.length ≤ 1000 := by
      have h1 : 1 ≤ 2 ^ (p :: ps).length := Nat.one_le_two_pow
      exact Nat.le_trans (Nat.le_mul_of_pos_right _ (by omega)) hl
    have s7 : size7 = 10000000 := rfl
    obtain ⟨z', e⟩ := lots_loop (k := k) ps (lotsF fd p) (.val (.int p)) s (by
      rw [lotsF_len, Nat.mul_comm 2, Nat.mul_assoc]
      rw [List.length_cons, Nat.pow_succ, Nat.mul_comm (2 ^ ps.length)] at hl
      exact hl) (fun l hm => by
      rcases List.mem_append.mp hm with h | h
      · have := hk l h
        simp at this
        omega
      · obtain ⟨l', h', rfl⟩ := List.mem_map.mp h
        have := hk l' h'
        simp at this ⊢
        omega)
    have lc : Ev (eLc (eOwnItems 1) (.nm 3) [3] tYes' (eOp addD (eVar 3) (eMapA gTupD (eAcons (eVar 2) eAnil))) [.val (.int k), .own (.lst (fd.map tupI)), .val (.int p), .no]) s (.lst ((fd.map fun l => l ++ [p]).map tupI)) s := by
      have e := ev_lc (p := .nm 3) (vs := [3]) (t := tYes') (it := eOwnItems 1) (env := [.val (.int k), .own (.lst (fd.map tupI)), .val (.int p), .no]) (s := s) (ds := fd.map tupI) rfl (by rw [List.length_map]; omega) (ev_lcMap (e := eOp addD (eVar 3) (eMapA gTupD (eAcons (eVar 2) eAnil))) (fun d => match d with | .tup ds => .tup (ds ++ [.int p]) | d => d) fun d hd => by
        obtain ⟨l, hm, rfl⟩ := List.mem_map.mp hd
        refine ⟨_, rfl, ev_iop (ev_var rfl) (ev_mapA (ev_acons (ev_var rfl) ev_anil) rfl) ?_⟩
        show (if (l.map D.int).length + [D.int p].length ≤ size7 then _ else _) = _
        rw [if_pos (by rw [List.length_map, List.length_singleton]; have := hk l hm; simp at this; omega)]
        rfl)
      have e2 : (fd.map fun l => l ++ [p]).map tupI = (fd.map tupI).map fun d => match d with | .tup ds => .tup (ds ++ [.int p]) | d => d := by
        rw [List.map_map, List.map_map]
        exact List.map_congr_left fun l _ => tupI_snoc l p
      rw [e2]
      exact e
    have ex := ev_extend (i := 1) (env := [.val (.int k), .own (.lst (fd.map tupI)), .val (.int p), .no]) (ds := fd.map tupI) rfl lc (by rw [List.length_map, List.length_map, List.length_map]; omega)
    rw [← List.map_append] at ex
    exact ⟨z', ev_for1 rfl ex e⟩
theorem tupIs_map : ∀ nss : List (List Int), tupIs? (nss.map tupI) = some nss
  | [] => rfl
  | ns :: nss => by 
    have ih := tupIs_map nss
    show (match ints? (ns.map D.int), tupIs? (nss.map tupI) with | some ns, some rs => some (ns :: rs) | _, _ => none) = _
    rw [ints_iL, ih]
theorem fold_cons (p : List Int) : ∀ (ps : List Int) (fd : List (List Int)), ∃ r, ps.foldl lotsF (p :: fd) = p :: r
  | [], fd => ⟨fd, rfl⟩
  | q :: ps, fd => by
    obtain ⟨r, e⟩ := fold_cons p ps (fd ++ (p :: fd).map fun l => l ++ [q])
    exact ⟨r, e⟩
theorem lots_fold : ∀ (ps : List Int) (fd : List (List Int)) (b : Int) (c : Nat), ps.Pairwise (· < ·) → (∀ p ∈ ps, b ≤ p) → (∀ l ∈ fd, l.Pairwise (· < ·) ∧ (∀ x ∈ l, 0 ≤ x ∧ x < b) ∧ l.length ≤ c) → 0 ≤ b → ∀ (top : Int), (∀ p ∈ ps, p < top) → b ≤ top → ∀ l ∈ ps.foldl lotsF fd, l.Pairwise (· < ·) ∧ (∀ x ∈ l, 0 ≤ x ∧ x < top) ∧ l.length ≤ c + ps.length
  | [], fd, b, c, _, _, h, hb, top, _, ht, l, hm => by
    obtain ⟨h1, h2, h3⟩ := h l hm
    exact ⟨h1, fun x hx => ⟨(h2 x hx).1, by have := (h2 x hx).2; omega⟩, h3⟩
  | p :: ps, fd, b, c, hp, hge, h, hb, top, htop, ht, l, hm => by
    obtain ⟨p1, p2⟩ := List.pairwise_cons.mp hp
    have hbp := hge p List.mem_cons_self
    have := lots_fold ps (lotsF fd p) (p + 1) (c + 1) p2 (fun q hq => by have := p1 q hq; omega) (fun l hl => by
      rcases List.mem_append.mp hl with hl | hl
      · obtain ⟨h1, h2, h3⟩ := h l hl
        exact ⟨h1, fun x hx => by have := h2 x hx; omega, by omega⟩
      · obtain ⟨l', hl', rfl⟩ := List.mem_map.mp hl
        obtain ⟨h1, h2, h3⟩ := h l' hl'
        refine ⟨List.pairwise_append.mpr ⟨h1, List.pairwise_singleton _ _, fun x hx y hy => ?_⟩, fun x hx => ?_, by simp; omega⟩
        · have := h2 x hx
          rw [List.mem_singleton.mp hy]
          omega
        · rcases List.mem_append.mp hx with hx | hx
          · have := h2 x hx; omega
          · rw [List.mem_singleton.mp hx]; omega) (by omega) top (fun q hq => htop q (List.mem_cons_of_mem _ hq)) (by have := htop p List.mem_cons_self; omega) l hm
    obtain ⟨a1, a2, a3⟩ := this
    exact ⟨a1, a2, by rw [List.length_cons]; omega⟩
theorem upto_asc (n : Int) : (upto n).Pairwise (· < ·) := by
  unfold upto
  rw [List.pairwise_map]
  exact List.pairwise_lt_range.imp fun h => by omega
theorem lots_mem {k : Nat} (h4 : k ≤ 4) {l : List Int} (h : l ∈ sortL (lotsL (upto k))) : Lot k l := by
  have hm : l ∈ lotsL (upto k) := (sortL_perm _).mem_iff.mp h
  obtain ⟨a1, a2, a3⟩ := lots_fold (upto k) [[]] 0 0 (upto_asc k) (fun p hp => (upto_mem.mp hp).1) (fun l hl => by
    have : l = [] := by simpa using hl
    subst this
    simp) (by decide) k (fun p hp => (upto_mem.mp hp).2) (by omega) l hm
  rw [upto_len] at a3
  exact ⟨a1, a2, by omega⟩
theorem upto_get {n x : Int} (h0 : 0 ≤ x) (h1 : x < n) : (upto n)[x.toNat]? = some x := by
  unfold upto
  rw [List.getElem?_map, List.getElem?_range (by omega)]
  simp
  omega
theorem grow_get {n x : Int} (h0 : 0 ≤ x) (h1 : x < n) : ∀ (fd : List (List Int)) (i : Nat) (v : List Int), fd[i]? = some v → (grow fd n)[i * n.toNat + x.toNat]? = some (v ++ [x])
  | [], i, v, h => by simp at h
  | v0 :: fd, 0, v, h => by
    have e0 : v0 = v := by simpa using h
    subst e0
    have hg : grow (v0 :: fd) n = (upto n).map (fun x => v0 ++ [x]) ++ grow fd n := by simp [grow]
    rw [hg, Nat.zero_mul, Nat.zero_add, List.getElem?_append_left (by rw [List.length_map, upto_len]; omega), List.getElem?_map, upto_get h0 h1]
    rfl
  | w :: fd, i + 1, v, h => by
    have hg : grow (w :: fd) n = (upto n).map (fun x => w ++ [x]) ++ grow fd n := by simp [grow]
    have hl : ((upto n).map fun x => w ++ [x]).length = n.toNat := by rw [List.length_map, upto_len]
    have e : (i + 1) * n.toNat + x.toNat = n.toNat + (i * n.toNat + x.toNat) := by rw [Nat.succ_mul]; omega
    rw [hg, e, List.getElem?_append_right (by omega), hl, Nat.add_sub_cancel_left]
    exact grow_get h0 h1 fd i v (by simpa using h)
/-- the word of a world stands at its number -/
theorem fold_get {sh w : List Int} (hw : ∀ p : Int, 0 ≤ p → p < sh.length → 0 ≤ nth w p ∧ nth w p < nth sh p) : ∀ (lot : List Int) (fd : List (List Int)) (a : Int) (v : List Int), (∀ p ∈ lot, 0 ≤ p ∧ p < sh.length) → 0 ≤ a → fd[a.toNat]? = some v → ((lot.map (nth sh)).foldl grow fd)[(atW sh lot w a).toNat]? = some (v ++ lot.map (nth w))
  | [], fd, a, v, _, _, h => by simpa [atW] using h
  | p :: lot, fd, a, v, hr, h0, h => by
    obtain ⟨p0, p1⟩ := hr p List.mem_cons_self
    obtain ⟨x0, x1⟩ := hw p p0 p1
    have hn : 0 ≤ nth sh p := by omega
    have hm := Int.mul_nonneg h0 hn
    have g := grow_get x0 x1 fd a.toNat v h
    have e : a.toNat * (nth sh p).toNat + (nth w p).toNat = (a * nth sh p + nth w p).toNat := by
      rw [Int.toNat_add hm x0, Int.toNat_mul h0 hn]
    rw [e] at g
    have ih := fold_get hw lot (grow fd (nth sh p)) (a * nth sh p + nth w p) (v ++ [nth w p]) (fun q hq => hr q (List.mem_cons_of_mem _ hq)) (by omega) g
    rw [List.append_assoc] at ih
    exact ih
theorem word_at {sh lot w : List Int} (hw : w ∈ wordsL sh) (hr : ∀ p ∈ lot, 0 ≤ p ∧ p < sh.length) : (wordsL (lot.map (nth sh)))[(atW sh lot w 0).toNat]? = some (lot.map (nth w)) := fold_get (fun p p0 p1 => world_at hw p0 p1) lot [[]] 0 [] hr (by decide) rfl
theorem fold_prod : ∀ (ns : List Int) (fd : List (List Int)) (P : Int), (∀ n ∈ ns, 0 ≤ n) → (fd.length : Int) = P → ((ns.foldl grow fd).length : Int) = ns.foldl (fun a n => a * n) P
  | [], fd, P, _, h => h
  | n :: ns, fd, P, hn, h => by
    refine fold_prod ns (grow fd n) (P * n) (fun m hm => hn m (List.mem_cons_of_mem _ hm)) ?_
    rw [grow_len, ← h]
    have h0 := hn n List.mem_cons_self
    rw [Int.natCast_mul, Int.toNat_of_nonneg h0]
theorem words_prod {ns : List Int} (h : ∀ n ∈ ns, 0 ≤ n) : ((wordsL ns).length : Int) = prodI ns := fold_prod ns [[]] 1 h rfl
/-- all words differ -/
theorem grow_nodup {n : Int} : ∀ {fd : List (List Int)}, fd.Nodup → (grow fd n).Nodup
  | [], _ => by simp [grow]
  | w :: fd, h => by
    obtain ⟨h1, h2⟩ := List.nodup_cons.mp h
    have hg : grow (w :: fd) n = (upto n).map (fun x => w ++ [x]) ++ grow fd n := by simp [grow]
    rw [hg]
    refine List.nodup_append.mpr ⟨?_, grow_nodup h2, fun a ha b hb e => ?_⟩
    · refine List.Pairwise.map _ (fun x y hxy e => ?_) (upto_asc n)
      have := List.append_cancel_left e
      simp at this
      omega
    · obtain ⟨x, _, rfl⟩ := List.mem_map.mp ha
      obtain ⟨v, hv, y, rfl⟩ := grow_mem hb
      have e2 := List.append_inj_left' e rfl
      exact h1 (e2 ▸ hv)
theorem fold_nodup : ∀ (ns : List Int) {fd : List (List Int)}, fd.Nodup → (ns.foldl grow fd).Nodup
  | [], _, h => h
  | n :: ns, _, h => fold_nodup ns (grow_nodup h)
theorem words_nodup (ns : List Int) : (wordsL ns).Nodup := fold_nodup ns (by simp)
abbrev kL (w : List Int) : List Key := w.map Sum.inl
def kvs (W : List (List Int)) (es : List Int) : List (List Key × D) := (W.zip es).map fun p => (kL p.1, .int p.2)
theorem keys_iL : ∀ w : List Int, keysD (w.map D.int) = some (kL w)
  | [] => rfl
  | x :: w => by
    show (match keyD (.int x), keysD (w.map D.int) with | some k, some ks => some (k :: ks) | _, _ => none) = _
    rw [keys_iL w]
    rfl
theorem pairs_kvs : ∀ (W : List (List Int)) (es : List Int), pairsT (zipD (W.map tupI) (iL es)) = some (kvs W es)
  | [], es => by simp [zipD, pairsT, kvs]
  | w :: W, [] => by simp [zipD, pairsT, kvs]
  | w :: W, e :: es => by
    show (match keysD (w.map D.int), pairsT (zipD (W.map tupI) (iL es)) with | some k, some rs => some ((k, D.int e) :: rs) | _, _ => none) = _
    rw [keys_iL, pairs_kvs W es]
    rfl
theorem kL_inj {a b : List Int} (h : kL a = kL b) : a = b := by
  have := congrArg (List.map fun k : Key => match k with | .inl i => i | .inr _ => 0) h
  simpa [kL, List.map_map, Function.comp_def] using this
theorem put_new {acc : List (List Key × D)} {k : List Key} {v : D} (h : ∀ p ∈ acc, p.1 ≠ k) : putD acc k v = acc ++ [(k, v)] := by
  unfold putD
  rw [if_neg]
  intro hc
  obtain ⟨p, hp, e⟩ := List.any_eq_true.mp hc
  exact h p hp (of_decide_eq_true e)
theorem merge_fresh : ∀ (more acc : List (List Key × D)), (more.map (·.1)).Nodup → (∀ p ∈ acc, ∀ q ∈ more, p.1 ≠ q.1) → more.foldl (fun acc kv => putD acc kv.1 kv.2) acc = acc ++ more
  | [], acc, _, _ => by simp
  | q :: more, acc, hn, hd => by
    obtain ⟨h1, h2⟩ := List.nodup_cons.mp hn
    rw [List.foldl_cons, put_new fun p hp => hd p hp q List.mem_cons_self, merge_fresh more _ h2 fun p hp r hr => ?_]
    · simp
    · rcases List.mem_append.mp hp with hp | hp
      · exact hd p hp r (List.mem_cons_of_mem _ hr)
      · rw [List.mem_singleton.mp hp]
        intro e
        exact h1 (List.mem_map.mpr ⟨r, hr, e.symm⟩)
theorem kvs_keys : ∀ (W : List (List Int)) (es : List Int), W.length = es.length → (kvs W es).map (·.1) = W.map kL
  | [], es, _ => by simp [kvs]
  | w :: W, [], h => by simp at h
  | w :: W, e :: es, h => by
    have ih := kvs_keys W es (by simpa using h)
    simp [kvs] at ih ⊢
    exact ih
theorem val_at : ∀ (W : List (List Int)) (es : List Int) (i : Nat) (w : List Int) (x : Int), W.Nodup → W[i]? = some w → es[i]? = some x → valD (kvs W es) (kL w) = some (.int x)
  | [], es, i, w, x, _, h, _ => by simp at h
  | v :: W, [], i, w, x, _, _, h => by simp at h
  | v :: W, e :: es, 0, w, x, _, h, h' => by
    have e1 : v = w := by simpa using h
    have e2 : e = x := by simpa using h'
    subst e1 e2
    simp [valD, kvs]
  | v :: W, e :: es, i + 1, w, x, hn, h, h' => by
    obtain ⟨h1, h2⟩ := List.nodup_cons.mp hn
    have hm : w ∈ W := List.mem_of_getElem? (by simpa using h)
    have hk : ¬ kL v = kL w := fun e => h1 (kL_inj e ▸ hm)
    have ih := val_at W es i w x h2 (by simpa using h) (by simpa using h')
    show ((List.find? (fun kv => decide (kv.1 = kL w)) ((kL v, D.int e) :: kvs W es)).map (·.2)) = _
    rw [List.find?_cons]
    simp only [hk, decide_false]
    exact ih
theorem bindP_nm {i : Nat} {d : D} {env : En} : bindP (.nm i) d env = some (env.set i (.val d)) := by simp only [bindP]
theorem big_ok {n : Int} (h : n ≤ 1000000000001) : n < 1000000 ^ 99 := Int.lt_of_le_of_lt h (by decide)
theorem pick_int (ns : List Int) (h : ns ≠ []) (hn : ns.length ≤ 1000) (s : Dk) (hl : Fit s) : ∃ n s', n ∈ ns ∧ Ev (F__law_pick [.deck, .lst (iL ns)]) s (.int n) s' ∧ Fit s' := by
  obtain ⟨d, s', hd, e, f⟩ := pick_ok (iL ns) (by simpa using h) (by rw [List.length_map]; omega) s hl
  obtain ⟨n, hn, rfl⟩ := List.mem_map.mp hd
  exact ⟨n, s', hn, e, f⟩
/-- a display of whole numbers -/
def litA : List Int → En → M (List D)
  | [] => eAnil
  | n :: ns => eAcons (eC (.int n)) (litA ns)
theorem lit_ok : ∀ (ns : List Int) (env : En) (s : Dk), Ev (litA ns env) s (iL ns) s
  | [], _, _ => ev_anil
  | n :: ns, env, s => ev_acons ev_c (lit_ok ns env s)
theorem lit_lst (ns : List Int) (h : ns.length ≤ 1000) (env : En) (s : Dk) : Ev (eFrz (eMapO gLstO (litA ns)) env) s (.lst (iL ns)) s := ev_frz (ev_mapO (lit_ok ns env s) (show gLstO (iL ns) = some (.lst (iL ns)) by unfold gLstO; rw [if_pos (by rw [List.length_map]; exact h)]))
theorem pick_lit (ns : List Int) (h : ns ≠ []) (hn : ns.length ≤ 1000) (env : En) (hd : env[0]? = some (.val .deck)) (s : Dk) (hl : Fit s) : ∃ n s', n ∈ ns ∧ Ev (eCall (cN 2 F__law_pick) (eAcons (eVar 0) (eAcons (eFrz (eMapO gLstO (litA ns))) eAnil)) env) s (.int n) s' ∧ Fit s' := by
  obtain ⟨n, s', hm, e, f⟩ := pick_int ns h hn s hl
  exact ⟨n, s', hm, ev_call (ev_acons (ev_var hd) (ev_acons (lit_lst ns hn env s) ev_anil)) rfl e, f⟩
theorem set_iL {ns : List Int} {j : Nat} {x : Int} : (iL ns).set j (.int x) = iL (ns.set j x) := by
  show (ns.map D.int).set j (D.int x) = (ns.set j x).map D.int
  rw [List.map_set]
/-! the law's shape -/
theorem set_bound {ns : List Int} {j : Nat} {x : Int} (h : ∀ n ∈ ns, 1 ≤ n ∧ n ≤ 4) (hx : 1 ≤ x ∧ x ≤ 4) : ∀ n ∈ ns.set j x, 1 ≤ n ∧ n ≤ 4 := fun n hn => by
  rcases List.mem_or_eq_of_mem_set hn with h1 | h1
  · exact h n h1
  · exact h1 ▸ hx
theorem len_rangeD (n : Int) (h : 0 ≤ n) : (rangeD 0 n).length = n.toNat := by rw [rangeD_upto, List.length_map, upto_len]
/-! moduli, numbers, entries -/
theorem sub_lot {k : Nat} {lot low : List Int} (h : Lot k lot) (hs : low.Sublist lot) : Lot k low := ⟨h.asc.sublist hs, fun p hp => h.rng p (hs.subset hp), Nat.le_trans hs.length_le h.len⟩
/-! ### what is shown -/
theorem shw_ints {ns : List Int} {k : Nat} (h0 : 0 < k) (hk : k ≤ 500) (h : ∀ n ∈ ns, n.natAbs < 10 ^ k) : Shw (.tup (iL ns)) 1 (ns.length * (k + 3) + 3) := by
  have := shw_tup (ds := iL ns) (h := 0) (n := k + 1) fun d hd => by
    obtain ⟨n, hn, rfl⟩ := List.mem_map.mp hd
    exact shw_int h0 hk (h n hn)
  rw [List.length_map] at this
  exact this
theorem word_small {ns w : List Int} (h : ∀ n ∈ ns, n ≤ 4) (hw : w ∈ wordsL ns) : ∀ x ∈ w, 0 ≤ x ∧ x < 4 := fun x hx => by
  obtain ⟨l, hw⟩ := words_mem hw
  obtain ⟨i, hi, rfl⟩ := List.getElem_of_mem hx
  have := hw i (ns[i]'(by omega)) w[i] (List.getElem?_eq_getElem _) (List.getElem?_eq_getElem _)
  have h4 := h _ (List.getElem_mem (l := ns) (n := i) (by omega))
  omega
theorem word_shw {ns w : List Int} (h : ∀ n ∈ ns, n ≤ 4) (hl : ns.length ≤ 4) (hw : w ∈ wordsL ns) : Shw (tupI w) 1 19 := by
  have l := (words_mem hw).1
  refine shw_mono (shw_ints (ns := w) (k := 1) (by decide) (by decide) fun n hn => ?_) (Nat.le_refl _) ?_
  · have := word_small h hw n hn
    omega
  · have : w.length * (1 + 3) ≤ 4 * (1 + 3) := Nat.mul_le_mul_right _ (by omega)
    omega
theorem words_shw {ns : List Int} (h : ∀ n ∈ ns, n ≤ 4) (hl : ns.length ≤ 4) : Shw (.tup ((wordsL ns).map tupI)) 2 6000 := by
  refine shw_mono (shw_tup (h := 1) (n := 19) fun d hd => ?_) (Nat.le_refl _) ?_
  · obtain ⟨w, hw, rfl⟩ := List.mem_map.mp hd
    exact word_shw h hl hw
  · rw [List.length_map]
    have := Nat.mul_le_mul_right (19 + 2) (words_len h hl)
    omega
/-! ### is it () -/
theorem toPs_iL : ∀ ns : List Int, D.toPs (iL ns) = some (ns.map PyData.int)
  | [] => rfl
  | n :: ns => by
    show (match D.toP (.int n), D.toPs (iL ns) with | some p, some r => some (p :: r) | _, _ => none) = _
    rw [toPs_iL ns]
    rfl
theorem shaped_ints (ns : List Int) : SeqAt.shaped (.tuple (ns.map PyData.int)) = true := by
  unfold SeqAt.shaped
  rw [Bool.and_eq_true]
  refine ⟨?_, decide_eq_true ?_⟩
  · simp only [PyData.canLay0]
    exact lay_all fun p hp => by
      obtain ⟨n, _, rfl⟩ := List.mem_map.mp hp
      rfl
  · simp only [PyData.depth]
    have := depth_all (ps := ns.map PyData.int) (k := 0) fun p hp => by
      obtain ⟨n, _, rfl⟩ := List.mem_map.mp hp
      simp [PyData.depth]
    omega
theorem ne_nil (ns : List Int) : neD (.tup (iL ns)) (.tup []) = some (.bl (!ns.isEmpty)) := by
  have e1 : D.toP (.tup (iL ns)) = some (.tuple (ns.map PyData.int)) := by
    show (D.toPs (iL ns)).map PyData.tuple = _
    rw [toPs_iL]; rfl
  have e2 : D.toP (.tup []) = some (.tuple []) := rfl
  unfold neD
  rw [e1, e2]
  simp only [shaped_ints, show SeqAt.shaped (.tuple []) = true from shaped_ints [], Bool.and_self, if_true]
  cases ns with
  | nil => simp [PyData.eqv, PyData.eqvAll]
  | cons n ns => simp [PyData.eqv, PyData.eqvAll]
theorem eq_nil (ns : List Int) : eqD (.tup (iL ns)) (.tup []) = some (.bl ns.isEmpty) := by
  have e1 : D.toP (.tup (iL ns)) = some (.tuple (ns.map PyData.int)) := by
    show (D.toPs (iL ns)).map PyData.tuple = _
    rw [toPs_iL]; rfl
  have e2 : D.toP (.tup []) = some (.tuple []) := rfl
  unfold eqD
  rw [e1, e2]
  simp only [shaped_ints, show SeqAt.shaped (.tuple []) = true from shaped_ints [], Bool.and_self, if_true]
  cases ns with
  | nil => simp [PyData.eqv, PyData.eqvAll]
  | cons n ns => simp [PyData.eqv, PyData.eqvAll]
/-! ### the places of a lot within another one -/
def spotsF (low : List Int) : Nat → List Int → List Int
  | _, [] => []
  | k, p :: r => if p ∈ low then (k : Int) :: spotsF low (k + 1) r else spotsF low (k + 1) r
theorem spots_bound (low : List Int) : ∀ (lot : List Int) (k : Nat), (spotsF low k lot).Pairwise (· < ·) ∧ (∀ a ∈ spotsF low k lot, (k : Int) ≤ a ∧ a < (k + lot.length : Nat)) ∧ (spotsF low k lot).length ≤ lot.length
  | [], k => by simp [spotsF]
  | p :: r, k => by
    obtain ⟨h1, h2, h3⟩ := spots_bound low r (k + 1)
    unfold spotsF
    by_cases hp : p ∈ low
    · rw [if_pos hp]
      refine ⟨List.pairwise_cons.mpr ⟨fun a ha => ?_, h1⟩, fun a ha => ?_, by simp; omega⟩
      · have := (h2 a ha).1
        omega
      · rcases List.mem_cons.mp ha with rfl | ha
        · simp; omega
        · have := h2 a ha
          simp at this ⊢
          omega
    · rw [if_neg hp]
      refine ⟨h1, fun a ha => ?_, by simp; omega⟩
      have := h2 a ha
      simp at this ⊢
      omega
theorem spots_map (low : List Int) (f : Int → Int) : ∀ (lot : List Int) (k : Nat) (pre : List Int), pre.length = k → (spotsF low k lot).map (nth (pre ++ lot.map f)) = (lot.filter fun p => decide (p ∈ low)).map f
  | [], k, pre, _ => by simp [spotsF]
  | p :: r, k, pre, hk => by
    have ih := spots_map low f r (k + 1) (pre ++ [f p]) (by simp [hk])
    rw [List.append_assoc] at ih
    have e : pre ++ ([f p] ++ r.map f) = pre ++ (p :: r).map f := rfl
    rw [e] at ih
    unfold spotsF
    by_cases hp : p ∈ low
    · rw [if_pos hp, List.map_cons, ih, List.filter_cons_of_pos (by simpa using hp), List.map_cons]
      congr 1
      unfold nth
      rw [Int.toNat_natCast, List.getD_eq_getElem?_getD, List.getElem?_append_right (by omega), hk, Nat.sub_self]
      rfl
    · rw [if_neg hp, ih, List.filter_cons_of_neg (by simpa using hp)]
theorem filter_sub {lot low : List Int} (hs : low.Sublist lot) : lot.Nodup → (lot.filter fun p => decide (p ∈ low)) = low := by
  induction hs with
  | slnil => intro _; rfl
  | @cons low lot a hs ih =>
    intro hn
    obtain ⟨h1, h2⟩ := List.nodup_cons.mp hn
    rw [List.filter_cons_of_neg (by simpa using fun h => h1 (hs.subset h))]
    exact ih h2
  | @cons_cons low lot a hs ih =>
    intro hn
    obtain ⟨h1, h2⟩ := List.nodup_cons.mp hn
    rw [List.filter_cons_of_pos (by simp)]
    congr 1
    rw [List.filter_congr (q := fun p => decide (p ∈ low)) fun x hx => ?_]
    · exact ih h2
    · have : x ≠ a := fun e => h1 (e ▸ hx)
      simp [this]
abbrev spots (low lot : List Int) : List Int := spotsF low 0 lot
theorem asc_nodup {lot : List Int} (h : lot.Pairwise (· < ·)) : lot.Nodup := h.imp fun hxy e => by omega
theorem spots_nth {k : Nat} {lot low : List Int} (h : Lot k lot) (hs : low.Sublist lot) (f : Int → Int) : (spots low lot).map (nth (lot.map f)) = low.map f := by
  have := spots_map low f lot 0 [] rfl
  rw [List.nil_append, filter_sub hs (asc_nodup h.asc)] at this
  exact this
theorem spots_lot {k : Nat} {lot low : List Int} (h : Lot k lot) : Lot lot.length (spots low lot) := by
  obtain ⟨h1, h2, h3⟩ := spots_bound low lot 0
  exact ⟨h1, fun p hp => by have := h2 p hp; simpa using this, Nat.le_trans h3 h.len⟩
theorem bindP_2 {i j : Nat} {x y : D} {env : En} : bindP (.tp [.nm i, .nm j]) (.tup [x, y]) env = some ((env.set i (.val x)).set j (.val y)) := by simp [bindP, bindPs, seqOf]
theorem ints_iL' (w : List Int) : ints? (iL w) = some w := ints_iL w
theorem in_iL (p : Int) (low : List Int) : inI false (.int p) (.tup (iL low)) = some (.bl (decide (p ∈ low))) := by
  show (ints? (iL low)).map _ = _
  rw [ints_iL']
  rfl
theorem get_set2 {env : En} {i j l : Nat} {a b : Slot} (h1 : i ≠ l) (h2 : j ≠ l) : ((env.set i a).set j b)[l]? = env[l]? := by rw [List.getElem?_set_ne h2, List.getElem?_set_ne h1]
theorem spots_ev {i j l : Nat} {low : List Int} (hij : i ≠ j) (hil : i ≠ l) (hjl : j ≠ l) {env : En} (hl : env[l]? = some (.val (.tup (iL low)))) (hi : i < env.length) (hj : j < env.length) : ∀ (lot : List Int) (k : Nat) (s : Dk),
    Ev (lcM (.tp [.nm i, .nm j]) (tVal (eOp (inI false) (eVar j) (eVar l))) (eVar i) env (enumD k (iL lot))) s (iL (spotsF low k lot)) s
  | [], k, s => rfl
  | p :: r, k, s => by
    have ih := spots_ev hij hil hjl hl hi hj r (k + 1) s
    have g1 : ((env.set i (.val (.int k))).set j (.val (.int p)))[j]? = some (.val (.int p)) := List.getElem?_set_self (by rw [List.length_set]; exact hj)
    have g2 : ((env.set i (.val (.int k))).set j (.val (.int p)))[i]? = some (.val (.int k)) := by rw [List.getElem?_set_ne (Ne.symm hij)]; exact List.getElem?_set_self hi
    have g3 : ((env.set i (.val (.int k))).set j (.val (.int p)))[l]? = some (.val (.tup (iL low))) := by rw [get_set2 hil hjl]; exact hl
    have test : Ev (tVal (eOp (inI false) (eVar j) (eVar l)) ((env.set i (.val (.int k))).set j (.val (.int p)))) s (decide (p ∈ low)) s := ev_tval (ev_iop (ev_var g1) (ev_var g3) (in_iL p low))
    show Ev (lcM _ _ _ env (D.tup [.int k, .int p] :: enumD (k + 1) (iL r))) s _ s
    unfold spotsF
    by_cases hp : p ∈ low
    · rw [if_pos hp]
      exact ev_lc1 bindP_2 (ev_eqR test (by simp [hp])) (ev_var g2) ih
    · rw [if_neg hp]
      exact ev_lc2 bindP_2 (ev_eqR test (by simp [hp])) ih
theorem enum_len : ∀ (ds : List D) (k : Nat), (enumD k ds).length = ds.length
  | [], k => rfl
  | d :: ds, k => by
    show (enumD (k + 1) ds).length + 1 = ds.length + 1
    rw [enum_len ds]
theorem small_shp {sh lot : List Int} (h : Shp sh) (hl : Lot sh.length lot) (hn : lot ≠ []) : Shp (lot.map (nth sh)) := by
  refine ⟨?_, by rw [List.length_map]; exact hl.len, fun n hn => ?_⟩
  · rw [List.length_map]
    exact List.length_pos_iff.mpr hn
  · obtain ⟨p, hp, rfl⟩ := List.mem_map.mp hn
    exact h.le _ (nth_mem (hl.rng p hp).1 (hl.rng p hp).2)
theorem lot_le {sh lot : List Int} (h : Shp sh) (hl : Lot sh.length lot) : ∀ n ∈ lot.map (nth sh), n ≤ 4 := fun n hn => by
  obtain ⟨p, hp, rfl⟩ := List.mem_map.mp hn
  exact (h.le _ (nth_mem (hl.rng p hp).1 (hl.rng p hp).2)).2
theorem near_mem {sh lot w : List Int} (hw : w ∈ wordsL sh) (hl : Lot sh.length lot) : lot.map (nth w) ∈ wordsL (lot.map (nth sh)) := List.mem_of_getElem? (word_at hw hl.rng)
theorem near_len {sh lot w : List Int} (hw : w ∈ wordsL sh) (hl : Lot sh.length lot) : ∀ p ∈ lot, 0 ≤ p ∧ p < w.length := fun p hp => ⟨(hl.rng p hp).1, by rw [(words_mem hw).1]; exact (hl.rng p hp).2⟩
/-- tuple([shape[place] for place in lot]) -/
theorem small_ev {i j l : Nat} {sh lot : List Int} {env : En} {s : Dk} (hl : Lot sh.length lot) (h1 : env[i]? = some (.val (.tup (iL lot)))) (h2 : env[j]? = some (.val (.tup (iL sh)))) (hj : l ≠ j) (hlen : l < env.length) :
    Ev (eMapA (g1 tupleD) (eAcons (eFrz (eLc (eItems (eVar i)) (.nm l) [l] tYes' (eOp ixD (eVar j) (eVar l)))) eAnil) env) s (.tup (iL (lot.map (nth sh)))) s := by
  have wl : (wipeE env [l]).length = env.length := by simp [wipeE]
  have w1 : (wipeE env [l])[j]? = some (.val (.tup (iL sh))) := by
    simp only [wipeE]
    rw [List.getElem?_set_ne hj]; exact h2
  have lc := pick_map (env := env) (s := s) (it := eItems (eVar i)) (ex := eOp ixD (eVar j) (eVar l)) (i := l) (lot := lot) (fun p => .int (nth sh p)) (ev_items (ev_var h1) rfl) (by have := hl.len; omega) fun p hp => ev_iop (x := .tup (iL sh)) (y := .int p) (ev_var (by rw [List.getElem?_set_ne hj]; exact w1)) (ev_var (List.getElem?_set_self (by rw [wl]; exact hlen))) (nth_at (hl.rng p hp).1 (hl.rng p hp).2)
  have e2 : (lot.map fun p => D.int (nth sh p)) = iL (lot.map (nth sh)) := by unfold iL; rw [List.map_map]; rfl
  rw [e2] at lc
  exact ev_mapA (ev_acons (ev_frz lc) ev_anil) rfl
/-- tuple([at for at, place in enumerate(lot) if place in low]) -/
theorem spots_tup {i a b l : Nat} {lot low : List Int} {env : En} {s : Dk} (hl : lot.length ≤ 4) (h1 : env[i]? = some (.val (.tup (iL lot)))) (h2 : env[l]? = some (.val (.tup (iL low)))) (hab : a ≠ b) (hal : a ≠ l) (hbl : b ≠ l) (ha : a < env.length) (hb : b < env.length) :
    Ev (eMapA (g1 tupleD) (eAcons (eFrz (eLc (eMapI gEnum (eAcons (eVar i) eAnil)) (.tp [.nm a, .nm b]) [a, b] (tVal (eOp (inI false) (eVar b) (eVar l))) (eVar a))) eAnil) env) s (.tup (iL (spots low lot))) s := by
  have w1 : (wipeE env [a, b])[l]? = some (.val (.tup (iL low))) := by
    simp only [wipeE]
    rw [List.getElem?_set_ne (by omega), List.getElem?_set_ne (by omega)]
    exact h2
  have e := spots_ev hab hal hbl w1 (by simp [wipeE]; exact ha) (by simp [wipeE]; exact hb) lot 0 s
  exact ev_mapA (ev_acons (ev_frz (ev_lc (ev_mapI (ev_acons (ev_var h1) ev_anil) rfl) (by rw [enum_len, List.length_map]; have : size7 = 10000000 := rfl; omega) e)) ev_anil) rfl
theorem nth_map {xs : List Int} {f : Int → Int} {p : Int} (h0 : 0 ≤ p) (h1 : p < xs.length) : nth (xs.map f) p = f (nth xs p) := by
  have hk : p.toNat < xs.length := by omega
  unfold nth
  rw [List.getD_eq_getElem?_getD, List.getD_eq_getElem?_getD, List.getElem?_map, List.getElem?_eq_getElem hk]
  rfl
theorem at_spots {sh w lot : List Int} : ∀ (ps : List Int) (a : Int), (∀ p ∈ ps, 0 ≤ p ∧ p < lot.length) → atW (lot.map (nth sh)) ps (lot.map (nth w)) a = atW sh (ps.map (nth lot)) w a
  | [], a, _ => rfl
  | p :: ps, a, h => by
    obtain ⟨p0, p1⟩ := h p List.mem_cons_self
    show atW _ ps _ (a * nth (lot.map (nth sh)) p + nth (lot.map (nth w)) p) = atW sh (ps.map (nth lot)) w (a * nth sh (nth lot p) + nth w (nth lot p))
    rw [nth_map p0 p1, nth_map p0 p1]
    exact at_spots ps _ fun q hq => h q (List.mem_cons_of_mem _ hq)
theorem spots_self {k : Nat} {lot low : List Int} (h : Lot k lot) (hs : low.Sublist lot) : (spots low lot).map (nth lot) = low := by
  have := spots_nth h hs id
  rw [List.map_id, List.map_id] at this
  exact this
theorem nth_or {xs : List Int} (p : Int) : nth xs p ∈ xs ∨ nth xs p = 0 := by
  unfold nth
  rw [List.getD_eq_getElem?_getD]
  cases e : xs[p.toNat]? with
  | none => exact .inr rfl
  | some x => exact .inl (List.mem_of_getElem? e)
theorem nm_zero {m : Int} (h : Md m) : Nm m 0 := by
  rcases h.ok with h | h
  · exact .inl h
  · exact .inr ⟨by omega, by omega⟩
theorem nth_map_get {W : List (List Int)} {g : List Int → Int} {a : Int} {v : List Int} (h : W[a.toNat]? = some v) : nth (W.map g) a = g v := by
  unfold nth
  rw [List.getD_eq_getElem?_getD, List.getElem?_map, h]
  rfl
/-- the spread table -/
def sprL (sh lot es : List Int) : List Int := (wordsL sh).map fun w => nth es (atW sh lot w 0)
theorem spr_shw {sh lot es : List Int} (h : Shp sh) (hb : ∀ x ∈ es, x.natAbs ≤ 1000000000000) : Shw (.tup (iL (sprL sh lot es))) 1 5000 := by
  refine shw_mono (shw_ints (k := 13) (by decide) (by decide) fun n hn => ?_) (Nat.le_refl _) ?_
  · obtain ⟨w, _, rfl⟩ := List.mem_map.mp hn
    rcases nth_or (xs := es) (atW sh lot w 0) with h | h
    · exact Nat.lt_of_le_of_lt (hb _ h) (by decide)
    · rw [h]; decide
  · have := words_len (ns := sh) (fun n hn => (h.le n hn).2) h.l4
    unfold sprL
    rw [List.length_map]
    have := Nat.mul_le_mul_right (13 + 3) this
    omega
theorem spr_lst {sh lot es : List Int} {m : Int} (h : Shp sh) (hm : Md m) (hn : ∀ x ∈ es, Nm m x) : Lst sh m (upto sh.length) (sprL sh lot es) := by
  refine ⟨?_, fun x hx => ?_, ?_⟩
  · rw [upto_nth]
    unfold sprL
    rw [List.length_map]
    exact words_prod fun n hn => by have := h.le n hn; omega
  · obtain ⟨w, _, rfl⟩ := List.mem_map.mp hx
    rcases nth_or (xs := es) (atW sh lot w 0) with h | h
    · exact hn _ h
    · rw [h]; exact nm_zero hm
  · unfold sprL
    rw [List.length_map]
    exact words_len (fun n hn => (h.le n hn).2) h.l4
theorem spr_spr {sh lot low es : List Int} (hl : Lot sh.length lot) (hs : low.Sublist lot) : sprL sh lot (sprL (lot.map (nth sh)) (spots low lot) es) = sprL sh low es := by
  unfold sprL
  refine List.map_congr_left fun w hw => ?_
  rw [nth_map_get (word_at hw hl.rng), at_spots _ _ (spots_lot hl).rng, spots_self hl hs]
theorem fold_flat : ∀ (ns : List Int) (fd : List (List Int)), ns.foldl grow fd = fd.flatMap fun w => (wordsL ns).map fun u => w ++ u
  | [], fd => by simp [wordsL]
  | n :: ns, fd => by
    have h1 : wordsL (n :: ns) = (upto n).flatMap fun x => (wordsL ns).map fun u => [x] ++ u := by
      show ns.foldl grow (grow [[]] n) = _
      rw [fold_flat ns]
      simp [grow, List.flatMap_map]
    rw [List.foldl_cons, fold_flat ns, h1]
    unfold grow
    rw [List.flatMap_assoc]
    refine congrArg (fun f => List.flatMap f fd) (funext fun w => ?_)
    rw [List.flatMap_map, List.map_flatMap]
    refine congrArg (fun f => List.flatMap f (upto n)) (funext fun x => ?_)
    rw [List.map_map]
    refine List.map_congr_left fun u _ => ?_
    simp
theorem nth_left {xs ys : List Int} {p : Int} (h0 : 0 ≤ p) (h1 : p < xs.length) : nth (xs ++ ys) p = nth xs p := by
  unfold nth
  rw [List.getD_eq_getElem?_getD, List.getD_eq_getElem?_getD, List.getElem?_append_left (by omega)]
theorem at_wide {sh more w u : List Int} (hw : w.length = sh.length) : ∀ (lot : List Int) (a : Int), (∀ p ∈ lot, 0 ≤ p ∧ p < sh.length) → atW (sh ++ more) lot (w ++ u) a = atW sh lot w a
  | [], a, _ => rfl
  | p :: lot, a, h => by
    obtain ⟨p0, p1⟩ := h p List.mem_cons_self
    show atW _ lot _ (a * nth (sh ++ more) p + nth (w ++ u) p) = atW sh lot w (a * nth sh p + nth w p)
    rw [nth_left p0 p1, nth_left p0 (by rw [hw]; exact p1)]
    exact at_wide hw lot _ fun q hq => h q (List.mem_cons_of_mem _ hq)
theorem flat_congr {α β : Type} {f g : α → List β} : ∀ {xs : List α}, (∀ x ∈ xs, f x = g x) → xs.flatMap f = xs.flatMap g
  | [], _ => rfl
  | x :: xs, h => by rw [List.flatMap_cons, List.flatMap_cons, h x List.mem_cons_self, flat_congr fun y hy => h y (List.mem_cons_of_mem _ hy)]
theorem spr_wide {sh more lot es : List Int} (hl : ∀ p ∈ lot, 0 ≤ p ∧ p < sh.length) : sprL (sh ++ more) lot es = (sprL sh lot es).flatMap (List.replicate (wordsL more).length) := by
  unfold sprL
  show List.map _ ((sh ++ more).foldl grow [[]]) = _
  rw [List.foldl_append, fold_flat more, List.map_flatMap, List.flatMap_map]
  show List.flatMap _ (wordsL sh) = _
  refine flat_congr fun w hw => ?_
  rw [List.map_map, List.eq_replicate_iff]
  refine ⟨by rw [List.length_map], fun b hb => ?_⟩
  obtain ⟨u, _, rfl⟩ := List.mem_map.mp hb
  show nth es (atW (sh ++ more) lot (w ++ u) 0) = nth es (atW sh lot w 0)
  rw [at_wide (words_mem hw).1 lot 0 hl]
theorem rep_iL (k : Nat) (x : Int) : (List.replicate k [D.int x]).flatten = iL (List.replicate k x) := by
  show _ = (List.replicate k x).map D.int
  rw [List.map_replicate]
  induction k with
  | zero => rfl
  | succ k ih => simp only [List.replicate_succ, List.flatten_cons, ih]; rfl
theorem beside_loop {a0 a1 a2 a3 a4 a5 a6 : Slot} {k : Nat} (hk : k ≤ 256) : ∀ (xs acc : List Int) (z : Slot) (s : Dk), acc.length + xs.length * k ≤ 100000 → ∃ z', Ev (forM' (.nm 9) (sExtend 8 (eOpO gRepO (eFrz (eMapO gLstO (eAcons (eVar 9) eAnil))) (eVar 7))) (iL xs) [a0, a1, a2, a3, a4, a5, a6, .val (.int (k : Nat)), .own (.lst (iL acc)), z]) s
      (.nx [a0, a1, a2, a3, a4, a5, a6, .val (.int (k : Nat)), .own (.lst (iL (acc ++ xs.flatMap (List.replicate k)))), z']) s
  | [], acc, z, s, _ => ⟨z, by rw [List.flatMap_nil, List.append_nil]; exact ev_for0⟩
  | x :: xs, acc, z, s, h => by
    rw [List.length_cons, Nat.succ_mul] at h
    obtain ⟨z', e⟩ := beside_loop (a0 := a0) (a1 := a1) (a2 := a2) (a3 := a3) (a4 := a4) (a5 := a5) (a6 := a6) hk xs (acc ++ List.replicate k x) (.val (.int x)) s (by rw [List.length_append, List.length_replicate]; omega)
    have hg : gRepO (.lst [.int x]) (.int (k : Nat)) = some (.lst (iL (List.replicate k x))) := by
      show (if 0 ≤ (k : Int) ∧ (k : Int) ≤ 1000 ∧ [D.int x].length ≤ 1000 then some (OD.lst (List.replicate (k : Int).toNat [D.int x]).flatten) else none) = _
      rw [if_pos ⟨by omega, by omega, by simp⟩, Int.toNat_natCast, rep_iL]
    have ex := ev_extend (i := 8) (env := [a0, a1, a2, a3, a4, a5, a6, .val (.int (k : Nat)), .own (.lst (iL acc)), .val (.int x)]) (s := s) (s1 := s) (ds := iL acc) (m := eOpO gRepO (eFrz (eMapO gLstO (eAcons (eVar 9) eAnil))) (eVar 7)) rfl (ev_opO (ev_frz (ev_mapO (ev_acons (ev_var rfl) ev_anil) rfl)) (ev_var rfl) hg) (by rw [List.length_map, List.length_map, List.length_replicate]; have : size7 = 10000000 := rfl; omega)
    rw [← List.map_append] at ex
    rw [List.flatMap_cons, ← List.append_assoc]
    exact ⟨z', ev_for1 rfl ex e⟩
theorem wide_lst {sh more lot es : List Int} {m : Int} (hr : ∀ p ∈ lot, 0 ≤ p ∧ p < sh.length) (he : Lst sh m lot es) : Lst (sh ++ more) m lot es := by
  refine ⟨?_, he.num, he.few⟩
  rw [he.len]
  congr 1
  exact List.map_congr_left fun p hp => (nth_left (hr p hp).1 (hr p hp).2).symm
/-! ### the members of the words -/
theorem fold_mem_of : ∀ (ns : List Int) (fd : List (List Int)) (v u : List Int), v ∈ fd → u.length = ns.length → (∀ (i : Nat) (n x : Int), ns[i]? = some n → u[i]? = some x → 0 ≤ x ∧ x < n) → v ++ u ∈ ns.foldl grow fd
  | [], fd, v, u, hv, hl, _ => by
    have : u = [] := List.length_eq_zero_iff.mp hl
    subst this
    rw [List.append_nil]; exact hv
  | n :: ns, fd, v, [], _, hl, _ => by simp at hl
  | n :: ns, fd, v, x :: u, hv, hl, h => by
    have := fold_mem_of ns (grow fd n) (v ++ [x]) u (List.mem_flatMap.mpr ⟨v, hv, List.mem_map.mpr ⟨x, upto_mem.mpr (h 0 n x rfl rfl), rfl⟩⟩) (by simpa using hl) fun i m y e1 e2 => h (i + 1) m y (by simpa using e1) (by simpa using e2)
    rw [List.append_assoc] at this
    exact this
theorem words_mem_of {ns w : List Int} (hl : w.length = ns.length) (h : ∀ (i : Nat) (n x : Int), ns[i]? = some n → w[i]? = some x → 0 ≤ x ∧ x < n) : w ∈ wordsL ns := by
  have := fold_mem_of ns [[]] [] w (by simp) hl h
  rw [List.nil_append] at this
  exact this
/-- a word over a lot, letter by letter -/
theorem lot_word {sh lot : List Int} {g : Int → Int} (h : ∀ p ∈ lot, 0 ≤ g p ∧ g p < nth sh p) : lot.map g ∈ wordsL (lot.map (nth sh)) := by
  refine words_mem_of (by rw [List.length_map, List.length_map]) fun i n x e1 e2 => ?_
  rw [List.getElem?_map] at e1 e2
  cases e : lot[i]? with
  | none => rw [e] at e1; cases e1
  | some p =>
    rw [e] at e1 e2
    cases e1
    cases e2
    exact h p (List.mem_of_getElem? e)
/-! ### the entry at a word -/
def entW (W : List (List Int)) (es : List Int) (v : List Int) : Int := nth es (W.idxOf v)
theorem entW_at {W : List (List Int)} {es v : List Int} {i : Nat} (hn : W.Nodup) (h : W[i]? = some v) : entW W es v = nth es i := by
  obtain ⟨hi, rfl⟩ := List.getElem?_eq_some_iff.mp h
  unfold entW
  rw [hn.idxOf_getElem]
theorem val_ent {W : List (List Int)} {es v : List Int} (hn : W.Nodup) (hl : W.length = es.length) (h : v ∈ W) : valD (kvs W es) (kL v) = some (.int (entW W es v)) := by
  have hi := List.idxOf_lt_length_of_mem h
  refine val_at W es (W.idxOf v) v _ hn ?_ ?_
  · rw [List.getElem?_eq_getElem hi, List.getElem_idxOf]
  · exact get_nth (xs := es) (p := (W.idxOf v : Nat)) (by omega) (by omega)
/-- dict(list(zip(words, entries))) -/
theorem dict_words {W : List (List Int)} {es : List Int} (hn : W.Nodup) (hl : W.length = es.length) (hW : W ≠ []) : gDict [.lst (zipD (W.map tupI) (iL es))] = some (.dT (kvs W es)) := by
  have hm : mergeD (kvs W es) = kvs W es := by
    have := merge_fresh (kvs W es) [] (by rw [kvs_keys _ _ hl]; exact hn.map _ fun a b hab e => hab (kL_inj e)) (fun p hp => by cases hp)
    rw [List.nil_append] at this
    exact this
  have h2 : g1O gDictT [.lst (zipD (W.map tupI) (iL es))] = some (.dT (kvs W es)) := by
    show ((pairsT _).map fun kvs => OD.dT (mergeD kvs)) = _
    rw [pairs_kvs, Option.map_some, hm]
  have h1 : g1O gDictK [.lst (zipD (W.map tupI) (iL es))] = none := by
    cases W with
    | nil => exact absurd rfl hW
    | cons w W =>
      cases es with
      | nil => simp at hl
      | cons e es => rfl
  unfold gDict orO
  rw [h1]
  exact h2
theorem words_ne {ns : List Int} (h : ∀ n ∈ ns, 1 ≤ n) : wordsL ns ≠ [] := by
  have : (ns.map fun _ => (0 : Int)) ∈ wordsL ns := words_mem_of (by rw [List.length_map]) fun i n x e1 e2 => by
    rw [List.getElem?_map] at e2
    rw [e1] at e2
    cases e2
    have := h n (List.mem_of_getElem? e1)
    show (0 : Int) ≤ 0 ∧ (0 : Int) < n
    omega
  intro z
  rw [z] at this
  cases this
/-! ### a dict of letters -/
def kvI (qs : List Int) (g : Int → Int) : List (Key × D) := qs.map fun q => (Sum.inl q, .int (g q))
theorem put_newI {acc : List (Key × D)} {k : Key} {v : D} (h : ∀ p ∈ acc, p.1 ≠ k) : putD acc k v = acc ++ [(k, v)] := by
  unfold putD
  rw [if_neg]
  intro hc
  obtain ⟨p, hp, e⟩ := List.any_eq_true.mp hc
  exact h p hp (of_decide_eq_true e)
theorem merge_freshI : ∀ (more acc : List (Key × D)), (more.map (·.1)).Nodup → (∀ p ∈ acc, ∀ q ∈ more, p.1 ≠ q.1) → more.foldl (fun acc kv => putD acc kv.1 kv.2) acc = acc ++ more
  | [], acc, _, _ => by simp
  | q :: more, acc, hn, hd => by
    obtain ⟨h1, h2⟩ := List.nodup_cons.mp hn
    rw [List.foldl_cons, put_newI fun p hp => hd p hp q List.mem_cons_self, merge_freshI more _ h2 fun p hp r hr => ?_]
    · simp
    · rcases List.mem_append.mp hp with hp | hp
      · exact hd p hp r (List.mem_cons_of_mem _ hr)
      · rw [List.mem_singleton.mp hp]
        intro e
        exact h1 (List.mem_map.mpr ⟨r, hr, e.symm⟩)
theorem pairs_kvI (g : Int → Int) : ∀ qs : List Int, pairsK (qs.map fun q => D.tup [.int q, .int (g q)]) = some (kvI qs g)
  | [] => rfl
  | q :: qs => by
    show (match keyD (.int q), pairsK (qs.map fun q => D.tup [.int q, .int (g q)]) with | some k, some rs => some ((k, D.int (g q)) :: rs) | _, _ => none) = _
    rw [pairs_kvI g qs]
    rfl
theorem dict_letters {qs : List Int} {g : Int → Int} (hn : qs.Nodup) : gDict [.lst (qs.map fun q => D.tup [.int q, .int (g q)])] = some (.dK (kvI qs g)) := by
  have hm : mergeD (kvI qs g) = kvI qs g := by
    have := merge_freshI (kvI qs g) [] (by unfold kvI; rw [List.map_map]; exact hn.map _ fun a b hab e => hab (Sum.inl.inj e)) (fun p hp => by cases hp)
    rw [List.nil_append] at this
    exact this
  have h1 : g1O gDictK [.lst (qs.map fun q => D.tup [.int q, .int (g q)])] = some (.dK (kvI qs g)) := by
    show ((pairsK _).map fun kvs => OD.dK (mergeD kvs)) = _
    rw [pairs_kvI, Option.map_some, hm]
  unfold gDict orO
  rw [h1]
theorem val_letter {g : Int → Int} {p : Int} : ∀ {qs : List Int}, p ∈ qs → valD (kvI qs g) (.inl p) = some (.int (g p))
  | q :: qs, h => by
    by_cases hq : q = p
    · subst hq; simp [valD, kvI]
    · have ih := val_letter (g := g) ((List.mem_cons.mp h).resolve_left fun e => hq e.symm)
      show ((List.find? (fun kv => decide (kv.1 = Sum.inl p)) ((Sum.inl q, D.int (g q)) :: kvI qs g)).map (·.2)) = _
      rw [List.find?_cons]
      simp only [show ¬ (Sum.inl q : Key) = Sum.inl p from fun e => hq (Sum.inl.inj e), decide_false]
      exact ih
/-- [f(p) for at, p in enumerate(ps)] -/
theorem enum_map {a b : Nat} {e : En → M D} {env : En} {s : Dk} {g : Int → D} : ∀ (ps : List Int) (k : Nat), (∀ (i : Nat) (p : Int), ps[i]? = some p → Ev (e ((env.set a (.val (.int (k + i : Nat)))).set b (.val (.int p)))) s (g p) s) → Ev (lcM (.tp [.nm a, .nm b]) tYes' e env (enumD k (iL ps))) s (ps.map g) s
  | [], k, _ => rfl
  | p :: ps, k, h => by
    have h0 := h 0 p rfl
    have ih := enum_map (a := a) (b := b) (e := e) (env := env) (s := s) (g := g) ps (k + 1) fun i q hq => by
      have := h (i + 1) q (by simpa using hq)
      rw [show k + (i + 1) = k + 1 + i by omega] at this
      exact this
    show Ev (lcM _ _ _ env (D.tup [.int k, .int p] :: enumD (k + 1) (iL ps))) s _ s
    exact ev_lc1 bindP_2 rfl h0 ih
/-! ### a rearrangement of the places -/
structure Ord (k : Nat) (order : List Int) : Prop where
  perm : order.Perm (upto k)
theorem Ord.len {k : Nat} {order : List Int} (h : Ord k order) : order.length = k := by rw [h.perm.length_eq, upto_len]; omega
theorem Ord.mem {k : Nat} {order : List Int} (h : Ord k order) {p : Int} : p ∈ order ↔ 0 ≤ p ∧ p < k := by rw [h.perm.mem_iff]; exact upto_mem
theorem Ord.nodup {k : Nat} {order : List Int} (h : Ord k order) : order.Nodup := h.perm.nodup_iff.mpr (asc_nodup (upto_asc k))
def posn (order : List Int) (p : Int) : Int := (order.idxOf p : Nat)
theorem Ord.pos {k : Nat} {order : List Int} (h : Ord k order) {p : Int} (h0 : 0 ≤ p) (h1 : p < k) : 0 ≤ posn order p ∧ posn order p < k ∧ nth order (posn order p) = p := by
  have hm := h.mem.mpr ⟨h0, h1⟩
  have hi := List.idxOf_lt_length_of_mem hm
  have hl := h.len
  unfold posn
  refine ⟨by omega, by omega, ?_⟩
  refine nth_get (by omega) ?_
  rw [Int.toNat_natCast, List.getElem?_eq_getElem hi, List.getElem_idxOf]
theorem Ord.back {k : Nat} {order : List Int} (h : Ord k order) {a : Int} (h0 : 0 ≤ a) (h1 : a < k) : (0 ≤ nth order a ∧ nth order a < k) ∧ posn order (nth order a) = a := by
  have hl := h.len
  refine ⟨h.mem.mp (nth_mem h0 (by omega)), ?_⟩
  have hk : a.toNat < order.length := by omega
  have e : nth order a = order[a.toNat] := by
    refine nth_get h0 ?_
    rw [List.getElem?_eq_getElem hk]
  unfold posn
  rw [e, h.nodup.idxOf_getElem]
  omega
theorem Ord.shp {sh order : List Int} (h : Shp sh) (ho : Ord sh.length order) : Shp (order.map (nth sh)) := by
  have hl := ho.len
  refine ⟨by rw [List.length_map, hl]; exact h.l1, by rw [List.length_map, hl]; exact h.l4, fun n hn => ?_⟩
  obtain ⟨p, hp, rfl⟩ := List.mem_map.mp hn
  obtain ⟨p0, p1⟩ := ho.mem.mp hp
  exact h.le _ (nth_mem p0 p1)
/-- the lot's places, rearranged -/
def turn (order lot : List Int) : List Int := sortI (lot.map (posn order))
theorem turn_perm (order lot : List Int) : (turn order lot).Perm (lot.map (posn order)) := sortI_perm _
theorem turn_mem {order lot : List Int} {a : Int} : a ∈ turn order lot ↔ ∃ p ∈ lot, posn order p = a := by rw [(turn_perm order lot).mem_iff]; exact List.mem_map
theorem pos_nodup {k : Nat} {order : List Int} (h : Ord k order) : ∀ {lot : List Int}, (∀ p ∈ lot, 0 ≤ p ∧ p < k) → lot.Nodup → (lot.map (posn order)).Nodup
  | [], _, _ => by simp
  | p :: lot, hr, hn => by
    obtain ⟨h1, h2⟩ := List.nodup_cons.mp hn
    rw [List.map_cons]
    refine List.nodup_cons.mpr ⟨fun hm => ?_, pos_nodup h (fun q hq => hr q (List.mem_cons_of_mem _ hq)) h2⟩
    obtain ⟨q, hq, e⟩ := List.mem_map.mp hm
    have hp := hr p List.mem_cons_self
    have hq' := hr q (List.mem_cons_of_mem _ hq)
    have e1 := (h.pos hp.1 hp.2).2.2
    have e2 := (h.pos hq'.1 hq'.2).2.2
    rw [e] at e2
    exact h1 (by rw [← e1, e2]; exact hq)
theorem turn_lot {k : Nat} {order lot : List Int} (h : Ord k order) (hl : Lot k lot) : Lot k (turn order lot) := by
  have hnd : (turn order lot).Nodup := (turn_perm order lot).nodup_iff.mpr (pos_nodup h hl.rng (asc_nodup hl.asc))
  refine ⟨?_, fun a ha => ?_, ?_⟩
  · have h1 := sortI_sorted (lot.map (posn order))
    exact (h1.and hnd).imp fun ⟨x, y⟩ => by omega
  · obtain ⟨p, hp, rfl⟩ := turn_mem.mp ha
    obtain ⟨p0, p1⟩ := hl.rng p hp
    exact ⟨(h.pos p0 p1).1, (h.pos p0 p1).2.1⟩
  · rw [(turn_perm order lot).length_eq, List.length_map]
    exact hl.len
/-- back to the places -/
theorem turn_back {k : Nat} {order lot : List Int} (h : Ord k order) (hr : ∀ p ∈ lot, 0 ≤ p ∧ p < k) : ((turn order lot).map (nth order)).Perm lot := by
  have h1 := (turn_perm order lot).map (nth order)
  rw [List.map_map] at h1
  have h2 : lot.map (nth order ∘ posn order) = lot := by
    have : lot.map (nth order ∘ posn order) = lot.map id := List.map_congr_left fun p hp => (h.pos (hr p hp).1 (hr p hp).2).2.2
    rw [this, List.map_id]
  rw [h2] at h1
  exact h1
end K00

end

section
set_option maxRecDepth 100000
namespace K00
open PySem PySem.Spec PyProof.Rows L2 PV
/-! what is drawn at will -/
theorem pick_all {ds : List D} (Q : D → Prop) (h : ds ≠ []) (hn : ds.length < 1073741824) (hq : ∀ d ∈ ds, Q d) (s : Dk) (f : Fit s) : ∃ d s', Q d ∧ Ev (F__law_pick [.deck, .lst ds]) s d s' ∧ Fit s' := by
  obtain ⟨d, s', hd, e, f'⟩ := pick_ok ds h hn s f
  exact ⟨d, s', hq d hd, e, f'⟩
theorem lc_any {p : Pat} {e : En → M D} {env : En} (P : D → Prop) : ∀ (ds : List D) (s : Dk), Fit s → (∀ d ∈ ds, ∃ e1, bindP p d env = some e1 ∧ ∀ s, Fit s → ∃ x s', Ev (e e1) s x s' ∧ P x ∧ Fit s') → ∃ ys s', Ev (lcM p tYes' e env ds) s ys s' ∧ ys.length = ds.length ∧ (∀ y ∈ ys, P y) ∧ Fit s'
  | [], s, h, _ => ⟨[], s, rfl, rfl, fun n hn => (by cases hn), h⟩
  | d :: ds, s, h, H => by
    obtain ⟨e1, h1, h2⟩ := H d List.mem_cons_self
    obtain ⟨x, s1, e2, px, f1⟩ := h2 s h
    obtain ⟨ys, s2, e3, l, hP, f2⟩ := lc_any P ds s1 f1 fun d' hd => H d' (List.mem_cons_of_mem _ hd)
    refine ⟨x :: ys, s2, ev_lc1 h1 rfl e2 e3, by simp [l], fun n hn => ?_, f2⟩
    rcases List.mem_cons.mp hn with rfl | hn
    · exact px
    · exact hP n hn
end K00

end

section
set_option maxRecDepth 100000
namespace K00
open PySem PySem.Spec PyProof.Rows L2 PV
theorem le7 {n : Nat} (h : n ≤ 1000) : n ≤ size7 := Nat.le_trans h (by decide)
theorem ev_skip {t : En → M Bool} {a : En → M Fl} {env : En} {s : Dk} (h : Ev (t env) s false s) : Ev (sIf t a sNext env) s (.nx env) s := ev_sif (c := false) h (fun h => by cases h) (fun _ => ev_next)
theorem ev_lti {env : En} {s : Dk} {i : Nat} {a b : Int} (h : env[i]? = some (.val (.int a))) : Ev (tVal (eOp ltD (eVar i) (eC (.int b))) env) s (decide (a < b)) s := ev_tval (ev_iop (ev_var h) ev_c rfl)
/-! ### drawn values are the same as themselves -/
def isLeaf : D → Bool
  | .non | .bl _ | .int _ | .str _ => true
  | _ => false
def G : Nat → D → Prop
  | 0, _ => False
  | n + 1, .lst ds => ds.length ≤ 8 ∧ ∀ x ∈ ds, G n x
  | n + 1, .tup ds => ds.length ≤ 8 ∧ ∀ x ∈ ds, G n x
  | n + 1, .fK kvs => ∃ a b, kvs = [(.inr "key", a), (.inl 1, b)] ∧ G n a ∧ G n b
  | _ + 1, d => isLeaf d = true ∧ Sw d 0 40
theorem G_up : ∀ (n : Nat) (d : D), G n d → G (n + 1) d
  | 0, _, h => h.elim
  | n + 1, .lst ds, h => ⟨h.1, fun x hx => G_up n x (h.2 x hx)⟩
  | n + 1, .tup ds, h => ⟨h.1, fun x hx => G_up n x (h.2 x hx)⟩
  | n + 1, .fK kvs, h => by
    obtain ⟨a, b, e, h1, h2⟩ := h
    exact ⟨a, b, e, G_up n a h1, G_up n b h2⟩
  | _ + 1, .non, h => h
  | _ + 1, .bl _, h => h
  | _ + 1, .int _, h => h
  | _ + 1, .str _, h => h
  | _ + 1, .dK _, h => h
  | _ + 1, .dT _, h => h
  | _ + 1, .deck, h => h
  | _ + 1, .exc _ _, h => h
theorem G_le {n : Nat} {d : D} : ∀ {m : Nat}, n ≤ m → G n d → G m d := fun {m} h g => by
  induction h with
  | refl => exact g
  | step _ ih => exact G_up _ _ ih
theorem G_leaf {n : Nat} {d : D} (hl : isLeaf d = true) (h : Sw d 0 40) : G (n + 1) d := by
  cases d with
  | non => exact ⟨hl, h⟩
  | bl b => exact ⟨hl, h⟩
  | int i => exact ⟨hl, h⟩
  | str x => exact ⟨hl, h⟩
  | _ => cases hl
theorem atI_nat {ds : List D} {i : Nat} {x : D} (h : ds[i]? = some x) : atI ds (i : Nat) = some x := by
  have hi : i < ds.length := (List.getElem?_eq_some_iff.mp h).1
  obtain ⟨d, _, e⟩ := atI_nn (ds := ds) (r := (i : Nat)) (Int.natCast_nonneg i) (by omega)
  unfold atI ixN at e ⊢
  simp only [Int.natCast_nonneg, if_true] at e ⊢
  first
    | simpa [h, hi] using h
    | (simp [hi]; exact h)
theorem lc_none {p : Pat} {t : En → M Bool} {e : En → M D} {env : En} {s : Dk} : ∀ (ds : List D), (∀ d ∈ ds, ∃ e1, bindP p d env = some e1 ∧ Ev (t e1) s false s) → Ev (lcM p t e env ds) s [] s
  | [], _ => ev_lc0
  | d :: ds, h => by
    obtain ⟨e1, h1, h2⟩ := h d List.mem_cons_self
    exact ev_lc2 h1 h2 (lc_none ds fun x hx => h x (List.mem_cons_of_mem _ hx))
theorem enum_mem {ds : List D} {d : D} (h : d ∈ enumD 0 ds) : ∃ (i : Nat) (x : D), ds[i]? = some x ∧ d = .tup [.int (i : Nat), x] := by
  obtain ⟨i, hi⟩ := List.getElem?_of_mem h
  rw [enumD_get] at hi
  cases z : ds[i]? with
  | none => rw [z] at hi; cases hi
  | some x =>
    rw [z] at hi
    refine ⟨i, x, z, ?_⟩
    have : D.tup [.int ((0 + i : Nat) : Int), x] = d := by simpa using hi
    rw [← this, Nat.zero_add]
theorem ne_bl (b : Bool) : neD (.bl b) (.bl b) = some (.bl false) := by
  unfold neD
  cases b <;> simp [D.toP, SeqAt.shaped, PyData.canLay0, PyData.depth, PyData.eqv]
theorem ne_same (i : Int) : neD (.int i) (.int i) = some (.bl false) := by
  unfold neD
  simp [D.toP, SeqAt.shaped, PyData.canLay0, PyData.depth, PyData.eqv]
theorem seq_same {n : Nat} {ds : List D} {d : D} (hq : seqOf d = some ds) (ht : isTs [.list, .tuple] d = some (.bl true)) (hl : ∃ b, isT .list d = some (.bl b)) (hn : lenD d = some (.int ds.length)) (hx : ∀ i x, ds[i]? = some x → ixD d (.int (i : Nat)) = some x) (h8 : ds.length ≤ 8)
    (ih : ∀ x ∈ ds, ∀ s, Ev (Fr__law_is_same n [x, x]) s (.bl true) s) (s : Dk) : Ev (Fr__law_is_same (n + 1) [d, d]) s (.bl true) s := by
  obtain ⟨b, hb⟩ := hl
  have hne : neD (.bl b) (.bl b) = some (.bl false) := ne_bl b
  have it : Ev (eMapI gEnum (eAcons (eVar 0) eAnil) [.val d, .val d, .no, .no, .no]) s (enumD 0 ds) s := ev_mapI (ev_acons (ev_var rfl) ev_anil) (by show (seqOf d).map (enumD 0) = _; rw [hq]; rfl)
  have lc : Ev (eFrz (eLc (eMapI gEnum (eAcons (eVar 0) eAnil)) (.tp [(.nm 2), (.nm 3)]) [2, 3] (tNot' (tVal (eCall (cN 2 (Fr__law_is_same n)) (eAcons (eVar 3) (eAcons (eOp ixD (eVar 1) (eVar 2)) eAnil))))) (eVar 2)) [.val d, .val d, .no, .no, .no]) s (.lst []) s :=
    ev_frz (o := .lst []) (ev_lc it (by rw [enumD_len]; exact le7 (by omega)) (lc_none _ fun y hy => by
      obtain ⟨i, x, h1, rfl⟩ := enum_mem hy
      exact ⟨_, bindP_2, ev_notT (c := true) (ev_tval (ev_call (ev_acons (ev_var rfl) (ev_acons (ev_op (ev_var rfl) (ev_var rfl) (hx i x h1)) ev_anil)) rfl (ih x (List.mem_of_getElem? h1) s)))⟩))
  refine ev_run (ev_seqR (ev_sif (c := true) (ev_tval (ev_un (ev_var rfl) ht)) (fun _ => ev_seq (ev_skip (ev_orT (c := false) (ev_notT (c := true) (ev_tval (ev_un (ev_var rfl) ht))) (fun _ => ev_tval (ev_op (ev_un (ev_var rfl) hb) (ev_un (ev_var rfl) hb) hne)) (fun h => by cases h))) (ev_rt ?_)) (fun h => by cases h)))
  exact ev_andV (c := true) (ev_op (ev_mapA (ev_acons (ev_var rfl) ev_anil) hn) (ev_mapA (ev_acons (ev_var rfl) ev_anil) hn) (by rw [eq_int, decide_eq_true rfl])) (fun _ => ev_op lc (ev_frz (o := .lst []) (ev_mapO ev_anil rfl)) rfl) (fun h => by cases h)
theorem leaf_same {n : Nat} {d : D} (h1 : isTs [.list, .tuple] d = some (.bl false)) (h2 : isT .dict d = some (.bl false)) (h3 : isTs [.list, .tuple, .dict] d = some (.bl false)) (h : Sw d 0 40) (s : Dk) : Ev (Fr__law_is_same (n + 1) [d, d]) s (.bl true) s := by
  obtain ⟨t, e, ok⟩ := sw_repr h (by decide) (by decide)
  exact ev_run (ev_seq (ev_skip (ev_tval (ev_un (ev_var rfl) h1))) (ev_seq (ev_skip (ev_tval (ev_un (ev_var rfl) h2))) (ev_rt (ev_andV (c := true) (ev_notV (c := false) (ev_un (ev_var rfl) h3)) (fun _ => ev_op (ev_mapA (ev_acons (ev_var rfl) ev_anil) e) (ev_mapA (ev_acons (ev_var rfl) ev_anil) e) (str_eq ok)) (fun h => by cases h)))))
theorem same_ok : ∀ (n : Nat) (d : D), G n d → ∀ s, Ev (Fr__law_is_same n [d, d]) s (.bl true) s
  | 0, _, h, _ => h.elim
  | n + 1, .lst ds, h, s => seq_same (ds := ds) (d := .lst ds) rfl rfl ⟨true, rfl⟩ rfl (fun i x hx => (show atI ds (i : Nat) = some x from atI_nat hx)) h.1 (fun x hx => same_ok n x (h.2 x hx)) s
  | n + 1, .tup ds, h, s => seq_same (ds := ds) (d := .tup ds) rfl rfl ⟨false, rfl⟩ rfl (fun i x hx => (show atI ds (i : Nat) = some x from atI_nat hx)) h.1 (fun x hx => same_ok n x (h.2 x hx)) s
  | n + 1, .fK kvs, h, s => by
    obtain ⟨a, b, e, h1, h2⟩ := h
    subst e
    have lc : Ev (eFrz (eLc (eKeys (eVar 0)) (.nm 4) [4] (tOr' (tVal (eOp notinF (eVar 4) (eVar 1))) (tNot' (tVal (eCall (cN 2 (Fr__law_is_same n)) (eAcons (eOp ixF (eVar 0) (eVar 4)) (eAcons (eOp ixF (eVar 1) (eVar 4)) eAnil)))))) (eVar 4)) [.val (.fK [(.inr "key", a), (.inl 1, b)]), .val (.fK [(.inr "key", a), (.inl 1, b)]), .no, .no, .no]) s (.lst []) s := by
      refine ev_frz (o := .lst []) (ev_lc (ds := [.str "key", .int 1]) (ev_bind (ev_var rfl) (ev_opt rfl)) (le7 (by decide)) (lc_none _ fun y hy => ?_))
      simp only [List.mem_cons, List.not_mem_nil, or_false] at hy
      rcases hy with rfl | rfl
      · exact ⟨_, bindP_nm, ev_orT (c := false) (ev_tval (ev_op (ev_var rfl) (ev_var rfl) rfl)) (fun _ => ev_notT (c := true) (ev_tval (ev_call (ev_acons (ev_op (ev_var rfl) (ev_var rfl) rfl) (ev_acons (ev_op (ev_var rfl) (ev_var rfl) rfl) ev_anil)) rfl (same_ok n a h1 s)))) (fun h => by cases h)⟩
      · exact ⟨_, bindP_nm, ev_orT (c := false) (ev_tval (ev_op (ev_var rfl) (ev_var rfl) rfl)) (fun _ => ev_notT (c := true) (ev_tval (ev_call (ev_acons (ev_op (ev_var rfl) (ev_var rfl) rfl) (ev_acons (ev_op (ev_var rfl) (ev_var rfl) rfl) ev_anil)) rfl (same_ok n b h2 s)))) (fun h => by cases h)⟩
    refine ev_run (ev_seq (ev_skip (ev_tval (ev_un (ev_var rfl) rfl))) (ev_seqR (ev_sif (c := true) (ev_tval (ev_un (ev_var rfl) rfl)) (fun _ => ev_seq (ev_skip (ev_orT (c := false) (ev_notT (c := true) (ev_tval (ev_un (ev_var rfl) rfl))) (fun _ => ev_tval (ev_op (ev_mapA (ev_acons (ev_var rfl) ev_anil) rfl) (ev_mapA (ev_acons (ev_var rfl) ev_anil) rfl) (ne_same _))) (fun h => by cases h))) (ev_rt ?_)) (fun h => by cases h))))
    exact ev_op lc (ev_frz (o := .lst []) (ev_mapO ev_anil rfl)) rfl
  | n + 1, .non, h, s => leaf_same rfl rfl rfl h.2 s
  | n + 1, .bl _, h, s => leaf_same rfl rfl rfl h.2 s
  | n + 1, .int _, h, s => leaf_same rfl rfl rfl h.2 s
  | n + 1, .str _, h, s => leaf_same rfl rfl rfl h.2 s
  | _ + 1, .dK _, h, _ => by cases h.1
  | _ + 1, .dT _, h, _ => by cases h.1
  | _ + 1, .deck, h, _ => by cases h.1
  | _ + 1, .exc _ _, h, _ => by cases h.1
end K00

end

section
set_option maxRecDepth 100000
set_option maxHeartbeats 1000000
namespace K00
open PySem PySem.Spec PyProof.Rows L2 PV
/-! ### what is drawn -/
theorem ev_dispF {k1 k2 : Key} {m1 m2 : En → M D} {env : En} {s s1 s2 : Dk} {x y : D} (h1 : Ev (m1 env) s x s1) (h2 : Ev (m2 env) s1 y s2) : Ev (eDispF k1 k2 m1 m2 env) s (.fK [(k1, x), (k2, y)]) s2 := ev_bind h1 (ev_bind h2 ev_ret)
theorem gi {n : Nat} {i : Int} (h : i.natAbs < 10 ^ 30) : G (n + 1) (.int i) := G_leaf rfl (sw_mono (sw_int (k := 30) (by decide) (by decide) h) (by decide) (by decide))
theorem any_draw : ∀ (n k : Nat) (s : Dk), k < n → Fit s → ∃ d s', Ev (Fr__law_any n [.deck, .int k]) s d s' ∧ G (2 * k + 2) d ∧ Fit s'
  | 0, k, s, h, _ => absurd h (by omega)
  | n + 1, k, s, hk, f => by
    obtain ⟨r, s1, e1, r0, r1, f1⟩ := draw_ok 10 (by decide) (by decide) s f
    have first : Ev (sAsg (.nm 2) (eCall (cN 2 F__law_draw) (eAcons (eVar 0) (eAcons (eC (.int 10)) eAnil))) (env0 5 [.deck, .int k])) s (.nx [.val .deck, .val (.int k), .val (.int r), .no, .no]) s1 := ev_asgN (ev_call (ev_acons (ev_var rfl) (ev_acons ev_c ev_anil)) rfl e1)
    by_cases w2 : r < 2
    · obtain ⟨d, s2, q, e2, f2⟩ := pick_all (ds := [.int 0, .int 1, .int (-1), .int 7, .int (10 ^ 29), .int (-(10 ^ 20)), .int 2, .int 5]) (G (2 * k + 2)) (by simp) (by show 8 < _; decide) (fun d hd => by
        simp only [List.mem_cons, List.not_mem_nil, or_false] at hd
        rcases hd with rfl | rfl | rfl | rfl | rfl | rfl | rfl | rfl <;> exact gi (by decide)) s1 f1
      exact ⟨d, s2, ev_run (ev_seq first (ev_seqR (ev_sif (c := true) (ev_eqR (ev_lti rfl) (decide_eq_true w2)) (fun _ => ev_rt (ev_call (ev_acons (ev_var rfl) (ev_acons (ev_frz (o := .lst [.int 0, .int 1, .int (-1), .int 7, .int (10 ^ 29), .int (-(10 ^ 20)), .int 2, .int 5]) (ev_mapO (ev_acons ev_c (ev_acons ev_c (ev_acons (ev_un ev_c rfl) (ev_acons ev_c (ev_acons (ev_iop ev_c ev_c rfl) (ev_acons (ev_un (ev_iop ev_c ev_c rfl) rfl) (ev_acons ev_c (ev_acons ev_c ev_anil)))))))) rfl)) ev_anil)) rfl e2)) (fun h => by cases h)))), q, f2⟩
    have n2 : ∀ {a : En → M Fl} {s : Dk}, Ev (sIf (tVal (eOp ltD (eVar 2) (eC (.int 2)))) a sNext [.val .deck, .val (.int k), .val (.int r), .no, .no]) s (.nx [.val .deck, .val (.int k), .val (.int r), .no, .no]) s := fun {a s} => ev_skip (ev_eqR (ev_lti rfl) (decide_eq_false w2))
    by_cases w4 : r < 4
    · obtain ⟨d, s2, q, e2, f2⟩ := pick_all (ds := [.str "", .str "a", .str "(0, 1)", .str "lists", .str "x\ny", .str "~"]) (G (2 * k + 2)) (by simp) (by show 6 < _; decide) (fun d hd => by
        simp only [List.mem_cons, List.not_mem_nil, or_false] at hd
        rcases hd with rfl | rfl | rfl | rfl | rfl | rfl <;> exact G_leaf rfl (sw_str (by decide +kernel) (by decide +kernel))) s1 f1
      exact ⟨d, s2, ev_run (ev_seq first (ev_seq n2 (ev_seqR (ev_sif (c := true) (ev_eqR (ev_lti rfl) (decide_eq_true w4)) (fun _ => ev_rt (ev_call (ev_acons (ev_var rfl) (ev_acons (ev_frz (o := .lst [.str "", .str "a", .str "(0, 1)", .str "lists", .str "x\ny", .str "~"]) (ev_mapO (ev_acons ev_c (ev_acons ev_c (ev_acons ev_c (ev_acons ev_c (ev_acons ev_c (ev_acons ev_c ev_anil)))))) rfl)) ev_anil)) rfl e2)) (fun h => by cases h))))), q, f2⟩
    have n4 : ∀ {a : En → M Fl} {s : Dk}, Ev (sIf (tVal (eOp ltD (eVar 2) (eC (.int 4)))) a sNext [.val .deck, .val (.int k), .val (.int r), .no, .no]) s (.nx [.val .deck, .val (.int k), .val (.int r), .no, .no]) s := fun {a s} => ev_skip (ev_eqR (ev_lti rfl) (decide_eq_false w4))
    have eqr : ∀ {s : Dk} {env : En} {b : Int}, env[2]? = some (.val (.int r)) → Ev (tVal (eOp eqD (eVar 2) (eC (.int b))) env) s (decide (r = b)) s := fun h => ev_tval (ev_iop (ev_var h) ev_c (eq_int _ _))
    by_cases w5 : r = 4
    · obtain ⟨d, s2, q, e2, f2⟩ := pick_all (ds := [.bl true, .bl false, .non]) (G (2 * k + 2)) (by simp) (by show 3 < _; decide) (fun d hd => by
        simp only [List.mem_cons, List.not_mem_nil, or_false] at hd
        rcases hd with rfl | rfl | rfl
        · exact G_leaf rfl (sw_mono (sw_bl _) (by decide) (by decide))
        · exact G_leaf rfl (sw_mono (sw_bl _) (by decide) (by decide))
        · exact G_leaf rfl (sw_mono sw_non (by decide) (by decide))) s1 f1
      exact ⟨d, s2, ev_run (ev_seq first (ev_seq n2 (ev_seq n4 (ev_seqR (ev_sif (c := true) (ev_eqR (eqr rfl) (decide_eq_true w5)) (fun _ => ev_rt (ev_call (ev_acons (ev_var rfl) (ev_acons (ev_frz (o := .lst [.bl true, .bl false, .non]) (ev_mapO (ev_acons ev_c (ev_acons ev_c (ev_acons ev_c ev_anil))) rfl)) ev_anil)) rfl e2)) (fun h => by cases h)))))), q, f2⟩
    have n5 : ∀ {a : En → M Fl} {s : Dk}, Ev (sIf (tVal (eOp eqD (eVar 2) (eC (.int 4)))) a sNext [.val .deck, .val (.int k), .val (.int r), .no, .no]) s (.nx [.val .deck, .val (.int k), .val (.int r), .no, .no]) s := fun {a s} => ev_skip (ev_eqR (eqr rfl) (decide_eq_false w5))
    obtain ⟨ds, s2, e2, hl, ha, f2⟩ : ∃ ds s2, Ev (eIf (tVal (eOp gtD (eVar 1) (eC (.int 0)))) (eFrz (eLc (eMapI gRange1 (eAcons (eCall (cN 2 F__law_draw) (eAcons (eVar 0) (eAcons (eC (.int 4)) eAnil))) eAnil)) (.nm 4) [4] tYes' (eCall (cN 2 (Fr__law_any n)) (eAcons (eVar 0) (eAcons (eOp subD (eVar 1) (eC (.int 1))) eAnil))))) (eFrz (eMapO gLstO eAnil)) [.val .deck, .val (.int k), .val (.int r), .no, .no]) s1 (.lst ds) s2 ∧ ds.length ≤ 3 ∧ (∀ x ∈ ds, G (2 * k) x) ∧ Fit s2 := by
      cases k with
      | zero => exact ⟨[], s1, ev_if (c := false) (ev_tval (ev_iop (ev_var rfl) ev_c rfl)) (fun h => by cases h) (fun _ => ev_frz (o := .lst []) (ev_mapO ev_anil rfl)), by simp, (fun x hx => by cases hx), f1⟩
      | succ k =>
        obtain ⟨c, s2, e2, c0, c1, f2⟩ := draw_ok 4 (by decide) (by decide) s1 f1
        obtain ⟨ds, s3, e3, l3, h3, f3⟩ := lc_any (p := .nm 4) (e := eCall (cN 2 (Fr__law_any n)) (eAcons (eVar 0) (eAcons (eOp subD (eVar 1) (eC (.int 1))) eAnil))) (env := [.val .deck, .val (.int ((k + 1 : Nat) : Int)), .val (.int r), .no, .no]) (G (2 * k + 2)) (rangeD 0 c) s2 f2 (fun d hd => ⟨_, bindP_nm, fun s f => by
          obtain ⟨d', s', e, a, f'⟩ := any_draw n k s (by omega) f
          refine ⟨d', s', ev_call (ev_acons (ev_var rfl) (ev_acons (ev_iop (ev_var rfl) ev_c (show subD (.int ((k + 1 : Nat) : Int)) (.int 1) = some (.int (k : Int)) from ?_)) ev_anil)) rfl e, a, f'⟩
          show some (D.int (((k + 1 : Nat) : Int) - 1)) = _
          rw [show ((k + 1 : Nat) : Int) - 1 = (k : Int) by omega]⟩)
        have l3' : ds.length ≤ 3 := by rw [l3, len_rangeD c c0]; omega
        refine ⟨ds, s3, ev_if (c := true) (ev_tval (ev_iop (ev_var rfl) ev_c (show gtD (.int ((k + 1 : Nat) : Int)) (.int 0) = some (.bl true) from congrArg (fun b => some (D.bl b)) (decide_eq_true (by omega))))) (fun _ => ev_frz (ev_lc (ev_mapI (ev_acons (ev_call (ev_acons (ev_var rfl) (ev_acons ev_c ev_anil)) rfl e2) ev_anil) (show (if small62 c = true then some (rangeD 0 c) else none) = some (rangeD 0 c) from if_pos (small62_of c0 (by omega)))) (by rw [len_rangeD c c0]; exact le7 (by omega)) e3)) (fun h => by cases h), l3', fun x hx => G_le (by omega) (h3 x hx), f3⟩
    have gl : G (2 * k + 1) (.lst ds) := ⟨by omega, ha⟩
    have env3 : Ev (sAsg (.nm 3) (eIf (tVal (eOp gtD (eVar 1) (eC (.int 0)))) (eFrz (eLc (eMapI gRange1 (eAcons (eCall (cN 2 F__law_draw) (eAcons (eVar 0) (eAcons (eC (.int 4)) eAnil))) eAnil)) (.nm 4) [4] tYes' (eCall (cN 2 (Fr__law_any n)) (eAcons (eVar 0) (eAcons (eOp subD (eVar 1) (eC (.int 1))) eAnil))))) (eFrz (eMapO gLstO eAnil))) [.val .deck, .val (.int k), .val (.int r), .no, .no]) s1 (.nx [.val .deck, .val (.int k), .val (.int r), .val (.lst ds), .no]) s2 := ev_asgN e2
    by_cases w6 : r = 5
    · exact ⟨.lst ds, s2, ev_run (ev_seq first (ev_seq n2 (ev_seq n4 (ev_seq n5 (ev_seq env3 (ev_seqR (ev_sif (c := true) (ev_eqR (eqr rfl) (decide_eq_true w6)) (fun _ => ev_rt (ev_var rfl)) (fun h => by cases h)))))))), G_up _ _ gl, f2⟩
    have n6 : ∀ {a : En → M Fl} {s : Dk}, Ev (sIf (tVal (eOp eqD (eVar 2) (eC (.int 5)))) a sNext [.val .deck, .val (.int k), .val (.int r), .val (.lst ds), .no]) s (.nx [.val .deck, .val (.int k), .val (.int r), .val (.lst ds), .no]) s := fun {a s} => ev_skip (ev_eqR (eqr rfl) (decide_eq_false w6))
    by_cases w7 : r = 6
    · exact ⟨.fK [(.inr "key", .lst ds), (.inl 1, .int (ds.length : Nat))], s2, ev_run (ev_seq first (ev_seq n2 (ev_seq n4 (ev_seq n5 (ev_seq env3 (ev_seq n6 (ev_rt (ev_if (c := true) (ev_eqR (eqr rfl) (decide_eq_true w7)) (fun _ => ev_dispF (ev_var rfl) (ev_mapA (ev_acons (ev_var rfl) ev_anil) rfl)) (fun h => by cases h))))))))), ⟨_, _, rfl, gl, gi (Nat.lt_of_le_of_lt (show ((ds.length : Nat) : Int).natAbs ≤ 3 by omega) (by decide))⟩, f2⟩
    · exact ⟨.tup ds, s2, ev_run (ev_seq first (ev_seq n2 (ev_seq n4 (ev_seq n5 (ev_seq env3 (ev_seq n6 (ev_rt (ev_if (c := false) (ev_eqR (eqr rfl) (decide_eq_false w7)) (fun h => by cases h) (fun _ => ev_mapA (ev_acons (ev_var rfl) ev_anil) rfl))))))))), G_up _ _ (show G (2 * k + 1) (.tup ds) from ⟨by omega, ha⟩), f2⟩
/-! ### the errors -/
def Es (d : D) : List D := (List.range 15).map fun c => .exc c d
theorem by_position (d : D) (s : Dk) : Ev (F__law_by_position [d]) s (.lst (Es d)) s := by rfl
theorem by_name (d : D) (s : Dk) : Ev (F__law_by_name [d]) s (.lst (Es d)) s := by rfl
theorem carried (d : D) (s : Dk) : Ev (F__law_carried [.lst (Es d)]) s (.lst (List.replicate 15 d)) s := by rfl
theorem kinds (c : Nat) (d : D) (s : Dk) : Ev (F__law_kinds [.exc c d]) s (.lst ((List.range 15).map fun k => .bl (decide (c = k)))) s := by rfl
end K00

end

section
set_option maxRecDepth 100000
set_option maxHeartbeats 4000000
namespace K00
open PySem PySem.Spec PyProof.Rows L2 PV
abbrev Bs (c : Nat) : List D := (List.range 15).map fun k => .bl (decide (c = k))
abbrev Bp (c : Nat) : List Bool := (List.range 15).map fun k => decide (c = k)
theorem bls_eqD : ∀ c : Fin 15, eqD (.lst ((Bp c.1).map D.bl)) (.lst ((Bp c.1).map D.bl)) = some (.bl true) := by
  have key : ∀ c : Fin 15, SeqAt.shaped (.list ((Bp c.1).map PyData.bool)) = true ∧ PyData.eqv (.list ((Bp c.1).map PyData.bool)) (.list ((Bp c.1).map PyData.bool)) = true := by decide +kernel
  have toPs : ∀ bs : List Bool, D.toPs (bs.map D.bl) = some (bs.map PyData.bool) := fun bs => by
    induction bs with
    | nil => rfl
    | cons b r ih => simp only [List.map_cons, D.toPs, D.toP, ih]
  intro c
  obtain ⟨k1, k2⟩ := key c
  unfold eqD
  simp only [D.toP, toPs, Option.map_some, k1, k2, Bool.and_self, if_true]
theorem bls_neD : ∀ c : Fin 15, neD (.lst ((Bp c.1).map D.bl)) (.lst ((Bp c.1).map D.bl)) = some (.bl false) := by
  have key : ∀ c : Fin 15, SeqAt.shaped (.list ((Bp c.1).map PyData.bool)) = true ∧ PyData.eqv (.list ((Bp c.1).map PyData.bool)) (.list ((Bp c.1).map PyData.bool)) = true := by decide +kernel
  have toPs : ∀ bs : List Bool, D.toPs (bs.map D.bl) = some (bs.map PyData.bool) := fun bs => by
    induction bs with
    | nil => rfl
    | cons b r ih => simp only [List.map_cons, D.toPs, D.toP, ih]
  intro c
  obtain ⟨k1, k2⟩ := key c
  unfold neD
  simp only [D.toP, toPs, Option.map_some, k1, k2, Bool.and_self, Bool.not_true, if_true]
theorem Bs_eq (c : Nat) : Bs c = (Bp c).map D.bl := by unfold Bs Bp; rw [List.map_map]; rfl
/-- [place == at for place in range(15)] -/
theorem places {env : En} {s : Dk} {i j : Nat} {c : Nat} (hi : i < env.length) (hij : j ≠ i) (hj : env[j]? = some (.val (.int (c : Nat)))) : Ev (eFrz (eLc (eMapI gRange1 (eAcons (eC (.int 15)) eAnil)) (.nm i) [i] tYes' (eOp eqD (eVar i) (eVar j))) env) s (.lst (Bs c)) s := by
  have e : Bs c = (rangeD 0 15).map fun d => match d with | .int k => .bl (decide (k = c)) | _ => .non := by
    unfold Bs
    show _ = ((List.range 15).map fun (i : Nat) => D.int (0 + (i : Int))).map _
    rw [List.map_map]
    refine List.map_congr_left fun k _ => ?_
    show D.bl (decide (c = k)) = D.bl (decide ((0 + (k : Int)) = (c : Int)))
    congr 1
    by_cases h : c = k
    · subst h; simp
    · rw [decide_eq_false h, decide_eq_false (by omega)]
  rw [e]
  refine ev_frz (o := .lst _) (ev_lc (ev_mapI (ev_acons ev_c ev_anil) rfl) (by decide) (ev_lcMap _ fun d hd => ?_))
  obtain ⟨k, _, rfl⟩ := List.mem_map.mp hd
  refine ⟨_, bindP_nm, ev_op (ev_var (List.getElem?_set_self (by simpa [wipeE] using hi))) (ev_var (d := .int (c : Nat)) ?_) (eq_int _ _)⟩
  rw [List.getElem?_set_ne (Ne.symm hij)]
  show ((env.set i .no))[j]? = _
  rw [List.getElem?_set_ne (Ne.symm hij)]
  exact hj
theorem is_own {c : Nat} (hc : c < 15) (d : D) (s : Dk) : Ev (F__law_is_own [.int (c : Nat), .exc c d]) s (.bl true) s := by
  have hi : isE (fun _ => true) (.exc c d) = some (.bl true) := rfl
  refine ev_run (ev_seq (ev_skip (ev_orT (c := false) (ev_notT (c := true) (ev_tval (ev_un (ev_var rfl) rfl))) (fun _ => ev_notT (c := true) (ev_tval (ev_un (ev_var rfl) rfl))) (fun h => by cases h))) (ev_seq (ev_skip (ev_tval (ev_un (ev_var rfl) rfl))) (ev_rt ?_)))
  refine ev_op (ev_call (ev_acons (ev_var rfl) ev_anil) rfl (kinds c d s)) (places (i := 2) (j := 0) (show 2 < 3 by decide) (by decide) rfl) ?_
  show eqD (.lst (Bs c)) (.lst (Bs c)) = _
  rw [Bs_eq]
  exact bls_eqD ⟨c, hc⟩
theorem raises : ∀ c : Fin 15, ∀ (d : D) (s : Dk), Ex (F__law_raise [.int (c.1 : Nat), d]) s c.1 d s := fun c d s => by
  have ne : ∀ k : Nat, c.1 ≠ k → ∀ {a : En → M Fl}, Ev (sIf (tVal (eOp eqD (eVar 0) (eC (.int (k : Nat))))) a sNext [.val (.int (c.1 : Nat)), .val d]) s (.nx [.val (.int (c.1 : Nat)), .val d]) s := fun k h {a} => ev_skip (ev_eqR (ev_tval (ev_op (ev_var rfl) ev_c (eq_int _ _))) (decide_eq_false (by omega)))
  have yes : ∀ k : Nat, c.1 = k → Ex (sIf (tVal (eOp eqD (eVar 0) (eC (.int (k : Nat))))) (sRaise k (eVar 1)) sNext [.val (.int (c.1 : Nat)), .val d]) s c.1 d s := fun k h => by
    have t : Ev (tVal (eOp eqD (eVar 0) (eC (.int (k : Nat)))) [.val (.int (c.1 : Nat)), .val d]) s true s := ev_eqR (ev_tval (ev_op (ev_var rfl) ev_c (eq_int _ _))) (decide_eq_true (by omega))
    show (andThen _ _) s = _
    unfold andThen
    rw [show tVal (eOp eqD (eVar 0) (eC (.int (k : Nat)))) [.val (.int (c.1 : Nat)), .val d] s = .ok true s from t, h]
    rfl
  obtain ⟨c, hc⟩ := c
  have step : ∀ {a b : En → M Fl}, Ev (a [.val (.int (c : Nat)), .val d]) s (.nx [.val (.int (c : Nat)), .val d]) s → Ex (b [.val (.int (c : Nat)), .val d]) s c d s → Ex (sSeq a b [.val (.int (c : Nat)), .val d]) s c d s := fun {a b} h1 h2 => by
    show (andThen _ _) s = _
    unfold andThen
    rw [show a _ s = _ from h1]
    exact h2
  have here : ∀ {a b : En → M Fl}, Ex (a [.val (.int (c : Nat)), .val d]) s c d s → Ex (sSeq a b [.val (.int (c : Nat)), .val d]) s c d s := fun {a b} h1 => by
    show (andThen _ _) s = _
    unfold andThen
    rw [show a _ s = _ from h1]
    rfl
  have run : Ex (B__law_raise [.val (.int (c : Nat)), .val d]) s c d s := by
    by_cases h0 : c = 0
    · exact here (yes 0 h0)
    refine step (ne 0 h0) ?_
    by_cases h1 : c = 1
    · exact here (yes 1 h1)
    refine step (ne 1 h1) ?_
    by_cases h2 : c = 2
    · exact here (yes 2 h2)
    refine step (ne 2 h2) ?_
    by_cases h3 : c = 3
    · exact here (yes 3 h3)
    refine step (ne 3 h3) ?_
    by_cases h4 : c = 4
    · exact here (yes 4 h4)
    refine step (ne 4 h4) ?_
    by_cases h5 : c = 5
    · exact here (yes 5 h5)
    refine step (ne 5 h5) ?_
    by_cases h6 : c = 6
    · exact here (yes 6 h6)
    refine step (ne 6 h6) ?_
    by_cases h7 : c = 7
    · exact here (yes 7 h7)
    refine step (ne 7 h7) ?_
    by_cases h8 : c = 8
    · exact here (yes 8 h8)
    refine step (ne 8 h8) ?_
    by_cases h9 : c = 9
    · exact here (yes 9 h9)
    refine step (ne 9 h9) ?_
    by_cases h10 : c = 10
    · exact here (yes 10 h10)
    refine step (ne 10 h10) ?_
    by_cases h11 : c = 11
    · exact here (yes 11 h11)
    refine step (ne 11 h11) ?_
    by_cases h12 : c = 12
    · exact here (yes 12 h12)
    refine step (ne 12 h12) ?_
    by_cases h13 : c = 13
    · exact here (yes 13 h13)
    refine step (ne 13 h13) ?_
    have h14 : c = 14 := by omega
    subst h14
    rfl
  show (andThen (B__law_raise [.val (.int (c : Nat)), .val d]) _) s = _
  unfold andThen
  rw [show B__law_raise [.val (.int (c : Nat)), .val d] s = _ from run]
  rfl
theorem dropped {c : Fin 15} {d : D} {s : Dk} {r : Slot} : Ex (sDrop (eCall (cN 2 F__law_raise) (eAcons (eVar 0) (eAcons (eVar 1) eAnil))) [.val (.int (c.1 : Nat)), .val d, r]) s c.1 d s := by
  show (andThen (F__law_raise [.int (c.1 : Nat), d]) _) s = _
  unfold andThen
  rw [show F__law_raise [.int (c.1 : Nat), d] s = _ from raises c d s]
  rfl
theorem hs_all : ∀ c : Fin 15, hsN [(14, 14), (2, 2), (1, 1), (12, 12), (0, 0), (8, 8), (4, 4), (13, 13), (3, 3), (11, 11), (7, 7), (5, 5), (10, 10), (6, 6), (9, 9)] c.1 = some (c.1 : Int) := by decide +kernel
theorem caught (c : Fin 15) (d : D) (s : Dk) : Ev (F__law_caught [.int (c.1 : Nat), d]) s (.tup [.int (c.1 : Nat), d]) s := by
  refine ev_run (ev_seqR ?_)
  show (match sDrop (eCall (cN 2 F__law_raise) (eAcons (eVar 0) (eAcons (eVar 1) eAnil))) [.val (.int (c.1 : Nat)), .val d, .no] s with
    | .exc c d s' => match hsN [(14, 14), (2, 2), (1, 1), (12, 12), (0, 0), (8, 8), (4, 4), (13, 13), (3, 3), (11, 11), (7, 7), (5, 5), (10, 10), (6, 6), (9, 9)] c with
      | some n => Res.ok (Fl.rt (.tup [.int n, d])) s'
      | none => .exc c d s'
    | r => r) = _
  rw [show sDrop (eCall (cN 2 F__law_raise) (eAcons (eVar 0) (eAcons (eVar 1) eAnil))) [.val (.int (c.1 : Nat)), .val d, .no] s = _ from dropped]
  simp only [hs_all c]
theorem caught_as_base (c : Fin 15) (d : D) (s : Dk) : Ev (F__law_caught_as_base [.int (c.1 : Nat), d]) s (.lst (Bs c.1)) s := by
  refine ev_run (ev_seqR ?_)
  show (match sDrop (eCall (cN 2 F__law_raise) (eAcons (eVar 0) (eAcons (eVar 1) eAnil))) [.val (.int (c.1 : Nat)), .val d, .no] s with
    | .exc c d s' => Res.ok (Fl.rt (.lst ((kindsOf ks__law_kinds c).map D.bl))) s'
    | r => r) = _
  rw [show sDrop (eCall (cN 2 F__law_raise) (eAcons (eVar 0) (eAcons (eVar 1) eAnil))) [.val (.int (c.1 : Nat)), .val d, .no] s = _ from dropped]
  rfl
/-! ### the law -/
theorem all_same {m : Nat} {d : D} (h : G 10 d) {env : En} {s : Dk} {j : Nat} (hlen : 11 < env.length) (hj : env[j]? = some (.val d)) (hn : j ≠ 11) {it : En → M (List D)} (hit : Ev (it env) s (List.replicate 15 d) s) :
    Ev (sIf (tVal (eOp neN (eFrz (eLc it (.nm 11) [11] (tNot' (tVal (eCall (cN 2 F__law_is_same) (eAcons (eVar 11) (eAcons (eVar j) eAnil))))) (eVar 11))) (eFrz (eMapO gLstO eAnil)))) (sRet (eC (.bl false))) sNext env) s (.nx env) s := by
  refine ev_skip (ev_tval (ev_op (ev_frz (o := .lst []) (ev_lc hit (by rw [List.length_replicate]; exact le7 (by decide)) (lc_none _ fun x hx => ?_))) (ev_frz (o := .lst []) (ev_mapO ev_anil rfl)) rfl))
  obtain rfl := (List.eq_of_mem_replicate hx)
  refine ⟨_, bindP_nm, ev_notT (c := true) (ev_tval (ev_call (ev_acons (ev_var (List.getElem?_set_self (by simpa [wipeE] using hlen))) (ev_acons (ev_var (d := x) ?_) ev_anil)) rfl (same_ok 10 x h s)))⟩
  rw [List.getElem?_set_ne (Ne.symm hn)]
  show (env.set 11 .no)[j]? = _
  rw [List.getElem?_set_ne (Ne.symm hn)]
  exact hj
abbrev ownB : En → M Fl := sIf (tNot' (tVal (eCall (cN 2 F__law_is_own) (eAcons (eVar 7) (eAcons (eVar 8) eAnil))))) (sRet (eC (.bl false))) sNext
theorem own_loop (a b c e f g mm : Slot) (u9 u10 u11 u12 : Slot) (d : D) (s : Dk) : ∀ (n k : Nat) (x y : Slot), n + k = 15 → ∃ x' y', Ev (forM' (.tp [(.nm 7), (.nm 8)]) ownB (enumD k ((List.range' k n).map fun c => .exc c d)) [a, b, c, e, f, g, mm, x, y, u9, u10, u11, u12]) s (.nx [a, b, c, e, f, g, mm, x', y', u9, u10, u11, u12]) s
  | 0, k, x, y, _ => ⟨x, y, ev_for0⟩
  | n + 1, k, x, y, h => by
    obtain ⟨x', y', h'⟩ := own_loop a b c e f g mm u9 u10 u11 u12 d s n (k + 1) (.val (.int (k : Nat))) (.val (.exc k d)) (by omega)
    refine ⟨x', y', ?_⟩
    rw [List.range'_succ, List.map_cons]
    refine ev_for1 bindP_2 (ev_skip (ev_notT (c := true) (ev_tval (ev_call (ev_acons (ev_var rfl) (ev_acons (ev_var rfl) ev_anil)) rfl (is_own (c := k) (by omega) d s))))) h'
theorem Es_range (d : D) : Es d = (List.range' 0 15).map fun c => D.exc c d := by
  unfold Es
  rw [List.range_eq_range']
abbrev wayB : En → M Fl := (sSeq (sAsg (.nm 10) (eCall (cN 2 F__law_caught) (eAcons (eVar 9) (eAcons (eVar 2) eAnil)))) (sSeq (sIf (tOr' (tVal (eOp neD (eOp ixD (eVar 10) (eC (.int 0))) (eVar 9))) (tNot' (tVal (eCall (cN 2 F__law_is_same) (eAcons (eOp ixD (eVar 10) (eC (.int 1))) (eAcons (eVar 2) eAnil)))))) (sRet (eC (.bl false))) sNext) (sIf (tVal (eOp neD (eCall (cN 2 F__law_caught_as_base) (eAcons (eVar 9) (eAcons (eVar 3) eAnil))) (eFrz (eLc (eMapI gRange1 (eAcons (eC (.int 15)) eAnil)) (.nm 12) [12] tYes' (eOp eqD (eVar 12) (eVar 9)))))) (sRet (eC (.bl false))) sNext)))
theorem way_loop (a b : Slot) {near far : D} (hn : G 10 near) (e f g h i u11 u12 : Slot) (s : Dk) : ∀ (n k : Nat) (x y : Slot), n + k = 15 → ∃ x' y', Ev (forM' (.nm 9) wayB ((List.range' k n).map fun (c : Nat) => .int (c : Nat)) [a, b, .val near, .val far, e, f, g, h, i, x, y, u11, u12]) s (.nx [a, b, .val near, .val far, e, f, g, h, i, x', y', u11, u12]) s
  | 0, k, x, y, _ => ⟨x, y, ev_for0⟩
  | n + 1, k, x, y, hk => by
    obtain ⟨x', y', h'⟩ := way_loop a b hn e f g h i u11 u12 s n (k + 1) (.val (.int (k : Nat))) (.val (.tup [.int (k : Nat), near])) (by omega)
    refine ⟨x', y', ?_⟩
    rw [List.range'_succ, List.map_cons]
    have kk : k < 15 := by omega
    refine ev_for1 bindP_nm (ev_seq (ev_asgN (ev_call (ev_acons (ev_var rfl) (ev_acons (ev_var rfl) ev_anil)) rfl (caught ⟨k, kk⟩ near s))) (ev_seq (ev_skip (ev_orT (c := false) (ev_tval (ev_op (ev_op (ev_var rfl) ev_c rfl) (ev_var rfl) (ne_same _))) (fun _ => ev_notT (c := true) (ev_tval (ev_call (ev_acons (ev_op (ev_var rfl) ev_c rfl) (ev_acons (ev_var rfl) ev_anil)) rfl (same_ok 10 near hn s)))) (fun h => by cases h))) (ev_skip (ev_tval (ev_op (ev_call (ev_acons (ev_var rfl) (ev_acons (ev_var rfl) ev_anil)) rfl (caught_as_base ⟨k, kk⟩ far s)) (places (i := 12) (j := 9) (c := k) (by simp) (by decide) rfl) ?_))))) h'
    show neD (.lst (Bs k)) (.lst (Bs k)) = _
    rw [Bs_eq]
    exact bls_neD ⟨k, kk⟩
theorem math (s : Dk) (f : s.left.length ≤ 63) : ∃ s', B_law (lawEnv 13) s = .ok (.rt (.bl true)) s' := by
  obtain ⟨near, s1, e1, g1, f1⟩ := any_draw 10 3 s (by decide) f
  obtain ⟨fr, s2, e2, g2, f2⟩ := any_draw 10 2 s1 (by decide) f1
  have gn : G 10 near := G_le (by decide) g1
  have gf : G 10 (.tup [fr]) := G_le (show 7 ≤ 10 by decide) (show G 7 (.tup [fr]) from ⟨by simp, fun x hx => by rw [List.mem_singleton.mp hx]; exact g2⟩)
  have w1 : Ev (sAsg2 [2, 3] (e2val (eCall (cN 2 F__law_any) (eAcons (eVar 1) (eAcons (eC (.int 3)) eAnil))) (e2val (eMapA gTupD (eAcons (eCall (cN 2 F__law_any) (eAcons (eVar 1) (eAcons (eC (.int 2)) eAnil))) eAnil)) e2nil)) (lawEnv 13)) s (.nx [.no, .val .deck, .val near, .val (.tup [fr]), .no, .no, .no, .no, .no, .no, .no, .no, .no]) s2 :=
    ev_asg2 (ev_2val (ev_call (ev_acons (ev_var rfl) (ev_acons ev_c ev_anil)) rfl e1) (ev_2val (ev_mapA (ev_acons (ev_call (ev_acons (ev_var rfl) (ev_acons ev_c ev_anil)) rfl e2) ev_anil) rfl) ev_2nil)) (show 2 ≤ 1000 by decide) rfl
  have w2 : Ev (sAsg2 [4, 5] (e2val (eCall (cN 1 F__law_by_position) (eAcons (eVar 2) eAnil)) (e2val (eCall (cN 1 F__law_by_name) (eAcons (eVar 3) eAnil)) e2nil)) [.no, .val .deck, .val near, .val (.tup [fr]), .no, .no, .no, .no, .no, .no, .no, .no, .no]) s2 (.nx [.no, .val .deck, .val near, .val (.tup [fr]), .val (.lst (Es near)), .val (.lst (Es (.tup [fr]))), .no, .no, .no, .no, .no, .no, .no]) s2 :=
    ev_asg2 (ev_2val (ev_call (ev_acons (ev_var rfl) ev_anil) rfl (by_position near s2)) (ev_2val (ev_call (ev_acons (ev_var rfl) ev_anil) rfl (by_name _ s2)) ev_2nil)) (show 2 ≤ 1000 by decide) rfl
  obtain ⟨x1, y1, l1⟩ := own_loop .no (.val .deck) (.val near) (.val (.tup [fr])) (.val (.lst (Es near))) (.val (.lst (Es (.tup [fr])))) (.val (.lst (Es near))) .no .no .no .no near s2 15 0 .no .no rfl
  obtain ⟨x2, y2, l2⟩ := own_loop .no (.val .deck) (.val near) (.val (.tup [fr])) (.val (.lst (Es near))) (.val (.lst (Es (.tup [fr])))) (.val (.lst (Es (.tup [fr])))) .no .no .no .no (.tup [fr]) s2 15 0 x1 y1 rfl
  rw [← Es_range] at l1 l2
  obtain ⟨x3, y3, l3⟩ := way_loop .no (.val .deck) (near := near) (far := .tup [fr]) gn (.val (.lst (Es near))) (.val (.lst (Es (.tup [fr])))) (.val (.lst (Es (.tup [fr])))) x2 y2 .no .no s2 15 0 .no .no rfl
  have r15 : ((List.range' 0 15).map fun (c : Nat) => D.int (c : Nat)) = rangeD 0 15 := by
    show _ = (List.range 15).map _
    rw [List.range_eq_range']
    exact List.map_congr_left fun k _ => by rw [Int.zero_add]
  rw [r15] at l3
  exact ⟨s2, ev_seq w1 (ev_seq w2 (ev_seq (all_same (m := 0) gn (j := 2) (by show 11 < 13; decide) rfl (by decide) (ev_items (ev_call (ev_acons (ev_var rfl) ev_anil) rfl (carried near s2)) rfl)) (ev_seq (all_same (m := 0) gf (j := 3) (by show 11 < 13; decide) rfl (by decide) (ev_items (ev_call (ev_acons (ev_var rfl) ev_anil) rfl (carried _ s2)) rfl))
    (ev_seq (ev_for (ev_items (ev_mapA (ev_acons (ev_var rfl) (ev_acons (ev_var rfl) ev_anil)) rfl) rfl) (ev_for1 bindP_nm (ev_for (ev_mapI (ev_acons (ev_var rfl) ev_anil) rfl) l1) (ev_for1 bindP_nm (ev_for (ev_mapI (ev_acons (ev_var rfl) ev_anil) rfl) l2) ev_for0)))
    (ev_seq (ev_for (ev_mapI (ev_acons ev_c ev_anil) rfl) l3) (ev_rt ev_c))))))⟩
end K00

end

section
set_option maxRecDepth 100000
set_option maxHeartbeats 4000000
namespace K00
open PySem PySem.Spec PyProof.Rows L2 PV
section
theorem all_mk {w : World} {K : PySem.W.Frag} {h : Heap} {mg : Str → Option Value} {fa : Addr} (X : K.In h) (G : h.Ns mainGlobals mg) (hfa : mg "law" = some (.ref fa))
    {f0 : Addr} {od0 an0 : Option Addr} {sl0 : Array (Option Value)} {oc0 kV0 dc0 pm0 cd0 ct0 : Value}
    (a0 : PySem.W.nsIn K mainGlobals "_law_deck" = some (some (.ref f0))) (l0 : K.lookup f0 = some ⟨oc0, od0, .func (PySem.W.fnOf "_law_deck" "_law_deck" (defArgs s__law_deck) (defBody s__law_deck) (defScope s__law_deck) .none kV0 dc0 pm0 an0 cd0 ct0), sl0⟩) (c0 : PySem.W.codeIn K cd0 "_law_deck" = true) (k0 : PySem.W.keepIn K (.ref f0) = true)
    {f1 : Addr} {od1 an1 : Option Addr} {sl1 : Array (Option Value)} {oc1 kV1 dc1 pm1 cd1 ct1 : Value}
    (a1 : PySem.W.nsIn K mainGlobals "_law_draw" = some (some (.ref f1))) (l1 : K.lookup f1 = some ⟨oc1, od1, .func (PySem.W.fnOf "_law_draw" "_law_draw" (defArgs s__law_draw) (defBody s__law_draw) (defScope s__law_draw) .none kV1 dc1 pm1 an1 cd1 ct1), sl1⟩) (c1 : PySem.W.codeIn K cd1 "_law_draw" = true) (k1 : PySem.W.keepIn K (.ref f1) = true)
    {f2 : Addr} {od2 an2 : Option Addr} {sl2 : Array (Option Value)} {oc2 kV2 dc2 pm2 cd2 ct2 : Value}
    (a2 : PySem.W.nsIn K mainGlobals "_law_kinds" = some (some (.ref f2))) (l2 : K.lookup f2 = some ⟨oc2, od2, .func (PySem.W.fnOf "_law_kinds" "_law_kinds" (defArgs s__law_kinds) (defBody s__law_kinds) (defScope s__law_kinds) .none kV2 dc2 pm2 an2 cd2 ct2), sl2⟩) (c2 : PySem.W.codeIn K cd2 "_law_kinds" = true) (k2 : PySem.W.keepIn K (.ref f2) = true)
    {f3 : Addr} {od3 an3 : Option Addr} {sl3 : Array (Option Value)} {oc3 kV3 dc3 pm3 cd3 ct3 : Value}
    (a3 : PySem.W.nsIn K mainGlobals "_law_carried" = some (some (.ref f3))) (l3 : K.lookup f3 = some ⟨oc3, od3, .func (PySem.W.fnOf "_law_carried" "_law_carried" (defArgs s__law_carried) (defBody s__law_carried) (defScope s__law_carried) .none kV3 dc3 pm3 an3 cd3 ct3), sl3⟩) (c3 : PySem.W.codeIn K cd3 "_law_carried" = true) (k3 : PySem.W.keepIn K (.ref f3) = true)
    {f4 : Addr} {od4 an4 : Option Addr} {sl4 : Array (Option Value)} {oc4 kV4 dc4 pm4 cd4 ct4 : Value}
    (a4 : PySem.W.nsIn K mainGlobals "_law_pick" = some (some (.ref f4))) (l4 : K.lookup f4 = some ⟨oc4, od4, .func (PySem.W.fnOf "_law_pick" "_law_pick" (defArgs s__law_pick) (defBody s__law_pick) (defScope s__law_pick) .none kV4 dc4 pm4 an4 cd4 ct4), sl4⟩) (c4 : PySem.W.codeIn K cd4 "_law_pick" = true) (k4 : PySem.W.keepIn K (.ref f4) = true)
    {f5 : Addr} {od5 an5 : Option Addr} {sl5 : Array (Option Value)} {oc5 kV5 dc5 pm5 cd5 ct5 : Value}
    (a5 : PySem.W.nsIn K mainGlobals "_law_is_own" = some (some (.ref f5))) (l5 : K.lookup f5 = some ⟨oc5, od5, .func (PySem.W.fnOf "_law_is_own" "_law_is_own" (defArgs s__law_is_own) (defBody s__law_is_own) (defScope s__law_is_own) .none kV5 dc5 pm5 an5 cd5 ct5), sl5⟩) (c5 : PySem.W.codeIn K cd5 "_law_is_own" = true) (k5 : PySem.W.keepIn K (.ref f5) = true)
    {f6 : Addr} {od6 an6 : Option Addr} {sl6 : Array (Option Value)} {oc6 kV6 dc6 pm6 cd6 ct6 : Value}
    (a6 : PySem.W.nsIn K mainGlobals "_law_by_position" = some (some (.ref f6))) (l6 : K.lookup f6 = some ⟨oc6, od6, .func (PySem.W.fnOf "_law_by_position" "_law_by_position" (defArgs s__law_by_position) (defBody s__law_by_position) (defScope s__law_by_position) .none kV6 dc6 pm6 an6 cd6 ct6), sl6⟩) (c6 : PySem.W.codeIn K cd6 "_law_by_position" = true) (k6 : PySem.W.keepIn K (.ref f6) = true)
    {f7 : Addr} {od7 an7 : Option Addr} {sl7 : Array (Option Value)} {oc7 kV7 dc7 pm7 cd7 ct7 : Value}
    (a7 : PySem.W.nsIn K mainGlobals "_law_by_name" = some (some (.ref f7))) (l7 : K.lookup f7 = some ⟨oc7, od7, .func (PySem.W.fnOf "_law_by_name" "_law_by_name" (defArgs s__law_by_name) (defBody s__law_by_name) (defScope s__law_by_name) .none kV7 dc7 pm7 an7 cd7 ct7), sl7⟩) (c7 : PySem.W.codeIn K cd7 "_law_by_name" = true) (k7 : PySem.W.keepIn K (.ref f7) = true)
    {f8 : Addr} {od8 an8 : Option Addr} {sl8 : Array (Option Value)} {oc8 kV8 dc8 pm8 cd8 ct8 : Value}
    (a8 : PySem.W.nsIn K mainGlobals "_law_raise" = some (some (.ref f8))) (l8 : K.lookup f8 = some ⟨oc8, od8, .func (PySem.W.fnOf "_law_raise" "_law_raise" (defArgs s__law_raise) (defBody s__law_raise) (defScope s__law_raise) .none kV8 dc8 pm8 an8 cd8 ct8), sl8⟩) (c8 : PySem.W.codeIn K cd8 "_law_raise" = true) (k8 : PySem.W.keepIn K (.ref f8) = true)
    {f9 : Addr} {od9 an9 : Option Addr} {sl9 : Array (Option Value)} {oc9 kV9 dc9 pm9 cd9 ct9 : Value}
    (a9 : PySem.W.nsIn K mainGlobals "_law_caught" = some (some (.ref f9))) (l9 : K.lookup f9 = some ⟨oc9, od9, .func (PySem.W.fnOf "_law_caught" "_law_caught" (defArgs s__law_caught) (defBody s__law_caught) (defScope s__law_caught) .none kV9 dc9 pm9 an9 cd9 ct9), sl9⟩) (c9 : PySem.W.codeIn K cd9 "_law_caught" = true) (k9 : PySem.W.keepIn K (.ref f9) = true)
    {f10 : Addr} {od10 an10 : Option Addr} {sl10 : Array (Option Value)} {oc10 kV10 dc10 pm10 cd10 ct10 : Value}
    (a10 : PySem.W.nsIn K mainGlobals "_law_caught_as_base" = some (some (.ref f10))) (l10 : K.lookup f10 = some ⟨oc10, od10, .func (PySem.W.fnOf "_law_caught_as_base" "_law_caught_as_base" (defArgs s__law_caught_as_base) (defBody s__law_caught_as_base) (defScope s__law_caught_as_base) .none kV10 dc10 pm10 an10 cd10 ct10), sl10⟩) (c10 : PySem.W.codeIn K cd10 "_law_caught_as_base" = true) (k10 : PySem.W.keepIn K (.ref f10) = true)
    {f11 : Addr} {od11 an11 : Option Addr} {sl11 : Array (Option Value)} {oc11 kV11 dc11 pm11 cd11 ct11 : Value}
    (a11 : PySem.W.nsIn K mainGlobals "_law_is_same" = some (some (.ref f11))) (l11 : K.lookup f11 = some ⟨oc11, od11, .func (PySem.W.fnOf "_law_is_same" "_law_is_same" (defArgs s__law_is_same) (defBody s__law_is_same) (defScope s__law_is_same) .none kV11 dc11 pm11 an11 cd11 ct11), sl11⟩) (c11 : PySem.W.codeIn K cd11 "_law_is_same" = true) (k11 : PySem.W.keepIn K (.ref f11) = true)
    {f12 : Addr} {od12 an12 : Option Addr} {sl12 : Array (Option Value)} {oc12 kV12 dc12 pm12 cd12 ct12 : Value}
    (a12 : PySem.W.nsIn K mainGlobals "_law_any" = some (some (.ref f12))) (l12 : K.lookup f12 = some ⟨oc12, od12, .func (PySem.W.fnOf "_law_any" "_law_any" (defArgs s__law_any) (defBody s__law_any) (defScope s__law_any) .none kV12 dc12 pm12 an12 cd12 ct12), sl12⟩) (c12 : PySem.W.codeIn K cd12 "_law_any" = true) (k12 : PySem.W.keepIn K (.ref f12) = true)
    {f13 : Addr} {od13 an13 : Option Addr} {sl13 : Array (Option Value)} {oc13 kV13 dc13 pm13 cd13 ct13 : Value}
    (a13 : PySem.W.nsIn K mainGlobals "law" = some (some (.ref f13))) (l13 : K.lookup f13 = some ⟨oc13, od13, .func (PySem.W.fnOf "law" "law" (defArgs s_law) (defBody s_law) (defScope s_law) .none kV13 dc13 pm13 an13 cd13 ct13), sl13⟩) (c13 : PySem.W.codeIn K cd13 "law" = true) (k13 : PySem.W.keepIn K (.ref f13) = true)
    (z_ArithmeticError : PySem.W.nsIn K mainGlobals "ArithmeticError" = some none)
    (z_AttributeError : PySem.W.nsIn K mainGlobals "AttributeError" = some none)
    (z_Exception : PySem.W.nsIn K mainGlobals "Exception" = some none)
    (z_LookupError : PySem.W.nsIn K mainGlobals "LookupError" = some none)
    (z_RuntimeError : PySem.W.nsIn K mainGlobals "RuntimeError" = some none)
    (z_TypeError : PySem.W.nsIn K mainGlobals "TypeError" = some none)
    (z_ValueError : PySem.W.nsIn K mainGlobals "ValueError" = some none)
    (z_dict : PySem.W.nsIn K mainGlobals "dict" = some none)
    (z_enumerate : PySem.W.nsIn K mainGlobals "enumerate" = some none)
    (z_int : PySem.W.nsIn K mainGlobals "int" = some none)
    (z_isinstance : PySem.W.nsIn K mainGlobals "isinstance" = some none)
    (z_len : PySem.W.nsIn K mainGlobals "len" = some none)
    (z_list : PySem.W.nsIn K mainGlobals "list" = some none)
    (z_max : PySem.W.nsIn K mainGlobals "max" = some none)
    (z_range : PySem.W.nsIn K mainGlobals "range" = some none)
    (z_repr : PySem.W.nsIn K mainGlobals "repr" = some none)
    (z_tuple : PySem.W.nsIn K mainGlobals "tuple" = some none)
    {C_S : Addr} (s_ns : PySem.W.nsIn K mainGlobals "SightError" = some (some (.ref C_S))) (s_cls : (PySem.W.clsIn K C_S).isSome = true) (s_ty : PySem.W.typeIn K (.ref C_S) = some (.type "type"))
    (s_gs : PySem.W.specialIn K (.builtin "object.__class__") "__get__" = some (some (.builtin "getset_descriptor.__get__"))) (s_tk : PySem.W.takesIn K (.builtin "object.__class__") = some true) (s_opq : PySem.W.nsIn K cStatics "thirdparty.any" = some none) (s_top : (P.main.scope.names.lookup ("super" : Str)).isSome = false) (s_sg : PySem.W.nsIn K mainGlobals "super" = some none)
    (s_exC : PySem.W.subIn K (.ref C_S) (.type "BaseException") = some true) (s_hdC : PySem.W.hasDictIn K C_S = true)
    {C0 e0 ecc0 eca0 N0 : Addr} {q0 enm0 equ0 ffl0 emsg0 : Str} {bs0 sub0 : List Value} {sn0 : List Str} {ab0 : Bool} {col0 : Option Bool} {dd0 eod0 ean0 fdd0 gld0 : Option Addr} {ka0 kb0 kc0 kd0 ke0 : Option Value} {eoc0 edv0 ekv0 edo0 epm0 ect0 fcl0 gcl0 : Value} {eos0 fcs0 gsl0 : Array (Option Value)} {epa0 : Arguments} {ebo0 : List Stmt} {esc0 : Scope} {fvs0 : Array Value} {ftf0 : Tok} {ej0 : Nat} {ear0 : Arg} {pa0 pb0 pc0 pd0 pe0 pf0 pg0 ph0 pi0 pj0 : Pos}
    (n10 : PySem.W.nsIn K mainGlobals (errName 0) = some (some (.ref C0)))
    (hC0 : K.lookup C0 = some (excClassObj (errName 0) q0 C0 N0 bs0 [.ref C_S, .type "Exception", .type "BaseException", .type "object"] true sn0 sub0 ab0 col0 dd0 ka0 kb0 kc0 kd0 ke0 "Exception.__new__"))
    (hne0 : (C_S == C0) = false)
    (sa0 : PySem.W.findIn K (.ref C0) "__setattr__" = some (some (.builtin "object.__setattr__")))
    (exC0 : PySem.W.subIn K (.ref C0) (.type "BaseException") = some true)
    (tyC0 : PySem.W.typeIn K (.ref C0) = some (.type "type"))
    (kC0 : PySem.W.keepIn K (.ref C0) = true)
    (ga0 : PySem.W.findIn K (.ref C0) "__getattribute__" = some (some (.builtin "BaseException.__getattribute__")))
    (gg0 : PySem.W.findIn K (.ref C0) "__getattr__" = some none)
    (hdC0 : PySem.W.hasDictIn K C0 = true)
    (cl0 : PySem.W.findIn K (.ref C0) "__class__" = some (some (.builtin "object.__class__")))
    (hm0 : PySem.W.mroIn K C0 (.type "object") = some true)
    (nof0 : PySem.W.findIn K (.ref C0) "thing" = some none)
    (ini0 : PySem.W.findIn K (.ref C0) "__init__" = some (some (.ref e0)))
    (iniT0 : PySem.W.typeIn K (.ref e0) = some (.type "function"))
    (lk0 : K.lookup e0 = some ⟨eoc0, eod0, .func (PySem.W.fnX enm0 equ0 epa0 ebo0 esc0 [("__class__", ecc0)] edv0 ekv0 edo0 epm0 ean0 (.ref eca0) ect0), eos0⟩)
    (code0 : PySem.W.codeIn K (.ref eca0) equ0 = true)
    (hcode0 : K.lookup eca0 = some ⟨fcl0, fdd0, .fields fvs0, fcs0⟩)
    (hvs0 : fvs0[2]? = some (.str ffl0 ftf0))
    (hfile0 : ((P.main.file : Str) == ffl0) = true)
    (hcell0 : K.lookup ecc0 = some ⟨gcl0, gld0, .cell (some (.ref C0)), gsl0⟩)
    (sup0 : PySem.W.ks_superIn K C0 C0 "__init__" = some (some (.builtin "Exception.__init__")))
    (isE0 : PySem.W.subIn K (.ref C0) (.type "Exception") = some true)
    (isC0 : PySem.W.mroIn K C0 (.ref C0) = some true)
    (hbody0 : ebo0 = initBody emsg0 "thing" ej0 pa0 pb0 pc0 pd0 pe0 pf0 pg0 ph0 pi0 pj0)
    (har0 : (epa0.posonlyargs ++ epa0.args).head? = some ear0)
    (harn0 : ear0.arg = "self")
    (sc10 : NdefX.nscB ["self", "thing", "__class__"] ["self", "thing"] ["__class__"] esc0 = true)
    (sc20 : esc0.names.lookup ("super" : Str) = some .globalImplicit)
    (hev0 : EvSup emsg0 ej0 pa0 pb0 pc0 pd0 pe0)
    (hsw0 : ∀ env : Env, swapsWith (.Call (.Attribute (.Call (.Name "super" pa0) [] [] pb0) "__init__" pc0) [.Constant (.str emsg0) ej0 pd0] [] pe0) none pf0.line env = pure false)
    (hsw20 : ∀ env : Env, swapsWith (.Name "thing" pi0) (some (.Attribute (.Name "self" pg0) "thing" ph0)) pj0.line env = pure false)
    (hb0 : ∀ u v : Value, bindArgs (PySem.W.fnX enm0 equ0 epa0 ebo0 esc0 [("__class__", ecc0)] edv0 ekv0 edo0 epm0 ean0 (.ref eca0) ect0) ⟨[u, v], []⟩ = pure [(("self" : Str), u), (("thing" : Str), v)])
    (hkb0 : ∀ u v : Value, bindArgs (PySem.W.fnX enm0 equ0 epa0 ebo0 esc0 [("__class__", ecc0)] edv0 ekv0 edo0 epm0 ean0 (.ref eca0) ect0) ⟨[u], [(("thing" : Str), v)]⟩ = pure [(("self" : Str), u), (("thing" : Str), v)])
    {C1 e1 ecc1 eca1 N1 : Addr} {q1 enm1 equ1 ffl1 emsg1 : Str} {bs1 sub1 : List Value} {sn1 : List Str} {ab1 : Bool} {col1 : Option Bool} {dd1 eod1 ean1 fdd1 gld1 : Option Addr} {ka1 kb1 kc1 kd1 ke1 : Option Value} {eoc1 edv1 ekv1 edo1 epm1 ect1 fcl1 gcl1 : Value} {eos1 fcs1 gsl1 : Array (Option Value)} {epa1 : Arguments} {ebo1 : List Stmt} {esc1 : Scope} {fvs1 : Array Value} {ftf1 : Tok} {ej1 : Nat} {ear1 : Arg} {pa1 pb1 pc1 pd1 pe1 pf1 pg1 ph1 pi1 pj1 : Pos}
    (n11 : PySem.W.nsIn K mainGlobals (errName 1) = some (some (.ref C1)))
    (hC1 : K.lookup C1 = some (excClassObj (errName 1) q1 C1 N1 bs1 [.ref C_S, .type "Exception", .type "BaseException", .type "object"] true sn1 sub1 ab1 col1 dd1 ka1 kb1 kc1 kd1 ke1 "Exception.__new__"))
    (hne1 : (C_S == C1) = false)
    (sa1 : PySem.W.findIn K (.ref C1) "__setattr__" = some (some (.builtin "object.__setattr__")))
    (exC1 : PySem.W.subIn K (.ref C1) (.type "BaseException") = some true)
    (tyC1 : PySem.W.typeIn K (.ref C1) = some (.type "type"))
    (kC1 : PySem.W.keepIn K (.ref C1) = true)
    (ga1 : PySem.W.findIn K (.ref C1) "__getattribute__" = some (some (.builtin "BaseException.__getattribute__")))
    (gg1 : PySem.W.findIn K (.ref C1) "__getattr__" = some none)
    (hdC1 : PySem.W.hasDictIn K C1 = true)
    (cl1 : PySem.W.findIn K (.ref C1) "__class__" = some (some (.builtin "object.__class__")))
    (hm1 : PySem.W.mroIn K C1 (.type "object") = some true)
    (nof1 : PySem.W.findIn K (.ref C1) "thing" = some none)
    (ini1 : PySem.W.findIn K (.ref C1) "__init__" = some (some (.ref e1)))
    (iniT1 : PySem.W.typeIn K (.ref e1) = some (.type "function"))
    (lk1 : K.lookup e1 = some ⟨eoc1, eod1, .func (PySem.W.fnX enm1 equ1 epa1 ebo1 esc1 [("__class__", ecc1)] edv1 ekv1 edo1 epm1 ean1 (.ref eca1) ect1), eos1⟩)
    (code1 : PySem.W.codeIn K (.ref eca1) equ1 = true)
    (hcode1 : K.lookup eca1 = some ⟨fcl1, fdd1, .fields fvs1, fcs1⟩)
    (hvs1 : fvs1[2]? = some (.str ffl1 ftf1))
    (hfile1 : ((P.main.file : Str) == ffl1) = true)
    (hcell1 : K.lookup ecc1 = some ⟨gcl1, gld1, .cell (some (.ref C1)), gsl1⟩)
    (sup1 : PySem.W.ks_superIn K C1 C1 "__init__" = some (some (.builtin "Exception.__init__")))
    (isE1 : PySem.W.subIn K (.ref C1) (.type "Exception") = some true)
    (isC1 : PySem.W.mroIn K C1 (.ref C1) = some true)
    (hbody1 : ebo1 = initBody emsg1 "thing" ej1 pa1 pb1 pc1 pd1 pe1 pf1 pg1 ph1 pi1 pj1)
    (har1 : (epa1.posonlyargs ++ epa1.args).head? = some ear1)
    (harn1 : ear1.arg = "self")
    (sc11 : NdefX.nscB ["self", "thing", "__class__"] ["self", "thing"] ["__class__"] esc1 = true)
    (sc21 : esc1.names.lookup ("super" : Str) = some .globalImplicit)
    (hev1 : EvSup emsg1 ej1 pa1 pb1 pc1 pd1 pe1)
    (hsw1 : ∀ env : Env, swapsWith (.Call (.Attribute (.Call (.Name "super" pa1) [] [] pb1) "__init__" pc1) [.Constant (.str emsg1) ej1 pd1] [] pe1) none pf1.line env = pure false)
    (hsw21 : ∀ env : Env, swapsWith (.Name "thing" pi1) (some (.Attribute (.Name "self" pg1) "thing" ph1)) pj1.line env = pure false)
    (hb1 : ∀ u v : Value, bindArgs (PySem.W.fnX enm1 equ1 epa1 ebo1 esc1 [("__class__", ecc1)] edv1 ekv1 edo1 epm1 ean1 (.ref eca1) ect1) ⟨[u, v], []⟩ = pure [(("self" : Str), u), (("thing" : Str), v)])
    (hkb1 : ∀ u v : Value, bindArgs (PySem.W.fnX enm1 equ1 epa1 ebo1 esc1 [("__class__", ecc1)] edv1 ekv1 edo1 epm1 ean1 (.ref eca1) ect1) ⟨[u], [(("thing" : Str), v)]⟩ = pure [(("self" : Str), u), (("thing" : Str), v)])
    {C2 e2 ecc2 eca2 N2 : Addr} {q2 enm2 equ2 ffl2 emsg2 : Str} {bs2 sub2 : List Value} {sn2 : List Str} {ab2 : Bool} {col2 : Option Bool} {dd2 eod2 ean2 fdd2 gld2 : Option Addr} {ka2 kb2 kc2 kd2 ke2 : Option Value} {eoc2 edv2 ekv2 edo2 epm2 ect2 fcl2 gcl2 : Value} {eos2 fcs2 gsl2 : Array (Option Value)} {epa2 : Arguments} {ebo2 : List Stmt} {esc2 : Scope} {fvs2 : Array Value} {ftf2 : Tok} {ej2 : Nat} {ear2 : Arg} {pa2 pb2 pc2 pd2 pe2 pf2 pg2 ph2 pi2 pj2 : Pos}
    (n12 : PySem.W.nsIn K mainGlobals (errName 2) = some (some (.ref C2)))
    (hC2 : K.lookup C2 = some (excClassObj (errName 2) q2 C2 N2 bs2 [.ref C_S, .type "Exception", .type "BaseException", .type "object"] true sn2 sub2 ab2 col2 dd2 ka2 kb2 kc2 kd2 ke2 "Exception.__new__"))
    (hne2 : (C_S == C2) = false)
    (sa2 : PySem.W.findIn K (.ref C2) "__setattr__" = some (some (.builtin "object.__setattr__")))
    (exC2 : PySem.W.subIn K (.ref C2) (.type "BaseException") = some true)
    (tyC2 : PySem.W.typeIn K (.ref C2) = some (.type "type"))
    (kC2 : PySem.W.keepIn K (.ref C2) = true)
    (ga2 : PySem.W.findIn K (.ref C2) "__getattribute__" = some (some (.builtin "BaseException.__getattribute__")))
    (gg2 : PySem.W.findIn K (.ref C2) "__getattr__" = some none)
    (hdC2 : PySem.W.hasDictIn K C2 = true)
    (cl2 : PySem.W.findIn K (.ref C2) "__class__" = some (some (.builtin "object.__class__")))
    (hm2 : PySem.W.mroIn K C2 (.type "object") = some true)
    (nof2 : PySem.W.findIn K (.ref C2) "thing" = some none)
    (ini2 : PySem.W.findIn K (.ref C2) "__init__" = some (some (.ref e2)))
    (iniT2 : PySem.W.typeIn K (.ref e2) = some (.type "function"))
    (lk2 : K.lookup e2 = some ⟨eoc2, eod2, .func (PySem.W.fnX enm2 equ2 epa2 ebo2 esc2 [("__class__", ecc2)] edv2 ekv2 edo2 epm2 ean2 (.ref eca2) ect2), eos2⟩)
    (code2 : PySem.W.codeIn K (.ref eca2) equ2 = true)
    (hcode2 : K.lookup eca2 = some ⟨fcl2, fdd2, .fields fvs2, fcs2⟩)
    (hvs2 : fvs2[2]? = some (.str ffl2 ftf2))
    (hfile2 : ((P.main.file : Str) == ffl2) = true)
    (hcell2 : K.lookup ecc2 = some ⟨gcl2, gld2, .cell (some (.ref C2)), gsl2⟩)
    (sup2 : PySem.W.ks_superIn K C2 C2 "__init__" = some (some (.builtin "Exception.__init__")))
    (isE2 : PySem.W.subIn K (.ref C2) (.type "Exception") = some true)
    (isC2 : PySem.W.mroIn K C2 (.ref C2) = some true)
    (hbody2 : ebo2 = initBody emsg2 "thing" ej2 pa2 pb2 pc2 pd2 pe2 pf2 pg2 ph2 pi2 pj2)
    (har2 : (epa2.posonlyargs ++ epa2.args).head? = some ear2)
    (harn2 : ear2.arg = "self")
    (sc12 : NdefX.nscB ["self", "thing", "__class__"] ["self", "thing"] ["__class__"] esc2 = true)
    (sc22 : esc2.names.lookup ("super" : Str) = some .globalImplicit)
    (hev2 : EvSup emsg2 ej2 pa2 pb2 pc2 pd2 pe2)
    (hsw2 : ∀ env : Env, swapsWith (.Call (.Attribute (.Call (.Name "super" pa2) [] [] pb2) "__init__" pc2) [.Constant (.str emsg2) ej2 pd2] [] pe2) none pf2.line env = pure false)
    (hsw22 : ∀ env : Env, swapsWith (.Name "thing" pi2) (some (.Attribute (.Name "self" pg2) "thing" ph2)) pj2.line env = pure false)
    (hb2 : ∀ u v : Value, bindArgs (PySem.W.fnX enm2 equ2 epa2 ebo2 esc2 [("__class__", ecc2)] edv2 ekv2 edo2 epm2 ean2 (.ref eca2) ect2) ⟨[u, v], []⟩ = pure [(("self" : Str), u), (("thing" : Str), v)])
    (hkb2 : ∀ u v : Value, bindArgs (PySem.W.fnX enm2 equ2 epa2 ebo2 esc2 [("__class__", ecc2)] edv2 ekv2 edo2 epm2 ean2 (.ref eca2) ect2) ⟨[u], [(("thing" : Str), v)]⟩ = pure [(("self" : Str), u), (("thing" : Str), v)])
    {C3 e3 ecc3 eca3 N3 : Addr} {q3 enm3 equ3 ffl3 emsg3 : Str} {bs3 sub3 : List Value} {sn3 : List Str} {ab3 : Bool} {col3 : Option Bool} {dd3 eod3 ean3 fdd3 gld3 : Option Addr} {ka3 kb3 kc3 kd3 ke3 : Option Value} {eoc3 edv3 ekv3 edo3 epm3 ect3 fcl3 gcl3 : Value} {eos3 fcs3 gsl3 : Array (Option Value)} {epa3 : Arguments} {ebo3 : List Stmt} {esc3 : Scope} {fvs3 : Array Value} {ftf3 : Tok} {ej3 : Nat} {ear3 : Arg} {pa3 pb3 pc3 pd3 pe3 pf3 pg3 ph3 pi3 pj3 : Pos}
    (n13 : PySem.W.nsIn K mainGlobals (errName 3) = some (some (.ref C3)))
    (hC3 : K.lookup C3 = some (excClassObj (errName 3) q3 C3 N3 bs3 [.ref C_S, .type "Exception", .type "BaseException", .type "object"] true sn3 sub3 ab3 col3 dd3 ka3 kb3 kc3 kd3 ke3 "Exception.__new__"))
    (hne3 : (C_S == C3) = false)
    (sa3 : PySem.W.findIn K (.ref C3) "__setattr__" = some (some (.builtin "object.__setattr__")))
    (exC3 : PySem.W.subIn K (.ref C3) (.type "BaseException") = some true)
    (tyC3 : PySem.W.typeIn K (.ref C3) = some (.type "type"))
    (kC3 : PySem.W.keepIn K (.ref C3) = true)
    (ga3 : PySem.W.findIn K (.ref C3) "__getattribute__" = some (some (.builtin "BaseException.__getattribute__")))
    (gg3 : PySem.W.findIn K (.ref C3) "__getattr__" = some none)
    (hdC3 : PySem.W.hasDictIn K C3 = true)
    (cl3 : PySem.W.findIn K (.ref C3) "__class__" = some (some (.builtin "object.__class__")))
    (hm3 : PySem.W.mroIn K C3 (.type "object") = some true)
    (nof3 : PySem.W.findIn K (.ref C3) "thing" = some none)
    (ini3 : PySem.W.findIn K (.ref C3) "__init__" = some (some (.ref e3)))
    (iniT3 : PySem.W.typeIn K (.ref e3) = some (.type "function"))
    (lk3 : K.lookup e3 = some ⟨eoc3, eod3, .func (PySem.W.fnX enm3 equ3 epa3 ebo3 esc3 [("__class__", ecc3)] edv3 ekv3 edo3 epm3 ean3 (.ref eca3) ect3), eos3⟩)
    (code3 : PySem.W.codeIn K (.ref eca3) equ3 = true)
    (hcode3 : K.lookup eca3 = some ⟨fcl3, fdd3, .fields fvs3, fcs3⟩)
    (hvs3 : fvs3[2]? = some (.str ffl3 ftf3))
    (hfile3 : ((P.main.file : Str) == ffl3) = true)
    (hcell3 : K.lookup ecc3 = some ⟨gcl3, gld3, .cell (some (.ref C3)), gsl3⟩)
    (sup3 : PySem.W.ks_superIn K C3 C3 "__init__" = some (some (.builtin "Exception.__init__")))
    (isE3 : PySem.W.subIn K (.ref C3) (.type "Exception") = some true)
    (isC3 : PySem.W.mroIn K C3 (.ref C3) = some true)
    (hbody3 : ebo3 = initBody emsg3 "thing" ej3 pa3 pb3 pc3 pd3 pe3 pf3 pg3 ph3 pi3 pj3)
    (har3 : (epa3.posonlyargs ++ epa3.args).head? = some ear3)
    (harn3 : ear3.arg = "self")
    (sc13 : NdefX.nscB ["self", "thing", "__class__"] ["self", "thing"] ["__class__"] esc3 = true)
    (sc23 : esc3.names.lookup ("super" : Str) = some .globalImplicit)
    (hev3 : EvSup emsg3 ej3 pa3 pb3 pc3 pd3 pe3)
    (hsw3 : ∀ env : Env, swapsWith (.Call (.Attribute (.Call (.Name "super" pa3) [] [] pb3) "__init__" pc3) [.Constant (.str emsg3) ej3 pd3] [] pe3) none pf3.line env = pure false)
    (hsw23 : ∀ env : Env, swapsWith (.Name "thing" pi3) (some (.Attribute (.Name "self" pg3) "thing" ph3)) pj3.line env = pure false)
    (hb3 : ∀ u v : Value, bindArgs (PySem.W.fnX enm3 equ3 epa3 ebo3 esc3 [("__class__", ecc3)] edv3 ekv3 edo3 epm3 ean3 (.ref eca3) ect3) ⟨[u, v], []⟩ = pure [(("self" : Str), u), (("thing" : Str), v)])
    (hkb3 : ∀ u v : Value, bindArgs (PySem.W.fnX enm3 equ3 epa3 ebo3 esc3 [("__class__", ecc3)] edv3 ekv3 edo3 epm3 ean3 (.ref eca3) ect3) ⟨[u], [(("thing" : Str), v)]⟩ = pure [(("self" : Str), u), (("thing" : Str), v)])
    {C4 e4 ecc4 eca4 N4 : Addr} {q4 enm4 equ4 ffl4 emsg4 : Str} {bs4 sub4 : List Value} {sn4 : List Str} {ab4 : Bool} {col4 : Option Bool} {dd4 eod4 ean4 fdd4 gld4 : Option Addr} {ka4 kb4 kc4 kd4 ke4 : Option Value} {eoc4 edv4 ekv4 edo4 epm4 ect4 fcl4 gcl4 : Value} {eos4 fcs4 gsl4 : Array (Option Value)} {epa4 : Arguments} {ebo4 : List Stmt} {esc4 : Scope} {fvs4 : Array Value} {ftf4 : Tok} {ej4 : Nat} {ear4 : Arg} {pa4 pb4 pc4 pd4 pe4 pf4 pg4 ph4 pi4 pj4 : Pos}
    (n14 : PySem.W.nsIn K mainGlobals (errName 4) = some (some (.ref C4)))
    (hC4 : K.lookup C4 = some (excClassObj (errName 4) q4 C4 N4 bs4 [.ref C_S, .type "Exception", .type "BaseException", .type "object"] true sn4 sub4 ab4 col4 dd4 ka4 kb4 kc4 kd4 ke4 "Exception.__new__"))
    (hne4 : (C_S == C4) = false)
    (sa4 : PySem.W.findIn K (.ref C4) "__setattr__" = some (some (.builtin "object.__setattr__")))
    (exC4 : PySem.W.subIn K (.ref C4) (.type "BaseException") = some true)
    (tyC4 : PySem.W.typeIn K (.ref C4) = some (.type "type"))
    (kC4 : PySem.W.keepIn K (.ref C4) = true)
    (ga4 : PySem.W.findIn K (.ref C4) "__getattribute__" = some (some (.builtin "BaseException.__getattribute__")))
    (gg4 : PySem.W.findIn K (.ref C4) "__getattr__" = some none)
    (hdC4 : PySem.W.hasDictIn K C4 = true)
    (cl4 : PySem.W.findIn K (.ref C4) "__class__" = some (some (.builtin "object.__class__")))
    (hm4 : PySem.W.mroIn K C4 (.type "object") = some true)
    (nof4 : PySem.W.findIn K (.ref C4) "thing" = some none)
    (ini4 : PySem.W.findIn K (.ref C4) "__init__" = some (some (.ref e4)))
    (iniT4 : PySem.W.typeIn K (.ref e4) = some (.type "function"))
    (lk4 : K.lookup e4 = some ⟨eoc4, eod4, .func (PySem.W.fnX enm4 equ4 epa4 ebo4 esc4 [("__class__", ecc4)] edv4 ekv4 edo4 epm4 ean4 (.ref eca4) ect4), eos4⟩)
    (code4 : PySem.W.codeIn K (.ref eca4) equ4 = true)
    (hcode4 : K.lookup eca4 = some ⟨fcl4, fdd4, .fields fvs4, fcs4⟩)
    (hvs4 : fvs4[2]? = some (.str ffl4 ftf4))
    (hfile4 : ((P.main.file : Str) == ffl4) = true)
    (hcell4 : K.lookup ecc4 = some ⟨gcl4, gld4, .cell (some (.ref C4)), gsl4⟩)
    (sup4 : PySem.W.ks_superIn K C4 C4 "__init__" = some (some (.builtin "Exception.__init__")))
    (isE4 : PySem.W.subIn K (.ref C4) (.type "Exception") = some true)
    (isC4 : PySem.W.mroIn K C4 (.ref C4) = some true)
    (hbody4 : ebo4 = initBody emsg4 "thing" ej4 pa4 pb4 pc4 pd4 pe4 pf4 pg4 ph4 pi4 pj4)
    (har4 : (epa4.posonlyargs ++ epa4.args).head? = some ear4)
    (harn4 : ear4.arg = "self")
    (sc14 : NdefX.nscB ["self", "thing", "__class__"] ["self", "thing"] ["__class__"] esc4 = true)
    (sc24 : esc4.names.lookup ("super" : Str) = some .globalImplicit)
    (hev4 : EvSup emsg4 ej4 pa4 pb4 pc4 pd4 pe4)
    (hsw4 : ∀ env : Env, swapsWith (.Call (.Attribute (.Call (.Name "super" pa4) [] [] pb4) "__init__" pc4) [.Constant (.str emsg4) ej4 pd4] [] pe4) none pf4.line env = pure false)
    (hsw24 : ∀ env : Env, swapsWith (.Name "thing" pi4) (some (.Attribute (.Name "self" pg4) "thing" ph4)) pj4.line env = pure false)
    (hb4 : ∀ u v : Value, bindArgs (PySem.W.fnX enm4 equ4 epa4 ebo4 esc4 [("__class__", ecc4)] edv4 ekv4 edo4 epm4 ean4 (.ref eca4) ect4) ⟨[u, v], []⟩ = pure [(("self" : Str), u), (("thing" : Str), v)])
    (hkb4 : ∀ u v : Value, bindArgs (PySem.W.fnX enm4 equ4 epa4 ebo4 esc4 [("__class__", ecc4)] edv4 ekv4 edo4 epm4 ean4 (.ref eca4) ect4) ⟨[u], [(("thing" : Str), v)]⟩ = pure [(("self" : Str), u), (("thing" : Str), v)])
    {C5 e5 ecc5 eca5 N5 : Addr} {q5 enm5 equ5 ffl5 emsg5 : Str} {bs5 sub5 : List Value} {sn5 : List Str} {ab5 : Bool} {col5 : Option Bool} {dd5 eod5 ean5 fdd5 gld5 : Option Addr} {ka5 kb5 kc5 kd5 ke5 : Option Value} {eoc5 edv5 ekv5 edo5 epm5 ect5 fcl5 gcl5 : Value} {eos5 fcs5 gsl5 : Array (Option Value)} {epa5 : Arguments} {ebo5 : List Stmt} {esc5 : Scope} {fvs5 : Array Value} {ftf5 : Tok} {ej5 : Nat} {ear5 : Arg} {pa5 pb5 pc5 pd5 pe5 pf5 pg5 ph5 pi5 pj5 : Pos}
    (n15 : PySem.W.nsIn K mainGlobals (errName 5) = some (some (.ref C5)))
    (hC5 : K.lookup C5 = some (excClassObj (errName 5) q5 C5 N5 bs5 [.ref C_S, .type "Exception", .type "BaseException", .type "object"] true sn5 sub5 ab5 col5 dd5 ka5 kb5 kc5 kd5 ke5 "Exception.__new__"))
    (hne5 : (C_S == C5) = false)
    (sa5 : PySem.W.findIn K (.ref C5) "__setattr__" = some (some (.builtin "object.__setattr__")))
    (exC5 : PySem.W.subIn K (.ref C5) (.type "BaseException") = some true)
    (tyC5 : PySem.W.typeIn K (.ref C5) = some (.type "type"))
    (kC5 : PySem.W.keepIn K (.ref C5) = true)
    (ga5 : PySem.W.findIn K (.ref C5) "__getattribute__" = some (some (.builtin "BaseException.__getattribute__")))
    (gg5 : PySem.W.findIn K (.ref C5) "__getattr__" = some none)
    (hdC5 : PySem.W.hasDictIn K C5 = true)
    (cl5 : PySem.W.findIn K (.ref C5) "__class__" = some (some (.builtin "object.__class__")))
    (hm5 : PySem.W.mroIn K C5 (.type "object") = some true)
    (nof5 : PySem.W.findIn K (.ref C5) "thing" = some none)
    (ini5 : PySem.W.findIn K (.ref C5) "__init__" = some (some (.ref e5)))
    (iniT5 : PySem.W.typeIn K (.ref e5) = some (.type "function"))
    (lk5 : K.lookup e5 = some ⟨eoc5, eod5, .func (PySem.W.fnX enm5 equ5 epa5 ebo5 esc5 [("__class__", ecc5)] edv5 ekv5 edo5 epm5 ean5 (.ref eca5) ect5), eos5⟩)
    (code5 : PySem.W.codeIn K (.ref eca5) equ5 = true)
    (hcode5 : K.lookup eca5 = some ⟨fcl5, fdd5, .fields fvs5, fcs5⟩)
    (hvs5 : fvs5[2]? = some (.str ffl5 ftf5))
    (hfile5 : ((P.main.file : Str) == ffl5) = true)
    (hcell5 : K.lookup ecc5 = some ⟨gcl5, gld5, .cell (some (.ref C5)), gsl5⟩)
    (sup5 : PySem.W.ks_superIn K C5 C5 "__init__" = some (some (.builtin "Exception.__init__")))
    (isE5 : PySem.W.subIn K (.ref C5) (.type "Exception") = some true)
    (isC5 : PySem.W.mroIn K C5 (.ref C5) = some true)
    (hbody5 : ebo5 = initBody emsg5 "thing" ej5 pa5 pb5 pc5 pd5 pe5 pf5 pg5 ph5 pi5 pj5)
    (har5 : (epa5.posonlyargs ++ epa5.args).head? = some ear5)
    (harn5 : ear5.arg = "self")
    (sc15 : NdefX.nscB ["self", "thing", "__class__"] ["self", "thing"] ["__class__"] esc5 = true)
    (sc25 : esc5.names.lookup ("super" : Str) = some .globalImplicit)
    (hev5 : EvSup emsg5 ej5 pa5 pb5 pc5 pd5 pe5)
    (hsw5 : ∀ env : Env, swapsWith (.Call (.Attribute (.Call (.Name "super" pa5) [] [] pb5) "__init__" pc5) [.Constant (.str emsg5) ej5 pd5] [] pe5) none pf5.line env = pure false)
    (hsw25 : ∀ env : Env, swapsWith (.Name "thing" pi5) (some (.Attribute (.Name "self" pg5) "thing" ph5)) pj5.line env = pure false)
    (hb5 : ∀ u v : Value, bindArgs (PySem.W.fnX enm5 equ5 epa5 ebo5 esc5 [("__class__", ecc5)] edv5 ekv5 edo5 epm5 ean5 (.ref eca5) ect5) ⟨[u, v], []⟩ = pure [(("self" : Str), u), (("thing" : Str), v)])
    (hkb5 : ∀ u v : Value, bindArgs (PySem.W.fnX enm5 equ5 epa5 ebo5 esc5 [("__class__", ecc5)] edv5 ekv5 edo5 epm5 ean5 (.ref eca5) ect5) ⟨[u], [(("thing" : Str), v)]⟩ = pure [(("self" : Str), u), (("thing" : Str), v)])
    {C6 e6 ecc6 eca6 N6 : Addr} {q6 enm6 equ6 ffl6 emsg6 : Str} {bs6 sub6 : List Value} {sn6 : List Str} {ab6 : Bool} {col6 : Option Bool} {dd6 eod6 ean6 fdd6 gld6 : Option Addr} {ka6 kb6 kc6 kd6 ke6 : Option Value} {eoc6 edv6 ekv6 edo6 epm6 ect6 fcl6 gcl6 : Value} {eos6 fcs6 gsl6 : Array (Option Value)} {epa6 : Arguments} {ebo6 : List Stmt} {esc6 : Scope} {fvs6 : Array Value} {ftf6 : Tok} {ej6 : Nat} {ear6 : Arg} {pa6 pb6 pc6 pd6 pe6 pf6 pg6 ph6 pi6 pj6 : Pos}
    (n16 : PySem.W.nsIn K mainGlobals (errName 6) = some (some (.ref C6)))
    (hC6 : K.lookup C6 = some (excClassObj (errName 6) q6 C6 N6 bs6 [.ref C_S, .type "Exception", .type "BaseException", .type "object"] true sn6 sub6 ab6 col6 dd6 ka6 kb6 kc6 kd6 ke6 "Exception.__new__"))
    (hne6 : (C_S == C6) = false)
    (sa6 : PySem.W.findIn K (.ref C6) "__setattr__" = some (some (.builtin "object.__setattr__")))
    (exC6 : PySem.W.subIn K (.ref C6) (.type "BaseException") = some true)
    (tyC6 : PySem.W.typeIn K (.ref C6) = some (.type "type"))
    (kC6 : PySem.W.keepIn K (.ref C6) = true)
    (ga6 : PySem.W.findIn K (.ref C6) "__getattribute__" = some (some (.builtin "BaseException.__getattribute__")))
    (gg6 : PySem.W.findIn K (.ref C6) "__getattr__" = some none)
    (hdC6 : PySem.W.hasDictIn K C6 = true)
    (cl6 : PySem.W.findIn K (.ref C6) "__class__" = some (some (.builtin "object.__class__")))
    (hm6 : PySem.W.mroIn K C6 (.type "object") = some true)
    (nof6 : PySem.W.findIn K (.ref C6) "thing" = some none)
    (ini6 : PySem.W.findIn K (.ref C6) "__init__" = some (some (.ref e6)))
    (iniT6 : PySem.W.typeIn K (.ref e6) = some (.type "function"))
    (lk6 : K.lookup e6 = some ⟨eoc6, eod6, .func (PySem.W.fnX enm6 equ6 epa6 ebo6 esc6 [("__class__", ecc6)] edv6 ekv6 edo6 epm6 ean6 (.ref eca6) ect6), eos6⟩)
    (code6 : PySem.W.codeIn K (.ref eca6) equ6 = true)
    (hcode6 : K.lookup eca6 = some ⟨fcl6, fdd6, .fields fvs6, fcs6⟩)
    (hvs6 : fvs6[2]? = some (.str ffl6 ftf6))
    (hfile6 : ((P.main.file : Str) == ffl6) = true)
    (hcell6 : K.lookup ecc6 = some ⟨gcl6, gld6, .cell (some (.ref C6)), gsl6⟩)
    (sup6 : PySem.W.ks_superIn K C6 C6 "__init__" = some (some (.builtin "Exception.__init__")))
    (isE6 : PySem.W.subIn K (.ref C6) (.type "Exception") = some true)
    (isC6 : PySem.W.mroIn K C6 (.ref C6) = some true)
    (hbody6 : ebo6 = initBody emsg6 "thing" ej6 pa6 pb6 pc6 pd6 pe6 pf6 pg6 ph6 pi6 pj6)
    (har6 : (epa6.posonlyargs ++ epa6.args).head? = some ear6)
    (harn6 : ear6.arg = "self")
    (sc16 : NdefX.nscB ["self", "thing", "__class__"] ["self", "thing"] ["__class__"] esc6 = true)
    (sc26 : esc6.names.lookup ("super" : Str) = some .globalImplicit)
    (hev6 : EvSup emsg6 ej6 pa6 pb6 pc6 pd6 pe6)
    (hsw6 : ∀ env : Env, swapsWith (.Call (.Attribute (.Call (.Name "super" pa6) [] [] pb6) "__init__" pc6) [.Constant (.str emsg6) ej6 pd6] [] pe6) none pf6.line env = pure false)
    (hsw26 : ∀ env : Env, swapsWith (.Name "thing" pi6) (some (.Attribute (.Name "self" pg6) "thing" ph6)) pj6.line env = pure false)
    (hb6 : ∀ u v : Value, bindArgs (PySem.W.fnX enm6 equ6 epa6 ebo6 esc6 [("__class__", ecc6)] edv6 ekv6 edo6 epm6 ean6 (.ref eca6) ect6) ⟨[u, v], []⟩ = pure [(("self" : Str), u), (("thing" : Str), v)])
    (hkb6 : ∀ u v : Value, bindArgs (PySem.W.fnX enm6 equ6 epa6 ebo6 esc6 [("__class__", ecc6)] edv6 ekv6 edo6 epm6 ean6 (.ref eca6) ect6) ⟨[u], [(("thing" : Str), v)]⟩ = pure [(("self" : Str), u), (("thing" : Str), v)])
    {C7 e7 ecc7 eca7 N7 : Addr} {q7 enm7 equ7 ffl7 emsg7 : Str} {bs7 sub7 : List Value} {sn7 : List Str} {ab7 : Bool} {col7 : Option Bool} {dd7 eod7 ean7 fdd7 gld7 : Option Addr} {ka7 kb7 kc7 kd7 ke7 : Option Value} {eoc7 edv7 ekv7 edo7 epm7 ect7 fcl7 gcl7 : Value} {eos7 fcs7 gsl7 : Array (Option Value)} {epa7 : Arguments} {ebo7 : List Stmt} {esc7 : Scope} {fvs7 : Array Value} {ftf7 : Tok} {ej7 : Nat} {ear7 : Arg} {pa7 pb7 pc7 pd7 pe7 pf7 pg7 ph7 pi7 pj7 : Pos}
    (n17 : PySem.W.nsIn K mainGlobals (errName 7) = some (some (.ref C7)))
    (hC7 : K.lookup C7 = some (excClassObj (errName 7) q7 C7 N7 bs7 [.ref C_S, .type "Exception", .type "BaseException", .type "object"] true sn7 sub7 ab7 col7 dd7 ka7 kb7 kc7 kd7 ke7 "Exception.__new__"))
    (hne7 : (C_S == C7) = false)
    (sa7 : PySem.W.findIn K (.ref C7) "__setattr__" = some (some (.builtin "object.__setattr__")))
    (exC7 : PySem.W.subIn K (.ref C7) (.type "BaseException") = some true)
    (tyC7 : PySem.W.typeIn K (.ref C7) = some (.type "type"))
    (kC7 : PySem.W.keepIn K (.ref C7) = true)
    (ga7 : PySem.W.findIn K (.ref C7) "__getattribute__" = some (some (.builtin "BaseException.__getattribute__")))
    (gg7 : PySem.W.findIn K (.ref C7) "__getattr__" = some none)
    (hdC7 : PySem.W.hasDictIn K C7 = true)
    (cl7 : PySem.W.findIn K (.ref C7) "__class__" = some (some (.builtin "object.__class__")))
    (hm7 : PySem.W.mroIn K C7 (.type "object") = some true)
    (nof7 : PySem.W.findIn K (.ref C7) "thing" = some none)
    (ini7 : PySem.W.findIn K (.ref C7) "__init__" = some (some (.ref e7)))
    (iniT7 : PySem.W.typeIn K (.ref e7) = some (.type "function"))
    (lk7 : K.lookup e7 = some ⟨eoc7, eod7, .func (PySem.W.fnX enm7 equ7 epa7 ebo7 esc7 [("__class__", ecc7)] edv7 ekv7 edo7 epm7 ean7 (.ref eca7) ect7), eos7⟩)
    (code7 : PySem.W.codeIn K (.ref eca7) equ7 = true)
    (hcode7 : K.lookup eca7 = some ⟨fcl7, fdd7, .fields fvs7, fcs7⟩)
    (hvs7 : fvs7[2]? = some (.str ffl7 ftf7))
    (hfile7 : ((P.main.file : Str) == ffl7) = true)
    (hcell7 : K.lookup ecc7 = some ⟨gcl7, gld7, .cell (some (.ref C7)), gsl7⟩)
    (sup7 : PySem.W.ks_superIn K C7 C7 "__init__" = some (some (.builtin "Exception.__init__")))
    (isE7 : PySem.W.subIn K (.ref C7) (.type "Exception") = some true)
    (isC7 : PySem.W.mroIn K C7 (.ref C7) = some true)
    (hbody7 : ebo7 = initBody emsg7 "thing" ej7 pa7 pb7 pc7 pd7 pe7 pf7 pg7 ph7 pi7 pj7)
    (har7 : (epa7.posonlyargs ++ epa7.args).head? = some ear7)
    (harn7 : ear7.arg = "self")
    (sc17 : NdefX.nscB ["self", "thing", "__class__"] ["self", "thing"] ["__class__"] esc7 = true)
    (sc27 : esc7.names.lookup ("super" : Str) = some .globalImplicit)
    (hev7 : EvSup emsg7 ej7 pa7 pb7 pc7 pd7 pe7)
    (hsw7 : ∀ env : Env, swapsWith (.Call (.Attribute (.Call (.Name "super" pa7) [] [] pb7) "__init__" pc7) [.Constant (.str emsg7) ej7 pd7] [] pe7) none pf7.line env = pure false)
    (hsw27 : ∀ env : Env, swapsWith (.Name "thing" pi7) (some (.Attribute (.Name "self" pg7) "thing" ph7)) pj7.line env = pure false)
    (hb7 : ∀ u v : Value, bindArgs (PySem.W.fnX enm7 equ7 epa7 ebo7 esc7 [("__class__", ecc7)] edv7 ekv7 edo7 epm7 ean7 (.ref eca7) ect7) ⟨[u, v], []⟩ = pure [(("self" : Str), u), (("thing" : Str), v)])
    (hkb7 : ∀ u v : Value, bindArgs (PySem.W.fnX enm7 equ7 epa7 ebo7 esc7 [("__class__", ecc7)] edv7 ekv7 edo7 epm7 ean7 (.ref eca7) ect7) ⟨[u], [(("thing" : Str), v)]⟩ = pure [(("self" : Str), u), (("thing" : Str), v)])
    {C8 e8 ecc8 eca8 N8 : Addr} {q8 enm8 equ8 ffl8 emsg8 : Str} {bs8 sub8 : List Value} {sn8 : List Str} {ab8 : Bool} {col8 : Option Bool} {dd8 eod8 ean8 fdd8 gld8 : Option Addr} {ka8 kb8 kc8 kd8 ke8 : Option Value} {eoc8 edv8 ekv8 edo8 epm8 ect8 fcl8 gcl8 : Value} {eos8 fcs8 gsl8 : Array (Option Value)} {epa8 : Arguments} {ebo8 : List Stmt} {esc8 : Scope} {fvs8 : Array Value} {ftf8 : Tok} {ej8 : Nat} {ear8 : Arg} {pa8 pb8 pc8 pd8 pe8 pf8 pg8 ph8 pi8 pj8 : Pos}
    (n18 : PySem.W.nsIn K mainGlobals (errName 8) = some (some (.ref C8)))
    (hC8 : K.lookup C8 = some (excClassObj (errName 8) q8 C8 N8 bs8 [.ref C_S, .type "Exception", .type "BaseException", .type "object"] true sn8 sub8 ab8 col8 dd8 ka8 kb8 kc8 kd8 ke8 "Exception.__new__"))
    (hne8 : (C_S == C8) = false)
    (sa8 : PySem.W.findIn K (.ref C8) "__setattr__" = some (some (.builtin "object.__setattr__")))
    (exC8 : PySem.W.subIn K (.ref C8) (.type "BaseException") = some true)
    (tyC8 : PySem.W.typeIn K (.ref C8) = some (.type "type"))
    (kC8 : PySem.W.keepIn K (.ref C8) = true)
    (ga8 : PySem.W.findIn K (.ref C8) "__getattribute__" = some (some (.builtin "BaseException.__getattribute__")))
    (gg8 : PySem.W.findIn K (.ref C8) "__getattr__" = some none)
    (hdC8 : PySem.W.hasDictIn K C8 = true)
    (cl8 : PySem.W.findIn K (.ref C8) "__class__" = some (some (.builtin "object.__class__")))
    (hm8 : PySem.W.mroIn K C8 (.type "object") = some true)
    (nof8 : PySem.W.findIn K (.ref C8) "thing" = some none)
    (ini8 : PySem.W.findIn K (.ref C8) "__init__" = some (some (.ref e8)))
    (iniT8 : PySem.W.typeIn K (.ref e8) = some (.type "function"))
    (lk8 : K.lookup e8 = some ⟨eoc8, eod8, .func (PySem.W.fnX enm8 equ8 epa8 ebo8 esc8 [("__class__", ecc8)] edv8 ekv8 edo8 epm8 ean8 (.ref eca8) ect8), eos8⟩)
    (code8 : PySem.W.codeIn K (.ref eca8) equ8 = true)
    (hcode8 : K.lookup eca8 = some ⟨fcl8, fdd8, .fields fvs8, fcs8⟩)
    (hvs8 : fvs8[2]? = some (.str ffl8 ftf8))
    (hfile8 : ((P.main.file : Str) == ffl8) = true)
    (hcell8 : K.lookup ecc8 = some ⟨gcl8, gld8, .cell (some (.ref C8)), gsl8⟩)
    (sup8 : PySem.W.ks_superIn K C8 C8 "__init__" = some (some (.builtin "Exception.__init__")))
    (isE8 : PySem.W.subIn K (.ref C8) (.type "Exception") = some true)
    (isC8 : PySem.W.mroIn K C8 (.ref C8) = some true)
    (hbody8 : ebo8 = initBody emsg8 "thing" ej8 pa8 pb8 pc8 pd8 pe8 pf8 pg8 ph8 pi8 pj8)
    (har8 : (epa8.posonlyargs ++ epa8.args).head? = some ear8)
    (harn8 : ear8.arg = "self")
    (sc18 : NdefX.nscB ["self", "thing", "__class__"] ["self", "thing"] ["__class__"] esc8 = true)
    (sc28 : esc8.names.lookup ("super" : Str) = some .globalImplicit)
    (hev8 : EvSup emsg8 ej8 pa8 pb8 pc8 pd8 pe8)
    (hsw8 : ∀ env : Env, swapsWith (.Call (.Attribute (.Call (.Name "super" pa8) [] [] pb8) "__init__" pc8) [.Constant (.str emsg8) ej8 pd8] [] pe8) none pf8.line env = pure false)
    (hsw28 : ∀ env : Env, swapsWith (.Name "thing" pi8) (some (.Attribute (.Name "self" pg8) "thing" ph8)) pj8.line env = pure false)
    (hb8 : ∀ u v : Value, bindArgs (PySem.W.fnX enm8 equ8 epa8 ebo8 esc8 [("__class__", ecc8)] edv8 ekv8 edo8 epm8 ean8 (.ref eca8) ect8) ⟨[u, v], []⟩ = pure [(("self" : Str), u), (("thing" : Str), v)])
    (hkb8 : ∀ u v : Value, bindArgs (PySem.W.fnX enm8 equ8 epa8 ebo8 esc8 [("__class__", ecc8)] edv8 ekv8 edo8 epm8 ean8 (.ref eca8) ect8) ⟨[u], [(("thing" : Str), v)]⟩ = pure [(("self" : Str), u), (("thing" : Str), v)])
    {C9 e9 ecc9 eca9 N9 : Addr} {q9 enm9 equ9 ffl9 emsg9 : Str} {bs9 sub9 : List Value} {sn9 : List Str} {ab9 : Bool} {col9 : Option Bool} {dd9 eod9 ean9 fdd9 gld9 : Option Addr} {ka9 kb9 kc9 kd9 ke9 : Option Value} {eoc9 edv9 ekv9 edo9 epm9 ect9 fcl9 gcl9 : Value} {eos9 fcs9 gsl9 : Array (Option Value)} {epa9 : Arguments} {ebo9 : List Stmt} {esc9 : Scope} {fvs9 : Array Value} {ftf9 : Tok} {ej9 : Nat} {ear9 : Arg} {pa9 pb9 pc9 pd9 pe9 pf9 pg9 ph9 pi9 pj9 : Pos}
    (n19 : PySem.W.nsIn K mainGlobals (errName 9) = some (some (.ref C9)))
    (hC9 : K.lookup C9 = some (excClassObj (errName 9) q9 C9 N9 bs9 [.ref C_S, .type "Exception", .type "BaseException", .type "object"] true sn9 sub9 ab9 col9 dd9 ka9 kb9 kc9 kd9 ke9 "Exception.__new__"))
    (hne9 : (C_S == C9) = false)
    (sa9 : PySem.W.findIn K (.ref C9) "__setattr__" = some (some (.builtin "object.__setattr__")))
    (exC9 : PySem.W.subIn K (.ref C9) (.type "BaseException") = some true)
    (tyC9 : PySem.W.typeIn K (.ref C9) = some (.type "type"))
    (kC9 : PySem.W.keepIn K (.ref C9) = true)
    (ga9 : PySem.W.findIn K (.ref C9) "__getattribute__" = some (some (.builtin "BaseException.__getattribute__")))
    (gg9 : PySem.W.findIn K (.ref C9) "__getattr__" = some none)
    (hdC9 : PySem.W.hasDictIn K C9 = true)
    (cl9 : PySem.W.findIn K (.ref C9) "__class__" = some (some (.builtin "object.__class__")))
    (hm9 : PySem.W.mroIn K C9 (.type "object") = some true)
    (nof9 : PySem.W.findIn K (.ref C9) "thing" = some none)
    (ini9 : PySem.W.findIn K (.ref C9) "__init__" = some (some (.ref e9)))
    (iniT9 : PySem.W.typeIn K (.ref e9) = some (.type "function"))
    (lk9 : K.lookup e9 = some ⟨eoc9, eod9, .func (PySem.W.fnX enm9 equ9 epa9 ebo9 esc9 [("__class__", ecc9)] edv9 ekv9 edo9 epm9 ean9 (.ref eca9) ect9), eos9⟩)
    (code9 : PySem.W.codeIn K (.ref eca9) equ9 = true)
    (hcode9 : K.lookup eca9 = some ⟨fcl9, fdd9, .fields fvs9, fcs9⟩)
    (hvs9 : fvs9[2]? = some (.str ffl9 ftf9))
    (hfile9 : ((P.main.file : Str) == ffl9) = true)
    (hcell9 : K.lookup ecc9 = some ⟨gcl9, gld9, .cell (some (.ref C9)), gsl9⟩)
    (sup9 : PySem.W.ks_superIn K C9 C9 "__init__" = some (some (.builtin "Exception.__init__")))
    (isE9 : PySem.W.subIn K (.ref C9) (.type "Exception") = some true)
    (isC9 : PySem.W.mroIn K C9 (.ref C9) = some true)
    (hbody9 : ebo9 = initBody emsg9 "thing" ej9 pa9 pb9 pc9 pd9 pe9 pf9 pg9 ph9 pi9 pj9)
    (har9 : (epa9.posonlyargs ++ epa9.args).head? = some ear9)
    (harn9 : ear9.arg = "self")
    (sc19 : NdefX.nscB ["self", "thing", "__class__"] ["self", "thing"] ["__class__"] esc9 = true)
    (sc29 : esc9.names.lookup ("super" : Str) = some .globalImplicit)
    (hev9 : EvSup emsg9 ej9 pa9 pb9 pc9 pd9 pe9)
    (hsw9 : ∀ env : Env, swapsWith (.Call (.Attribute (.Call (.Name "super" pa9) [] [] pb9) "__init__" pc9) [.Constant (.str emsg9) ej9 pd9] [] pe9) none pf9.line env = pure false)
    (hsw29 : ∀ env : Env, swapsWith (.Name "thing" pi9) (some (.Attribute (.Name "self" pg9) "thing" ph9)) pj9.line env = pure false)
    (hb9 : ∀ u v : Value, bindArgs (PySem.W.fnX enm9 equ9 epa9 ebo9 esc9 [("__class__", ecc9)] edv9 ekv9 edo9 epm9 ean9 (.ref eca9) ect9) ⟨[u, v], []⟩ = pure [(("self" : Str), u), (("thing" : Str), v)])
    (hkb9 : ∀ u v : Value, bindArgs (PySem.W.fnX enm9 equ9 epa9 ebo9 esc9 [("__class__", ecc9)] edv9 ekv9 edo9 epm9 ean9 (.ref eca9) ect9) ⟨[u], [(("thing" : Str), v)]⟩ = pure [(("self" : Str), u), (("thing" : Str), v)])
    {C10 e10 ecc10 eca10 N10 : Addr} {q10 enm10 equ10 ffl10 emsg10 : Str} {bs10 sub10 : List Value} {sn10 : List Str} {ab10 : Bool} {col10 : Option Bool} {dd10 eod10 ean10 fdd10 gld10 : Option Addr} {ka10 kb10 kc10 kd10 ke10 : Option Value} {eoc10 edv10 ekv10 edo10 epm10 ect10 fcl10 gcl10 : Value} {eos10 fcs10 gsl10 : Array (Option Value)} {epa10 : Arguments} {ebo10 : List Stmt} {esc10 : Scope} {fvs10 : Array Value} {ftf10 : Tok} {ej10 : Nat} {ear10 : Arg} {pa10 pb10 pc10 pd10 pe10 pf10 pg10 ph10 pi10 pj10 : Pos}
    (n110 : PySem.W.nsIn K mainGlobals (errName 10) = some (some (.ref C10)))
    (hC10 : K.lookup C10 = some (excClassObj (errName 10) q10 C10 N10 bs10 [.ref C_S, .type "Exception", .type "BaseException", .type "object"] true sn10 sub10 ab10 col10 dd10 ka10 kb10 kc10 kd10 ke10 "Exception.__new__"))
    (hne10 : (C_S == C10) = false)
    (sa10 : PySem.W.findIn K (.ref C10) "__setattr__" = some (some (.builtin "object.__setattr__")))
    (exC10 : PySem.W.subIn K (.ref C10) (.type "BaseException") = some true)
    (tyC10 : PySem.W.typeIn K (.ref C10) = some (.type "type"))
    (kC10 : PySem.W.keepIn K (.ref C10) = true)
    (ga10 : PySem.W.findIn K (.ref C10) "__getattribute__" = some (some (.builtin "BaseException.__getattribute__")))
    (gg10 : PySem.W.findIn K (.ref C10) "__getattr__" = some none)
    (hdC10 : PySem.W.hasDictIn K C10 = true)
    (cl10 : PySem.W.findIn K (.ref C10) "__class__" = some (some (.builtin "object.__class__")))
    (hm10 : PySem.W.mroIn K C10 (.type "object") = some true)
    (nof10 : PySem.W.findIn K (.ref C10) "thing" = some none)
    (ini10 : PySem.W.findIn K (.ref C10) "__init__" = some (some (.ref e10)))
    (iniT10 : PySem.W.typeIn K (.ref e10) = some (.type "function"))
    (lk10 : K.lookup e10 = some ⟨eoc10, eod10, .func (PySem.W.fnX enm10 equ10 epa10 ebo10 esc10 [("__class__", ecc10)] edv10 ekv10 edo10 epm10 ean10 (.ref eca10) ect10), eos10⟩)
    (code10 : PySem.W.codeIn K (.ref eca10) equ10 = true)
    (hcode10 : K.lookup eca10 = some ⟨fcl10, fdd10, .fields fvs10, fcs10⟩)
    (hvs10 : fvs10[2]? = some (.str ffl10 ftf10))
    (hfile10 : ((P.main.file : Str) == ffl10) = true)
    (hcell10 : K.lookup ecc10 = some ⟨gcl10, gld10, .cell (some (.ref C10)), gsl10⟩)
    (sup10 : PySem.W.ks_superIn K C10 C10 "__init__" = some (some (.builtin "Exception.__init__")))
    (isE10 : PySem.W.subIn K (.ref C10) (.type "Exception") = some true)
    (isC10 : PySem.W.mroIn K C10 (.ref C10) = some true)
    (hbody10 : ebo10 = initBody emsg10 "thing" ej10 pa10 pb10 pc10 pd10 pe10 pf10 pg10 ph10 pi10 pj10)
    (har10 : (epa10.posonlyargs ++ epa10.args).head? = some ear10)
    (harn10 : ear10.arg = "self")
    (sc110 : NdefX.nscB ["self", "thing", "__class__"] ["self", "thing"] ["__class__"] esc10 = true)
    (sc210 : esc10.names.lookup ("super" : Str) = some .globalImplicit)
    (hev10 : EvSup emsg10 ej10 pa10 pb10 pc10 pd10 pe10)
    (hsw10 : ∀ env : Env, swapsWith (.Call (.Attribute (.Call (.Name "super" pa10) [] [] pb10) "__init__" pc10) [.Constant (.str emsg10) ej10 pd10] [] pe10) none pf10.line env = pure false)
    (hsw210 : ∀ env : Env, swapsWith (.Name "thing" pi10) (some (.Attribute (.Name "self" pg10) "thing" ph10)) pj10.line env = pure false)
    (hb10 : ∀ u v : Value, bindArgs (PySem.W.fnX enm10 equ10 epa10 ebo10 esc10 [("__class__", ecc10)] edv10 ekv10 edo10 epm10 ean10 (.ref eca10) ect10) ⟨[u, v], []⟩ = pure [(("self" : Str), u), (("thing" : Str), v)])
    (hkb10 : ∀ u v : Value, bindArgs (PySem.W.fnX enm10 equ10 epa10 ebo10 esc10 [("__class__", ecc10)] edv10 ekv10 edo10 epm10 ean10 (.ref eca10) ect10) ⟨[u], [(("thing" : Str), v)]⟩ = pure [(("self" : Str), u), (("thing" : Str), v)])
    {C11 e11 ecc11 eca11 N11 : Addr} {q11 enm11 equ11 ffl11 emsg11 : Str} {bs11 sub11 : List Value} {sn11 : List Str} {ab11 : Bool} {col11 : Option Bool} {dd11 eod11 ean11 fdd11 gld11 : Option Addr} {ka11 kb11 kc11 kd11 ke11 : Option Value} {eoc11 edv11 ekv11 edo11 epm11 ect11 fcl11 gcl11 : Value} {eos11 fcs11 gsl11 : Array (Option Value)} {epa11 : Arguments} {ebo11 : List Stmt} {esc11 : Scope} {fvs11 : Array Value} {ftf11 : Tok} {ej11 : Nat} {ear11 : Arg} {pa11 pb11 pc11 pd11 pe11 pf11 pg11 ph11 pi11 pj11 : Pos}
    (n111 : PySem.W.nsIn K mainGlobals (errName 11) = some (some (.ref C11)))
    (hC11 : K.lookup C11 = some (excClassObj (errName 11) q11 C11 N11 bs11 [.ref C_S, .type "Exception", .type "BaseException", .type "object"] true sn11 sub11 ab11 col11 dd11 ka11 kb11 kc11 kd11 ke11 "Exception.__new__"))
    (hne11 : (C_S == C11) = false)
    (sa11 : PySem.W.findIn K (.ref C11) "__setattr__" = some (some (.builtin "object.__setattr__")))
    (exC11 : PySem.W.subIn K (.ref C11) (.type "BaseException") = some true)
    (tyC11 : PySem.W.typeIn K (.ref C11) = some (.type "type"))
    (kC11 : PySem.W.keepIn K (.ref C11) = true)
    (ga11 : PySem.W.findIn K (.ref C11) "__getattribute__" = some (some (.builtin "BaseException.__getattribute__")))
    (gg11 : PySem.W.findIn K (.ref C11) "__getattr__" = some none)
    (hdC11 : PySem.W.hasDictIn K C11 = true)
    (cl11 : PySem.W.findIn K (.ref C11) "__class__" = some (some (.builtin "object.__class__")))
    (hm11 : PySem.W.mroIn K C11 (.type "object") = some true)
    (nof11 : PySem.W.findIn K (.ref C11) "thing" = some none)
    (ini11 : PySem.W.findIn K (.ref C11) "__init__" = some (some (.ref e11)))
    (iniT11 : PySem.W.typeIn K (.ref e11) = some (.type "function"))
    (lk11 : K.lookup e11 = some ⟨eoc11, eod11, .func (PySem.W.fnX enm11 equ11 epa11 ebo11 esc11 [("__class__", ecc11)] edv11 ekv11 edo11 epm11 ean11 (.ref eca11) ect11), eos11⟩)
    (code11 : PySem.W.codeIn K (.ref eca11) equ11 = true)
    (hcode11 : K.lookup eca11 = some ⟨fcl11, fdd11, .fields fvs11, fcs11⟩)
    (hvs11 : fvs11[2]? = some (.str ffl11 ftf11))
    (hfile11 : ((P.main.file : Str) == ffl11) = true)
    (hcell11 : K.lookup ecc11 = some ⟨gcl11, gld11, .cell (some (.ref C11)), gsl11⟩)
    (sup11 : PySem.W.ks_superIn K C11 C11 "__init__" = some (some (.builtin "Exception.__init__")))
    (isE11 : PySem.W.subIn K (.ref C11) (.type "Exception") = some true)
    (isC11 : PySem.W.mroIn K C11 (.ref C11) = some true)
    (hbody11 : ebo11 = initBody emsg11 "thing" ej11 pa11 pb11 pc11 pd11 pe11 pf11 pg11 ph11 pi11 pj11)
    (har11 : (epa11.posonlyargs ++ epa11.args).head? = some ear11)
    (harn11 : ear11.arg = "self")
    (sc111 : NdefX.nscB ["self", "thing", "__class__"] ["self", "thing"] ["__class__"] esc11 = true)
    (sc211 : esc11.names.lookup ("super" : Str) = some .globalImplicit)
    (hev11 : EvSup emsg11 ej11 pa11 pb11 pc11 pd11 pe11)
    (hsw11 : ∀ env : Env, swapsWith (.Call (.Attribute (.Call (.Name "super" pa11) [] [] pb11) "__init__" pc11) [.Constant (.str emsg11) ej11 pd11] [] pe11) none pf11.line env = pure false)
    (hsw211 : ∀ env : Env, swapsWith (.Name "thing" pi11) (some (.Attribute (.Name "self" pg11) "thing" ph11)) pj11.line env = pure false)
    (hb11 : ∀ u v : Value, bindArgs (PySem.W.fnX enm11 equ11 epa11 ebo11 esc11 [("__class__", ecc11)] edv11 ekv11 edo11 epm11 ean11 (.ref eca11) ect11) ⟨[u, v], []⟩ = pure [(("self" : Str), u), (("thing" : Str), v)])
    (hkb11 : ∀ u v : Value, bindArgs (PySem.W.fnX enm11 equ11 epa11 ebo11 esc11 [("__class__", ecc11)] edv11 ekv11 edo11 epm11 ean11 (.ref eca11) ect11) ⟨[u], [(("thing" : Str), v)]⟩ = pure [(("self" : Str), u), (("thing" : Str), v)])
    {C12 e12 ecc12 eca12 N12 : Addr} {q12 enm12 equ12 ffl12 emsg12 : Str} {bs12 sub12 : List Value} {sn12 : List Str} {ab12 : Bool} {col12 : Option Bool} {dd12 eod12 ean12 fdd12 gld12 : Option Addr} {ka12 kb12 kc12 kd12 ke12 : Option Value} {eoc12 edv12 ekv12 edo12 epm12 ect12 fcl12 gcl12 : Value} {eos12 fcs12 gsl12 : Array (Option Value)} {epa12 : Arguments} {ebo12 : List Stmt} {esc12 : Scope} {fvs12 : Array Value} {ftf12 : Tok} {ej12 : Nat} {ear12 : Arg} {pa12 pb12 pc12 pd12 pe12 pf12 pg12 ph12 pi12 pj12 : Pos}
    (n112 : PySem.W.nsIn K mainGlobals (errName 12) = some (some (.ref C12)))
    (hC12 : K.lookup C12 = some (excClassObj (errName 12) q12 C12 N12 bs12 [.ref C_S, .type "Exception", .type "BaseException", .type "object"] true sn12 sub12 ab12 col12 dd12 ka12 kb12 kc12 kd12 ke12 "Exception.__new__"))
    (hne12 : (C_S == C12) = false)
    (sa12 : PySem.W.findIn K (.ref C12) "__setattr__" = some (some (.builtin "object.__setattr__")))
    (exC12 : PySem.W.subIn K (.ref C12) (.type "BaseException") = some true)
    (tyC12 : PySem.W.typeIn K (.ref C12) = some (.type "type"))
    (kC12 : PySem.W.keepIn K (.ref C12) = true)
    (ga12 : PySem.W.findIn K (.ref C12) "__getattribute__" = some (some (.builtin "BaseException.__getattribute__")))
    (gg12 : PySem.W.findIn K (.ref C12) "__getattr__" = some none)
    (hdC12 : PySem.W.hasDictIn K C12 = true)
    (cl12 : PySem.W.findIn K (.ref C12) "__class__" = some (some (.builtin "object.__class__")))
    (hm12 : PySem.W.mroIn K C12 (.type "object") = some true)
    (nof12 : PySem.W.findIn K (.ref C12) "thing" = some none)
    (ini12 : PySem.W.findIn K (.ref C12) "__init__" = some (some (.ref e12)))
    (iniT12 : PySem.W.typeIn K (.ref e12) = some (.type "function"))
    (lk12 : K.lookup e12 = some ⟨eoc12, eod12, .func (PySem.W.fnX enm12 equ12 epa12 ebo12 esc12 [("__class__", ecc12)] edv12 ekv12 edo12 epm12 ean12 (.ref eca12) ect12), eos12⟩)
    (code12 : PySem.W.codeIn K (.ref eca12) equ12 = true)
    (hcode12 : K.lookup eca12 = some ⟨fcl12, fdd12, .fields fvs12, fcs12⟩)
    (hvs12 : fvs12[2]? = some (.str ffl12 ftf12))
    (hfile12 : ((P.main.file : Str) == ffl12) = true)
    (hcell12 : K.lookup ecc12 = some ⟨gcl12, gld12, .cell (some (.ref C12)), gsl12⟩)
    (sup12 : PySem.W.ks_superIn K C12 C12 "__init__" = some (some (.builtin "Exception.__init__")))
    (isE12 : PySem.W.subIn K (.ref C12) (.type "Exception") = some true)
    (isC12 : PySem.W.mroIn K C12 (.ref C12) = some true)
    (hbody12 : ebo12 = initBody emsg12 "thing" ej12 pa12 pb12 pc12 pd12 pe12 pf12 pg12 ph12 pi12 pj12)
    (har12 : (epa12.posonlyargs ++ epa12.args).head? = some ear12)
    (harn12 : ear12.arg = "self")
    (sc112 : NdefX.nscB ["self", "thing", "__class__"] ["self", "thing"] ["__class__"] esc12 = true)
    (sc212 : esc12.names.lookup ("super" : Str) = some .globalImplicit)
    (hev12 : EvSup emsg12 ej12 pa12 pb12 pc12 pd12 pe12)
    (hsw12 : ∀ env : Env, swapsWith (.Call (.Attribute (.Call (.Name "super" pa12) [] [] pb12) "__init__" pc12) [.Constant (.str emsg12) ej12 pd12] [] pe12) none pf12.line env = pure false)
    (hsw212 : ∀ env : Env, swapsWith (.Name "thing" pi12) (some (.Attribute (.Name "self" pg12) "thing" ph12)) pj12.line env = pure false)
    (hb12 : ∀ u v : Value, bindArgs (PySem.W.fnX enm12 equ12 epa12 ebo12 esc12 [("__class__", ecc12)] edv12 ekv12 edo12 epm12 ean12 (.ref eca12) ect12) ⟨[u, v], []⟩ = pure [(("self" : Str), u), (("thing" : Str), v)])
    (hkb12 : ∀ u v : Value, bindArgs (PySem.W.fnX enm12 equ12 epa12 ebo12 esc12 [("__class__", ecc12)] edv12 ekv12 edo12 epm12 ean12 (.ref eca12) ect12) ⟨[u], [(("thing" : Str), v)]⟩ = pure [(("self" : Str), u), (("thing" : Str), v)])
    {C13 e13 ecc13 eca13 N13 : Addr} {q13 enm13 equ13 ffl13 emsg13 : Str} {bs13 sub13 : List Value} {sn13 : List Str} {ab13 : Bool} {col13 : Option Bool} {dd13 eod13 ean13 fdd13 gld13 : Option Addr} {ka13 kb13 kc13 kd13 ke13 : Option Value} {eoc13 edv13 ekv13 edo13 epm13 ect13 fcl13 gcl13 : Value} {eos13 fcs13 gsl13 : Array (Option Value)} {epa13 : Arguments} {ebo13 : List Stmt} {esc13 : Scope} {fvs13 : Array Value} {ftf13 : Tok} {ej13 : Nat} {ear13 : Arg} {pa13 pb13 pc13 pd13 pe13 pf13 pg13 ph13 pi13 pj13 : Pos}
    (n113 : PySem.W.nsIn K mainGlobals (errName 13) = some (some (.ref C13)))
    (hC13 : K.lookup C13 = some (excClassObj (errName 13) q13 C13 N13 bs13 [.ref C_S, .type "Exception", .type "BaseException", .type "object"] true sn13 sub13 ab13 col13 dd13 ka13 kb13 kc13 kd13 ke13 "Exception.__new__"))
    (hne13 : (C_S == C13) = false)
    (sa13 : PySem.W.findIn K (.ref C13) "__setattr__" = some (some (.builtin "object.__setattr__")))
    (exC13 : PySem.W.subIn K (.ref C13) (.type "BaseException") = some true)
    (tyC13 : PySem.W.typeIn K (.ref C13) = some (.type "type"))
    (kC13 : PySem.W.keepIn K (.ref C13) = true)
    (ga13 : PySem.W.findIn K (.ref C13) "__getattribute__" = some (some (.builtin "BaseException.__getattribute__")))
    (gg13 : PySem.W.findIn K (.ref C13) "__getattr__" = some none)
    (hdC13 : PySem.W.hasDictIn K C13 = true)
    (cl13 : PySem.W.findIn K (.ref C13) "__class__" = some (some (.builtin "object.__class__")))
    (hm13 : PySem.W.mroIn K C13 (.type "object") = some true)
    (nof13 : PySem.W.findIn K (.ref C13) "thing" = some none)
    (ini13 : PySem.W.findIn K (.ref C13) "__init__" = some (some (.ref e13)))
    (iniT13 : PySem.W.typeIn K (.ref e13) = some (.type "function"))
    (lk13 : K.lookup e13 = some ⟨eoc13, eod13, .func (PySem.W.fnX enm13 equ13 epa13 ebo13 esc13 [("__class__", ecc13)] edv13 ekv13 edo13 epm13 ean13 (.ref eca13) ect13), eos13⟩)
    (code13 : PySem.W.codeIn K (.ref eca13) equ13 = true)
    (hcode13 : K.lookup eca13 = some ⟨fcl13, fdd13, .fields fvs13, fcs13⟩)
    (hvs13 : fvs13[2]? = some (.str ffl13 ftf13))
    (hfile13 : ((P.main.file : Str) == ffl13) = true)
    (hcell13 : K.lookup ecc13 = some ⟨gcl13, gld13, .cell (some (.ref C13)), gsl13⟩)
    (sup13 : PySem.W.ks_superIn K C13 C13 "__init__" = some (some (.builtin "Exception.__init__")))
    (isE13 : PySem.W.subIn K (.ref C13) (.type "Exception") = some true)
    (isC13 : PySem.W.mroIn K C13 (.ref C13) = some true)
    (hbody13 : ebo13 = initBody emsg13 "thing" ej13 pa13 pb13 pc13 pd13 pe13 pf13 pg13 ph13 pi13 pj13)
    (har13 : (epa13.posonlyargs ++ epa13.args).head? = some ear13)
    (harn13 : ear13.arg = "self")
    (sc113 : NdefX.nscB ["self", "thing", "__class__"] ["self", "thing"] ["__class__"] esc13 = true)
    (sc213 : esc13.names.lookup ("super" : Str) = some .globalImplicit)
    (hev13 : EvSup emsg13 ej13 pa13 pb13 pc13 pd13 pe13)
    (hsw13 : ∀ env : Env, swapsWith (.Call (.Attribute (.Call (.Name "super" pa13) [] [] pb13) "__init__" pc13) [.Constant (.str emsg13) ej13 pd13] [] pe13) none pf13.line env = pure false)
    (hsw213 : ∀ env : Env, swapsWith (.Name "thing" pi13) (some (.Attribute (.Name "self" pg13) "thing" ph13)) pj13.line env = pure false)
    (hb13 : ∀ u v : Value, bindArgs (PySem.W.fnX enm13 equ13 epa13 ebo13 esc13 [("__class__", ecc13)] edv13 ekv13 edo13 epm13 ean13 (.ref eca13) ect13) ⟨[u, v], []⟩ = pure [(("self" : Str), u), (("thing" : Str), v)])
    (hkb13 : ∀ u v : Value, bindArgs (PySem.W.fnX enm13 equ13 epa13 ebo13 esc13 [("__class__", ecc13)] edv13 ekv13 edo13 epm13 ean13 (.ref eca13) ect13) ⟨[u], [(("thing" : Str), v)]⟩ = pure [(("self" : Str), u), (("thing" : Str), v)])
    {C14 e14 ecc14 eca14 N14 : Addr} {q14 enm14 equ14 ffl14 emsg14 : Str} {bs14 sub14 : List Value} {sn14 : List Str} {ab14 : Bool} {col14 : Option Bool} {dd14 eod14 ean14 fdd14 gld14 : Option Addr} {ka14 kb14 kc14 kd14 ke14 : Option Value} {eoc14 edv14 ekv14 edo14 epm14 ect14 fcl14 gcl14 : Value} {eos14 fcs14 gsl14 : Array (Option Value)} {epa14 : Arguments} {ebo14 : List Stmt} {esc14 : Scope} {fvs14 : Array Value} {ftf14 : Tok} {ej14 : Nat} {ear14 : Arg} {pa14 pb14 pc14 pd14 pe14 pf14 pg14 ph14 pi14 pj14 : Pos}
    (n114 : PySem.W.nsIn K mainGlobals (errName 14) = some (some (.ref C14)))
    (hC14 : K.lookup C14 = some (excClassObj (errName 14) q14 C14 N14 bs14 [.ref C_S, .type "Exception", .type "BaseException", .type "object"] true sn14 sub14 ab14 col14 dd14 ka14 kb14 kc14 kd14 ke14 "Exception.__new__"))
    (hne14 : (C_S == C14) = false)
    (sa14 : PySem.W.findIn K (.ref C14) "__setattr__" = some (some (.builtin "object.__setattr__")))
    (exC14 : PySem.W.subIn K (.ref C14) (.type "BaseException") = some true)
    (tyC14 : PySem.W.typeIn K (.ref C14) = some (.type "type"))
    (kC14 : PySem.W.keepIn K (.ref C14) = true)
    (ga14 : PySem.W.findIn K (.ref C14) "__getattribute__" = some (some (.builtin "BaseException.__getattribute__")))
    (gg14 : PySem.W.findIn K (.ref C14) "__getattr__" = some none)
    (hdC14 : PySem.W.hasDictIn K C14 = true)
    (cl14 : PySem.W.findIn K (.ref C14) "__class__" = some (some (.builtin "object.__class__")))
    (hm14 : PySem.W.mroIn K C14 (.type "object") = some true)
    (nof14 : PySem.W.findIn K (.ref C14) "certificate" = some none)
    (ini14 : PySem.W.findIn K (.ref C14) "__init__" = some (some (.ref e14)))
    (iniT14 : PySem.W.typeIn K (.ref e14) = some (.type "function"))
    (lk14 : K.lookup e14 = some ⟨eoc14, eod14, .func (PySem.W.fnX enm14 equ14 epa14 ebo14 esc14 [("__class__", ecc14)] edv14 ekv14 edo14 epm14 ean14 (.ref eca14) ect14), eos14⟩)
    (code14 : PySem.W.codeIn K (.ref eca14) equ14 = true)
    (hcode14 : K.lookup eca14 = some ⟨fcl14, fdd14, .fields fvs14, fcs14⟩)
    (hvs14 : fvs14[2]? = some (.str ffl14 ftf14))
    (hfile14 : ((P.main.file : Str) == ffl14) = true)
    (hcell14 : K.lookup ecc14 = some ⟨gcl14, gld14, .cell (some (.ref C14)), gsl14⟩)
    (sup14 : PySem.W.ks_superIn K C14 C14 "__init__" = some (some (.builtin "Exception.__init__")))
    (isE14 : PySem.W.subIn K (.ref C14) (.type "Exception") = some true)
    (isC14 : PySem.W.mroIn K C14 (.ref C14) = some true)
    (hbody14 : ebo14 = initBody emsg14 "certificate" ej14 pa14 pb14 pc14 pd14 pe14 pf14 pg14 ph14 pi14 pj14)
    (har14 : (epa14.posonlyargs ++ epa14.args).head? = some ear14)
    (harn14 : ear14.arg = "self")
    (sc114 : NdefX.nscB ["self", "certificate", "__class__"] ["self", "certificate"] ["__class__"] esc14 = true)
    (sc214 : esc14.names.lookup ("super" : Str) = some .globalImplicit)
    (hev14 : EvSup emsg14 ej14 pa14 pb14 pc14 pd14 pe14)
    (hsw14 : ∀ env : Env, swapsWith (.Call (.Attribute (.Call (.Name "super" pa14) [] [] pb14) "__init__" pc14) [.Constant (.str emsg14) ej14 pd14] [] pe14) none pf14.line env = pure false)
    (hsw214 : ∀ env : Env, swapsWith (.Name "certificate" pi14) (some (.Attribute (.Name "self" pg14) "certificate" ph14)) pj14.line env = pure false)
    (hb14 : ∀ u v : Value, bindArgs (PySem.W.fnX enm14 equ14 epa14 ebo14 esc14 [("__class__", ecc14)] edv14 ekv14 edo14 epm14 ean14 (.ref eca14) ect14) ⟨[u, v], []⟩ = pure [(("self" : Str), u), (("certificate" : Str), v)])
    (hkb14 : ∀ u v : Value, bindArgs (PySem.W.fnX enm14 equ14 epa14 ebo14 esc14 [("__class__", ecc14)] edv14 ekv14 edo14 epm14 ean14 (.ref eca14) ect14) ⟨[u], [(("certificate" : Str), v)]⟩ = pure [(("self" : Str), u), (("certificate" : Str), v)])
    (math : ∀ s : Dk, s.left.length ≤ 63 → ∃ s', B_law (lawEnv 13) s = .ok (.rt (.bl true)) s') :
    ∃ fd : FuncData, (∀ (s : Shared) (v : Value), BindsTo s fd ⟨[v], []⟩ [("script", v)]) ∧ ∀ base : Heap, K.In base → base.Ns mainGlobals mg → FnG P w K mg base 14 fa fd ["script"] (spLaw K) := by
  have e := hfa.symm.trans (PySem.W.mg_of X G a13)
  cases e
  have T : Σ' T : Txt K mg, T.a_law = fa ∧ T.d_law = PySem.W.fnOf "law" "law" (defArgs s_law) (defBody s_law) (defScope s_law) .none kV13 dc13 pm13 an13 cd13 ct13 := ⟨{
    b_ArithmeticError := PySem.W.mg_none_of X G z_ArithmeticError
    b_AttributeError := PySem.W.mg_none_of X G z_AttributeError
    b_Exception := PySem.W.mg_none_of X G z_Exception
    b_LookupError := PySem.W.mg_none_of X G z_LookupError
    b_RuntimeError := PySem.W.mg_none_of X G z_RuntimeError
    b_TypeError := PySem.W.mg_none_of X G z_TypeError
    b_ValueError := PySem.W.mg_none_of X G z_ValueError
    b_dict := PySem.W.mg_none_of X G z_dict
    b_enumerate := PySem.W.mg_none_of X G z_enumerate
    b_int := PySem.W.mg_none_of X G z_int
    b_isinstance := PySem.W.mg_none_of X G z_isinstance
    b_len := PySem.W.mg_none_of X G z_len
    b_list := PySem.W.mg_none_of X G z_list
    b_max := PySem.W.mg_none_of X G z_max
    b_range := PySem.W.mg_none_of X G z_range
    b_repr := PySem.W.mg_none_of X G z_repr
    b_tuple := PySem.W.mg_none_of X G z_tuple
    C_SightError := C_S
    e_SightError := ⟨s_ns, PySem.W.mg_of X G s_ns, s_cls, s_ty⟩
    x_SightError := ⟨s_exC, s_hdC⟩
    C_BadShape := C0
    e_BadShape := err_mk (c := 0) X G (by decide) n10 s_ns hC0 hne0 sa0 exC0 tyC0 kC0 ga0 gg0 hdC0 cl0 s_gs s_tk hm0 nof0 ini0 iniT0 lk0 code0 hcode0 hvs0 hfile0 hcell0 sup0 isE0 isC0 s_opq s_top s_sg hbody0 har0 harn0 sc10 sc20 hev0 hsw0 hsw20 hb0 hkb0
    C_BadModulus := C1
    e_BadModulus := err_mk (c := 1) X G (by decide) n11 s_ns hC1 hne1 sa1 exC1 tyC1 kC1 ga1 gg1 hdC1 cl1 s_gs s_tk hm1 nof1 ini1 iniT1 lk1 code1 hcode1 hvs1 hfile1 hcell1 sup1 isE1 isC1 s_opq s_top s_sg hbody1 har1 harn1 sc11 sc21 hev1 hsw1 hsw21 hb1 hkb1
    C_BadLot := C2
    e_BadLot := err_mk (c := 2) X G (by decide) n12 s_ns hC2 hne2 sa2 exC2 tyC2 kC2 ga2 gg2 hdC2 cl2 s_gs s_tk hm2 nof2 ini2 iniT2 lk2 code2 hcode2 hvs2 hfile2 hcell2 sup2 isE2 isC2 s_opq s_top s_sg hbody2 har2 harn2 sc12 sc22 hev2 hsw2 hsw22 hb2 hkb2
    C_BadWord := C3
    e_BadWord := err_mk (c := 3) X G (by decide) n13 s_ns hC3 hne3 sa3 exC3 tyC3 kC3 ga3 gg3 hdC3 cl3 s_gs s_tk hm3 nof3 ini3 iniT3 lk3 code3 hcode3 hvs3 hfile3 hcell3 sup3 isE3 isC3 s_opq s_top s_sg hbody3 har3 harn3 sc13 sc23 hev3 hsw3 hsw23 hb3 hkb3
    C_BadList := C4
    e_BadList := err_mk (c := 4) X G (by decide) n14 s_ns hC4 hne4 sa4 exC4 tyC4 kC4 ga4 gg4 hdC4 cl4 s_gs s_tk hm4 nof4 ini4 iniT4 lk4 code4 hcode4 hvs4 hfile4 hcell4 sup4 isE4 isC4 s_opq s_top s_sg hbody4 har4 harn4 sc14 sc24 hev4 hsw4 hsw24 hb4 hkb4
    C_BadFamily := C5
    e_BadFamily := err_mk (c := 5) X G (by decide) n15 s_ns hC5 hne5 sa5 exC5 tyC5 kC5 ga5 gg5 hdC5 cl5 s_gs s_tk hm5 nof5 ini5 iniT5 lk5 code5 hcode5 hvs5 hfile5 hcell5 sup5 isE5 isC5 s_opq s_top s_sg hbody5 har5 harn5 sc15 sc25 hev5 hsw5 hsw25 hb5 hkb5
    C_BadSystem := C6
    e_BadSystem := err_mk (c := 6) X G (by decide) n16 s_ns hC6 hne6 sa6 exC6 tyC6 kC6 ga6 gg6 hdC6 cl6 s_gs s_tk hm6 nof6 ini6 iniT6 lk6 code6 hcode6 hvs6 hfile6 hcell6 sup6 isE6 isC6 s_opq s_top s_sg hbody6 har6 harn6 sc16 sc26 hev6 hsw6 hsw26 hb6 hkb6
    C_BadScheme := C7
    e_BadScheme := err_mk (c := 7) X G (by decide) n17 s_ns hC7 hne7 sa7 exC7 tyC7 kC7 ga7 gg7 hdC7 cl7 s_gs s_tk hm7 nof7 ini7 iniT7 lk7 code7 hcode7 hvs7 hfile7 hcell7 sup7 isE7 isC7 s_opq s_top s_sg hbody7 har7 harn7 sc17 sc27 hev7 hsw7 hsw27 hb7 hkb7
    C_BadPlan := C8
    e_BadPlan := err_mk (c := 8) X G (by decide) n18 s_ns hC8 hne8 sa8 exC8 tyC8 kC8 ga8 gg8 hdC8 cl8 s_gs s_tk hm8 nof8 ini8 iniT8 lk8 code8 hcode8 hvs8 hfile8 hcell8 sup8 isE8 isC8 s_opq s_top s_sg hbody8 har8 harn8 sc18 sc28 hev8 hsw8 hsw28 hb8 hkb8
    C_BadDemand := C9
    e_BadDemand := err_mk (c := 9) X G (by decide) n19 s_ns hC9 hne9 sa9 exC9 tyC9 kC9 ga9 gg9 hdC9 cl9 s_gs s_tk hm9 nof9 ini9 iniT9 lk9 code9 hcode9 hvs9 hfile9 hcell9 sup9 isE9 isC9 s_opq s_top s_sg hbody9 har9 harn9 sc19 sc29 hev9 hsw9 hsw29 hb9 hkb9
    C_BadQuestion := C10
    e_BadQuestion := err_mk (c := 10) X G (by decide) n110 s_ns hC10 hne10 sa10 exC10 tyC10 kC10 ga10 gg10 hdC10 cl10 s_gs s_tk hm10 nof10 ini10 iniT10 lk10 code10 hcode10 hvs10 hfile10 hcell10 sup10 isE10 isC10 s_opq s_top s_sg hbody10 har10 harn10 sc110 sc210 hev10 hsw10 hsw210 hb10 hkb10
    C_BadTold := C11
    e_BadTold := err_mk (c := 11) X G (by decide) n111 s_ns hC11 hne11 sa11 exC11 tyC11 kC11 ga11 gg11 hdC11 cl11 s_gs s_tk hm11 nof11 ini11 iniT11 lk11 code11 hcode11 hvs11 hfile11 hcell11 sup11 isE11 isC11 s_opq s_top s_sg hbody11 har11 harn11 sc111 sc211 hev11 hsw11 hsw211 hb11 hkb11
    C_BadWeb := C12
    e_BadWeb := err_mk (c := 12) X G (by decide) n112 s_ns hC12 hne12 sa12 exC12 tyC12 kC12 ga12 gg12 hdC12 cl12 s_gs s_tk hm12 nof12 ini12 iniT12 lk12 code12 hcode12 hvs12 hfile12 hcell12 sup12 isE12 isC12 s_opq s_top s_sg hbody12 har12 harn12 sc112 sc212 hev12 hsw12 hsw212 hb12 hkb12
    C_BadNumber := C13
    e_BadNumber := err_mk (c := 13) X G (by decide) n113 s_ns hC13 hne13 sa13 exC13 tyC13 kC13 ga13 gg13 hdC13 cl13 s_gs s_tk hm13 nof13 ini13 iniT13 lk13 code13 hcode13 hvs13 hfile13 hcell13 sup13 isE13 isC13 s_opq s_top s_sg hbody13 har13 harn13 sc113 sc213 hev13 hsw13 hsw213 hb13 hkb13
    C_Barred := C14
    e_Barred := err_mk (c := 14) X G (by decide) n114 s_ns hC14 hne14 sa14 exC14 tyC14 kC14 ga14 gg14 hdC14 cl14 s_gs s_tk hm14 nof14 ini14 iniT14 lk14 code14 hcode14 hvs14 hfile14 hcell14 sup14 isE14 isC14 s_opq s_top s_sg hbody14 har14 harn14 sc114 sc214 hev14 hsw14 hsw214 hb14 hkb14
    a__law_deck := _
    d__law_deck := _
    f__law_deck := fun_mk (st := s__law_deck) l0 c0 k0
    m__law_deck := PySem.W.mg_of X G a0
    a__law_draw := _
    d__law_draw := _
    f__law_draw := fun_mk (st := s__law_draw) l1 c1 k1
    m__law_draw := PySem.W.mg_of X G a1
    a__law_kinds := _
    d__law_kinds := _
    f__law_kinds := fun_mk (st := s__law_kinds) l2 c2 k2
    m__law_kinds := PySem.W.mg_of X G a2
    a__law_carried := _
    d__law_carried := _
    f__law_carried := fun_mk (st := s__law_carried) l3 c3 k3
    m__law_carried := PySem.W.mg_of X G a3
    a__law_pick := _
    d__law_pick := _
    f__law_pick := fun_mk (st := s__law_pick) l4 c4 k4
    m__law_pick := PySem.W.mg_of X G a4
    a__law_is_own := _
    d__law_is_own := _
    f__law_is_own := fun_mk (st := s__law_is_own) l5 c5 k5
    m__law_is_own := PySem.W.mg_of X G a5
    a__law_by_position := _
    d__law_by_position := _
    f__law_by_position := fun_mk (st := s__law_by_position) l6 c6 k6
    m__law_by_position := PySem.W.mg_of X G a6
    a__law_by_name := _
    d__law_by_name := _
    f__law_by_name := fun_mk (st := s__law_by_name) l7 c7 k7
    m__law_by_name := PySem.W.mg_of X G a7
    a__law_raise := _
    d__law_raise := _
    f__law_raise := fun_mk (st := s__law_raise) l8 c8 k8
    m__law_raise := PySem.W.mg_of X G a8
    a__law_caught := _
    d__law_caught := _
    f__law_caught := fun_mk (st := s__law_caught) l9 c9 k9
    m__law_caught := PySem.W.mg_of X G a9
    a__law_caught_as_base := _
    d__law_caught_as_base := _
    f__law_caught_as_base := fun_mk (st := s__law_caught_as_base) l10 c10 k10
    m__law_caught_as_base := PySem.W.mg_of X G a10
    a__law_is_same := _
    d__law_is_same := _
    f__law_is_same := fun_mk (st := s__law_is_same) l11 c11 k11
    m__law_is_same := PySem.W.mg_of X G a11
    a__law_any := _
    d__law_any := _
    f__law_any := fun_mk (st := s__law_any) l12 c12 k12
    m__law_any := PySem.W.mg_of X G a12
    a_law := _
    d_law := _
    f_law := fun_mk (st := s_law) l13 c13 k13
    m_law := PySem.W.mg_of X G a13
  }, rfl, rfl⟩
  obtain ⟨T, e1, e2⟩ := T
  refine ⟨T.d_law, fun s v => ?_, fun base _ _ => ?_⟩
  · rw [e2]; exact .of_eq rfl
  · rw [← e1]; exact ok_law T math
end
end K00

end

section
open PySem PySem.W PyProof.Rows
set_option maxRecDepth 100000 in
set_option maxHeartbeats 0 in
theorem PySem.Challenge.cw_sightsums_k00_errors_by_position_and_by_holds : PySem.Challenge.rw_sightsums_k00_errors_by_position_and_by.Holds := by
  w_on; o_law; k_head; (case hw => w_witness2)
  k_fill
  refine PV.walkG (l := PySem.Challenge.rw_sightsums_k00_errors_by_position_and_by) (k := 14) rfl rfl ⟨rfl, by decide, by decide⟩ (fun w h Y => PySem.W.kIn_of Y) ?F
  case F =>
    intro w mg fa h KX G hmg
    refine' K00.all_mk KX G hmg ?a0 ?l0 ?c0 ?k0 ?a1 ?l1 ?c1 ?k1 ?a2 ?l2 ?c2 ?k2 ?a3 ?l3 ?c3 ?k3 ?a4 ?l4 ?c4 ?k4 ?a5 ?l5 ?c5 ?k5 ?a6 ?l6 ?c6 ?k6 ?a7 ?l7 ?c7 ?k7 ?a8 ?l8 ?c8 ?k8 ?a9 ?l9 ?c9 ?k9 ?a10 ?l10 ?c10 ?k10 ?a11 ?l11 ?c11 ?k11 ?a12 ?l12 ?c12 ?k12 ?a13 ?l13 ?c13 ?k13 ?z_ArithmeticError ?z_AttributeError ?z_Exception ?z_LookupError ?z_RuntimeError ?z_TypeError ?z_ValueError ?z_dict ?z_enumerate ?z_int ?z_isinstance ?z_len ?z_list ?z_max ?z_range ?z_repr ?z_tuple ?s_ns ?s_cls ?s_ty ?s_gs ?s_tk ?s_opq ?s_top ?s_sg ?s_exC ?s_hdC ?n10 ?hC0 ?hne0 ?sa0 ?exC0 ?tyC0 ?kC0 ?ga0 ?gg0 ?hdC0 ?cl0 ?hm0 ?nof0 ?ini0 ?iniT0 ?lk0 ?code0 ?hcode0 ?hvs0 ?hfile0 ?hcell0 ?sup0 ?isE0 ?isC0 ?hbody0 ?har0 ?harn0 ?sc10 ?sc20 ?hev0 ?hsw0 ?hsw20 ?hb0 ?hkb0 ?n11 ?hC1 ?hne1 ?sa1 ?exC1 ?tyC1 ?kC1 ?ga1 ?gg1 ?hdC1 ?cl1 ?hm1 ?nof1 ?ini1 ?iniT1 ?lk1 ?code1 ?hcode1 ?hvs1 ?hfile1 ?hcell1 ?sup1 ?isE1 ?isC1 ?hbody1 ?har1 ?harn1 ?sc11 ?sc21 ?hev1 ?hsw1 ?hsw21 ?hb1 ?hkb1 ?n12 ?hC2 ?hne2 ?sa2 ?exC2 ?tyC2 ?kC2 ?ga2 ?gg2 ?hdC2 ?cl2 ?hm2 ?nof2 ?ini2 ?iniT2 ?lk2 ?code2 ?hcode2 ?hvs2 ?hfile2 ?hcell2 ?sup2 ?isE2 ?isC2 ?hbody2 ?har2 ?harn2 ?sc12 ?sc22 ?hev2 ?hsw2 ?hsw22 ?hb2 ?hkb2 ?n13 ?hC3 ?hne3 ?sa3 ?exC3 ?tyC3 ?kC3 ?ga3 ?gg3 ?hdC3 ?cl3 ?hm3 ?nof3 ?ini3 ?iniT3 ?lk3 ?code3 ?hcode3 ?hvs3 ?hfile3 ?hcell3 ?sup3 ?isE3 ?isC3 ?hbody3 ?har3 ?harn3 ?sc13 ?sc23 ?hev3 ?hsw3 ?hsw23 ?hb3 ?hkb3 ?n14 ?hC4 ?hne4 ?sa4 ?exC4 ?tyC4 ?kC4 ?ga4 ?gg4 ?hdC4 ?cl4 ?hm4 ?nof4 ?ini4 ?iniT4 ?lk4 ?code4 ?hcode4 ?hvs4 ?hfile4 ?hcell4 ?sup4 ?isE4 ?isC4 ?hbody4 ?har4 ?harn4 ?sc14 ?sc24 ?hev4 ?hsw4 ?hsw24 ?hb4 ?hkb4 ?n15 ?hC5 ?hne5 ?sa5 ?exC5 ?tyC5 ?kC5 ?ga5 ?gg5 ?hdC5 ?cl5 ?hm5 ?nof5 ?ini5 ?iniT5 ?lk5 ?code5 ?hcode5 ?hvs5 ?hfile5 ?hcell5 ?sup5 ?isE5 ?isC5 ?hbody5 ?har5 ?harn5 ?sc15 ?sc25 ?hev5 ?hsw5 ?hsw25 ?hb5 ?hkb5 ?n16 ?hC6 ?hne6 ?sa6 ?exC6 ?tyC6 ?kC6 ?ga6 ?gg6 ?hdC6 ?cl6 ?hm6 ?nof6 ?ini6 ?iniT6 ?lk6 ?code6 ?hcode6 ?hvs6 ?hfile6 ?hcell6 ?sup6 ?isE6 ?isC6 ?hbody6 ?har6 ?harn6 ?sc16 ?sc26 ?hev6 ?hsw6 ?hsw26 ?hb6 ?hkb6 ?n17 ?hC7 ?hne7 ?sa7 ?exC7 ?tyC7 ?kC7 ?ga7 ?gg7 ?hdC7 ?cl7 ?hm7 ?nof7 ?ini7 ?iniT7 ?lk7 ?code7 ?hcode7 ?hvs7 ?hfile7 ?hcell7 ?sup7 ?isE7 ?isC7 ?hbody7 ?har7 ?harn7 ?sc17 ?sc27 ?hev7 ?hsw7 ?hsw27 ?hb7 ?hkb7 ?n18 ?hC8 ?hne8 ?sa8 ?exC8 ?tyC8 ?kC8 ?ga8 ?gg8 ?hdC8 ?cl8 ?hm8 ?nof8 ?ini8 ?iniT8 ?lk8 ?code8 ?hcode8 ?hvs8 ?hfile8 ?hcell8 ?sup8 ?isE8 ?isC8 ?hbody8 ?har8 ?harn8 ?sc18 ?sc28 ?hev8 ?hsw8 ?hsw28 ?hb8 ?hkb8 ?n19 ?hC9 ?hne9 ?sa9 ?exC9 ?tyC9 ?kC9 ?ga9 ?gg9 ?hdC9 ?cl9 ?hm9 ?nof9 ?ini9 ?iniT9 ?lk9 ?code9 ?hcode9 ?hvs9 ?hfile9 ?hcell9 ?sup9 ?isE9 ?isC9 ?hbody9 ?har9 ?harn9 ?sc19 ?sc29 ?hev9 ?hsw9 ?hsw29 ?hb9 ?hkb9 ?n110 ?hC10 ?hne10 ?sa10 ?exC10 ?tyC10 ?kC10 ?ga10 ?gg10 ?hdC10 ?cl10 ?hm10 ?nof10 ?ini10 ?iniT10 ?lk10 ?code10 ?hcode10 ?hvs10 ?hfile10 ?hcell10 ?sup10 ?isE10 ?isC10 ?hbody10 ?har10 ?harn10 ?sc110 ?sc210 ?hev10 ?hsw10 ?hsw210 ?hb10 ?hkb10 ?n111 ?hC11 ?hne11 ?sa11 ?exC11 ?tyC11 ?kC11 ?ga11 ?gg11 ?hdC11 ?cl11 ?hm11 ?nof11 ?ini11 ?iniT11 ?lk11 ?code11 ?hcode11 ?hvs11 ?hfile11 ?hcell11 ?sup11 ?isE11 ?isC11 ?hbody11 ?har11 ?harn11 ?sc111 ?sc211 ?hev11 ?hsw11 ?hsw211 ?hb11 ?hkb11 ?n112 ?hC12 ?hne12 ?sa12 ?exC12 ?tyC12 ?kC12 ?ga12 ?gg12 ?hdC12 ?cl12 ?hm12 ?nof12 ?ini12 ?iniT12 ?lk12 ?code12 ?hcode12 ?hvs12 ?hfile12 ?hcell12 ?sup12 ?isE12 ?isC12 ?hbody12 ?har12 ?harn12 ?sc112 ?sc212 ?hev12 ?hsw12 ?hsw212 ?hb12 ?hkb12 ?n113 ?hC13 ?hne13 ?sa13 ?exC13 ?tyC13 ?kC13 ?ga13 ?gg13 ?hdC13 ?cl13 ?hm13 ?nof13 ?ini13 ?iniT13 ?lk13 ?code13 ?hcode13 ?hvs13 ?hfile13 ?hcell13 ?sup13 ?isE13 ?isC13 ?hbody13 ?har13 ?harn13 ?sc113 ?sc213 ?hev13 ?hsw13 ?hsw213 ?hb13 ?hkb13 ?n114 ?hC14 ?hne14 ?sa14 ?exC14 ?tyC14 ?kC14 ?ga14 ?gg14 ?hdC14 ?cl14 ?hm14 ?nof14 ?ini14 ?iniT14 ?lk14 ?code14 ?hcode14 ?hvs14 ?hfile14 ?hcell14 ?sup14 ?isE14 ?isC14 ?hbody14 ?har14 ?harn14 ?sc114 ?sc214 ?hev14 ?hsw14 ?hsw214 ?hb14 ?hkb14 K00.math
    (case a0 => k_is)
    (case l0 => k_is)
    (case c0 => k_is)
    (case k0 => k_is)
    (case a1 => k_is)
    (case l1 => k_is)
    (case c1 => k_is)
    (case k1 => k_is)
    (case a2 => k_is)
    (case l2 => k_is)
    (case c2 => k_is)
    (case k2 => k_is)
    (case a3 => k_is)
    (case l3 => k_is)
    (case c3 => k_is)
    (case k3 => k_is)
    (case a4 => k_is)
    (case l4 => k_is)
    (case c4 => k_is)
    (case k4 => k_is)
    (case a5 => k_is)
    (case l5 => k_is)
    (case c5 => k_is)
    (case k5 => k_is)
    (case a6 => k_is)
    (case l6 => k_is)
    (case c6 => k_is)
    (case k6 => k_is)
    (case a7 => k_is)
    (case l7 => k_is)
    (case c7 => k_is)
    (case k7 => k_is)
    (case a8 => k_is)
    (case l8 => k_is)
    (case c8 => k_is)
    (case k8 => k_is)
    (case a9 => k_is)
    (case l9 => k_is)
    (case c9 => k_is)
    (case k9 => k_is)
    (case a10 => k_is)
    (case l10 => k_is)
    (case c10 => k_is)
    (case k10 => k_is)
    (case a11 => k_is)
    (case l11 => k_is)
    (case c11 => k_is)
    (case k11 => k_is)
    (case a12 => k_is)
    (case l12 => k_is)
    (case c12 => k_is)
    (case k12 => k_is)
    (case a13 => k_is)
    (case l13 => k_is)
    (case c13 => k_is)
    (case k13 => k_is)
    (case z_ArithmeticError => k_is)
    (case z_AttributeError => k_is)
    (case z_Exception => k_is)
    (case z_LookupError => k_is)
    (case z_RuntimeError => k_is)
    (case z_TypeError => k_is)
    (case z_ValueError => k_is)
    (case z_dict => k_is)
    (case z_enumerate => k_is)
    (case z_int => k_is)
    (case z_isinstance => k_is)
    (case z_len => k_is)
    (case z_list => k_is)
    (case z_max => k_is)
    (case z_range => k_is)
    (case z_repr => k_is)
    (case z_tuple => k_is)
    (case s_ns => k_is)
    (case s_cls => first | rfl | kernel_rfl | decide +kernel)
    (case s_ty => k_is)
    (case s_gs => k_is)
    (case s_tk => k_is)
    (case s_opq => k_is)
    (case s_top => first | rfl | decide +kernel)
    (case s_sg => k_is)
    (case s_exC => k_is)
    (case s_hdC => k_is)
    (case n10 => k_is)
    (case hC0 => k_is)
    (case hne0 => decide)
    (case sa0 => k_is)
    (case exC0 => k_is)
    (case tyC0 => k_is)
    (case kC0 => k_is)
    (case ga0 => k_is)
    (case gg0 => k_is)
    (case hdC0 => k_is)
    (case cl0 => k_is)
    (case hm0 => k_is)
    (case nof0 => k_is)
    (case ini0 => k_is)
    (case iniT0 => k_is)
    (case lk0 => k_is)
    (case code0 => k_is)
    (case hcode0 => k_is)
    (case hvs0 => rfl)
    (case hfile0 => rfl)
    (case hcell0 => k_is)
    (case sup0 => first | rfl | kernel_rfl | decide +kernel)
    (case isE0 => k_is)
    (case isC0 => k_is)
    (case hbody0 => rfl)
    (case har0 => rfl)
    (case harn0 => rfl)
    (case sc10 => decide +kernel)
    (case sc20 => decide +kernel)
    (case hev0 => exact ⟨_, fun _ => rfl⟩)
    (case hsw0 => intro env; rfl)
    (case hsw20 => intro env; rfl)
    (case hb0 => intro u v; rfl)
    (case hkb0 => intro u v; rfl)
    (case n11 => k_is)
    (case hC1 => k_is)
    (case hne1 => decide)
    (case sa1 => k_is)
    (case exC1 => k_is)
    (case tyC1 => k_is)
    (case kC1 => k_is)
    (case ga1 => k_is)
    (case gg1 => k_is)
    (case hdC1 => k_is)
    (case cl1 => k_is)
    (case hm1 => k_is)
    (case nof1 => k_is)
    (case ini1 => k_is)
    (case iniT1 => k_is)
    (case lk1 => k_is)
    (case code1 => k_is)
    (case hcode1 => k_is)
    (case hvs1 => rfl)
    (case hfile1 => rfl)
    (case hcell1 => k_is)
    (case sup1 => first | rfl | kernel_rfl | decide +kernel)
    (case isE1 => k_is)
    (case isC1 => k_is)
    (case hbody1 => rfl)
    (case har1 => rfl)
    (case harn1 => rfl)
    (case sc11 => decide +kernel)
    (case sc21 => decide +kernel)
    (case hev1 => exact ⟨_, fun _ => rfl⟩)
    (case hsw1 => intro env; rfl)
    (case hsw21 => intro env; rfl)
    (case hb1 => intro u v; rfl)
    (case hkb1 => intro u v; rfl)
    (case n12 => k_is)
    (case hC2 => k_is)
    (case hne2 => decide)
    (case sa2 => k_is)
    (case exC2 => k_is)
    (case tyC2 => k_is)
    (case kC2 => k_is)
    (case ga2 => k_is)
    (case gg2 => k_is)
    (case hdC2 => k_is)
    (case cl2 => k_is)
    (case hm2 => k_is)
    (case nof2 => k_is)
    (case ini2 => k_is)
    (case iniT2 => k_is)
    (case lk2 => k_is)
    (case code2 => k_is)
    (case hcode2 => k_is)
    (case hvs2 => rfl)
    (case hfile2 => rfl)
    (case hcell2 => k_is)
    (case sup2 => first | rfl | kernel_rfl | decide +kernel)
    (case isE2 => k_is)
    (case isC2 => k_is)
    (case hbody2 => rfl)
    (case har2 => rfl)
    (case harn2 => rfl)
    (case sc12 => decide +kernel)
    (case sc22 => decide +kernel)
    (case hev2 => exact ⟨_, fun _ => rfl⟩)
    (case hsw2 => intro env; rfl)
    (case hsw22 => intro env; rfl)
    (case hb2 => intro u v; rfl)
    (case hkb2 => intro u v; rfl)
    (case n13 => k_is)
    (case hC3 => k_is)
    (case hne3 => decide)
    (case sa3 => k_is)
    (case exC3 => k_is)
    (case tyC3 => k_is)
    (case kC3 => k_is)
    (case ga3 => k_is)
    (case gg3 => k_is)
    (case hdC3 => k_is)
    (case cl3 => k_is)
    (case hm3 => k_is)
    (case nof3 => k_is)
    (case ini3 => k_is)
    (case iniT3 => k_is)
    (case lk3 => k_is)
    (case code3 => k_is)
    (case hcode3 => k_is)
    (case hvs3 => rfl)
    (case hfile3 => rfl)
    (case hcell3 => k_is)
    (case sup3 => first | rfl | kernel_rfl | decide +kernel)
    (case isE3 => k_is)
    (case isC3 => k_is)
    (case hbody3 => rfl)
    (case har3 => rfl)
    (case harn3 => rfl)
    (case sc13 => decide +kernel)
    (case sc23 => decide +kernel)
    (case hev3 => exact ⟨_, fun _ => rfl⟩)
    (case hsw3 => intro env; rfl)
    (case hsw23 => intro env; rfl)
    (case hb3 => intro u v; rfl)
    (case hkb3 => intro u v; rfl)
    (case n14 => k_is)
    (case hC4 => k_is)
    (case hne4 => decide)
    (case sa4 => k_is)
    (case exC4 => k_is)
    (case tyC4 => k_is)
    (case kC4 => k_is)
    (case ga4 => k_is)
    (case gg4 => k_is)
    (case hdC4 => k_is)
    (case cl4 => k_is)
    (case hm4 => k_is)
    (case nof4 => k_is)
    (case ini4 => k_is)
    (case iniT4 => k_is)
    (case lk4 => k_is)
    (case code4 => k_is)
    (case hcode4 => k_is)
    (case hvs4 => rfl)
    (case hfile4 => rfl)
    (case hcell4 => k_is)
    (case sup4 => first | rfl | kernel_rfl | decide +kernel)
    (case isE4 => k_is)
    (case isC4 => k_is)
    (case hbody4 => rfl)
    (case har4 => rfl)
    (case harn4 => rfl)
    (case sc14 => decide +kernel)
    (case sc24 => decide +kernel)
    (case hev4 => exact ⟨_, fun _ => rfl⟩)
    (case hsw4 => intro env; rfl)
    (case hsw24 => intro env; rfl)
    (case hb4 => intro u v; rfl)
    (case hkb4 => intro u v; rfl)
    (case n15 => k_is)
    (case hC5 => k_is)
    (case hne5 => decide)
    (case sa5 => k_is)
    (case exC5 => k_is)
    (case tyC5 => k_is)
    (case kC5 => k_is)
    (case ga5 => k_is)
    (case gg5 => k_is)
    (case hdC5 => k_is)
    (case cl5 => k_is)
    (case hm5 => k_is)
    (case nof5 => k_is)
    (case ini5 => k_is)
    (case iniT5 => k_is)
    (case lk5 => k_is)
    (case code5 => k_is)
    (case hcode5 => k_is)
    (case hvs5 => rfl)
    (case hfile5 => rfl)
    (case hcell5 => k_is)
    (case sup5 => first | rfl | kernel_rfl | decide +kernel)
    (case isE5 => k_is)
    (case isC5 => k_is)
    (case hbody5 => rfl)
    (case har5 => rfl)
    (case harn5 => rfl)
    (case sc15 => decide +kernel)
    (case sc25 => decide +kernel)
    (case hev5 => exact ⟨_, fun _ => rfl⟩)
    (case hsw5 => intro env; rfl)
    (case hsw25 => intro env; rfl)
    (case hb5 => intro u v; rfl)
    (case hkb5 => intro u v; rfl)
    (case n16 => k_is)
    (case hC6 => k_is)
    (case hne6 => decide)
    (case sa6 => k_is)
    (case exC6 => k_is)
    (case tyC6 => k_is)
    (case kC6 => k_is)
    (case ga6 => k_is)
    (case gg6 => k_is)
    (case hdC6 => k_is)
    (case cl6 => k_is)
    (case hm6 => k_is)
    (case nof6 => k_is)
    (case ini6 => k_is)
    (case iniT6 => k_is)
    (case lk6 => k_is)
    (case code6 => k_is)
    (case hcode6 => k_is)
    (case hvs6 => rfl)
    (case hfile6 => rfl)
    (case hcell6 => k_is)
    (case sup6 => first | rfl | kernel_rfl | decide +kernel)
    (case isE6 => k_is)
    (case isC6 => k_is)
    (case hbody6 => rfl)
    (case har6 => rfl)
    (case harn6 => rfl)
    (case sc16 => decide +kernel)
    (case sc26 => decide +kernel)
    (case hev6 => exact ⟨_, fun _ => rfl⟩)
    (case hsw6 => intro env; rfl)
    (case hsw26 => intro env; rfl)
    (case hb6 => intro u v; rfl)
    (case hkb6 => intro u v; rfl)
    (case n17 => k_is)
    (case hC7 => k_is)
    (case hne7 => decide)
    (case sa7 => k_is)
    (case exC7 => k_is)
    (case tyC7 => k_is)
    (case kC7 => k_is)
    (case ga7 => k_is)
    (case gg7 => k_is)
    (case hdC7 => k_is)
    (case cl7 => k_is)
    (case hm7 => k_is)
    (case nof7 => k_is)
    (case ini7 => k_is)
    (case iniT7 => k_is)
    (case lk7 => k_is)
    (case code7 => k_is)
    (case hcode7 => k_is)
    (case hvs7 => rfl)
    (case hfile7 => rfl)
    (case hcell7 => k_is)
    (case sup7 => first | rfl | kernel_rfl | decide +kernel)
    (case isE7 => k_is)
    (case isC7 => k_is)
    (case hbody7 => rfl)
    (case har7 => rfl)
    (case harn7 => rfl)
    (case sc17 => decide +kernel)
    (case sc27 => decide +kernel)
    (case hev7 => exact ⟨_, fun _ => rfl⟩)
    (case hsw7 => intro env; rfl)
    (case hsw27 => intro env; rfl)
    (case hb7 => intro u v; rfl)
    (case hkb7 => intro u v; rfl)
    (case n18 => k_is)
    (case hC8 => k_is)
    (case hne8 => decide)
    (case sa8 => k_is)
    (case exC8 => k_is)
    (case tyC8 => k_is)
    (case kC8 => k_is)
    (case ga8 => k_is)
    (case gg8 => k_is)
    (case hdC8 => k_is)
    (case cl8 => k_is)
    (case hm8 => k_is)
    (case nof8 => k_is)
    (case ini8 => k_is)
    (case iniT8 => k_is)
    (case lk8 => k_is)
    (case code8 => k_is)
    (case hcode8 => k_is)
    (case hvs8 => rfl)
    (case hfile8 => rfl)
    (case hcell8 => k_is)
    (case sup8 => first | rfl | kernel_rfl | decide +kernel)
    (case isE8 => k_is)
    (case isC8 => k_is)
    (case hbody8 => rfl)
    (case har8 => rfl)
    (case harn8 => rfl)
    (case sc18 => decide +kernel)
    (case sc28 => decide +kernel)
    (case hev8 => exact ⟨_, fun _ => rfl⟩)
    (case hsw8 => intro env; rfl)
    (case hsw28 => intro env; rfl)
    (case hb8 => intro u v; rfl)
    (case hkb8 => intro u v; rfl)
    (case n19 => k_is)
    (case hC9 => k_is)
    (case hne9 => decide)
    (case sa9 => k_is)
    (case exC9 => k_is)
    (case tyC9 => k_is)
    (case kC9 => k_is)
    (case ga9 => k_is)
    (case gg9 => k_is)
    (case hdC9 => k_is)
    (case cl9 => k_is)
    (case hm9 => k_is)
    (case nof9 => k_is)
    (case ini9 => k_is)
    (case iniT9 => k_is)
    (case lk9 => k_is)
    (case code9 => k_is)
    (case hcode9 => k_is)
    (case hvs9 => rfl)
    (case hfile9 => rfl)
    (case hcell9 => k_is)
    (case sup9 => first | rfl | kernel_rfl | decide +kernel)
    (case isE9 => k_is)
    (case isC9 => k_is)
    (case hbody9 => rfl)
    (case har9 => rfl)
    (case harn9 => rfl)
    (case sc19 => decide +kernel)
    (case sc29 => decide +kernel)
    (case hev9 => exact ⟨_, fun _ => rfl⟩)
    (case hsw9 => intro env; rfl)
    (case hsw29 => intro env; rfl)
    (case hb9 => intro u v; rfl)
    (case hkb9 => intro u v; rfl)
    (case n110 => k_is)
    (case hC10 => k_is)
    (case hne10 => decide)
    (case sa10 => k_is)
    (case exC10 => k_is)
    (case tyC10 => k_is)
    (case kC10 => k_is)
    (case ga10 => k_is)
    (case gg10 => k_is)
    (case hdC10 => k_is)
    (case cl10 => k_is)
    (case hm10 => k_is)
    (case nof10 => k_is)
    (case ini10 => k_is)
    (case iniT10 => k_is)
    (case lk10 => k_is)
    (case code10 => k_is)
    (case hcode10 => k_is)
    (case hvs10 => rfl)
    (case hfile10 => rfl)
    (case hcell10 => k_is)
    (case sup10 => first | rfl | kernel_rfl | decide +kernel)
    (case isE10 => k_is)
    (case isC10 => k_is)
    (case hbody10 => rfl)
    (case har10 => rfl)
    (case harn10 => rfl)
    (case sc110 => decide +kernel)
    (case sc210 => decide +kernel)
    (case hev10 => exact ⟨_, fun _ => rfl⟩)
    (case hsw10 => intro env; rfl)
    (case hsw210 => intro env; rfl)
    (case hb10 => intro u v; rfl)
    (case hkb10 => intro u v; rfl)
    (case n111 => k_is)
    (case hC11 => k_is)
    (case hne11 => decide)
    (case sa11 => k_is)
    (case exC11 => k_is)
    (case tyC11 => k_is)
    (case kC11 => k_is)
    (case ga11 => k_is)
    (case gg11 => k_is)
    (case hdC11 => k_is)
    (case cl11 => k_is)
    (case hm11 => k_is)
    (case nof11 => k_is)
    (case ini11 => k_is)
    (case iniT11 => k_is)
    (case lk11 => k_is)
    (case code11 => k_is)
    (case hcode11 => k_is)
    (case hvs11 => rfl)
    (case hfile11 => rfl)
    (case hcell11 => k_is)
    (case sup11 => first | rfl | kernel_rfl | decide +kernel)
    (case isE11 => k_is)
    (case isC11 => k_is)
    (case hbody11 => rfl)
    (case har11 => rfl)
    (case harn11 => rfl)
    (case sc111 => decide +kernel)
    (case sc211 => decide +kernel)
    (case hev11 => exact ⟨_, fun _ => rfl⟩)
    (case hsw11 => intro env; rfl)
    (case hsw211 => intro env; rfl)
    (case hb11 => intro u v; rfl)
    (case hkb11 => intro u v; rfl)
    (case n112 => k_is)
    (case hC12 => k_is)
    (case hne12 => decide)
    (case sa12 => k_is)
    (case exC12 => k_is)
    (case tyC12 => k_is)
    (case kC12 => k_is)
    (case ga12 => k_is)
    (case gg12 => k_is)
    (case hdC12 => k_is)
    (case cl12 => k_is)
    (case hm12 => k_is)
    (case nof12 => k_is)
    (case ini12 => k_is)
    (case iniT12 => k_is)
    (case lk12 => k_is)
    (case code12 => k_is)
    (case hcode12 => k_is)
    (case hvs12 => rfl)
    (case hfile12 => rfl)
    (case hcell12 => k_is)
    (case sup12 => first | rfl | kernel_rfl | decide +kernel)
    (case isE12 => k_is)
    (case isC12 => k_is)
    (case hbody12 => rfl)
    (case har12 => rfl)
    (case harn12 => rfl)
    (case sc112 => decide +kernel)
    (case sc212 => decide +kernel)
    (case hev12 => exact ⟨_, fun _ => rfl⟩)
    (case hsw12 => intro env; rfl)
    (case hsw212 => intro env; rfl)
    (case hb12 => intro u v; rfl)
    (case hkb12 => intro u v; rfl)
    (case n113 => k_is)
    (case hC13 => k_is)
    (case hne13 => decide)
    (case sa13 => k_is)
    (case exC13 => k_is)
    (case tyC13 => k_is)
    (case kC13 => k_is)
    (case ga13 => k_is)
    (case gg13 => k_is)
    (case hdC13 => k_is)
    (case cl13 => k_is)
    (case hm13 => k_is)
    (case nof13 => k_is)
    (case ini13 => k_is)
    (case iniT13 => k_is)
    (case lk13 => k_is)
    (case code13 => k_is)
    (case hcode13 => k_is)
    (case hvs13 => rfl)
    (case hfile13 => rfl)
    (case hcell13 => k_is)
    (case sup13 => first | rfl | kernel_rfl | decide +kernel)
    (case isE13 => k_is)
    (case isC13 => k_is)
    (case hbody13 => rfl)
    (case har13 => rfl)
    (case harn13 => rfl)
    (case sc113 => decide +kernel)
    (case sc213 => decide +kernel)
    (case hev13 => exact ⟨_, fun _ => rfl⟩)
    (case hsw13 => intro env; rfl)
    (case hsw213 => intro env; rfl)
    (case hb13 => intro u v; rfl)
    (case hkb13 => intro u v; rfl)
    (case n114 => k_is)
    (case hC14 => k_is)
    (case hne14 => decide)
    (case sa14 => k_is)
    (case exC14 => k_is)
    (case tyC14 => k_is)
    (case kC14 => k_is)
    (case ga14 => k_is)
    (case gg14 => k_is)
    (case hdC14 => k_is)
    (case cl14 => k_is)
    (case hm14 => k_is)
    (case nof14 => k_is)
    (case ini14 => k_is)
    (case iniT14 => k_is)
    (case lk14 => k_is)
    (case code14 => k_is)
    (case hcode14 => k_is)
    (case hvs14 => rfl)
    (case hfile14 => rfl)
    (case hcell14 => k_is)
    (case sup14 => first | rfl | kernel_rfl | decide +kernel)
    (case isE14 => k_is)
    (case isC14 => k_is)
    (case hbody14 => rfl)
    (case har14 => rfl)
    (case harn14 => rfl)
    (case sc114 => decide +kernel)
    (case sc214 => decide +kernel)
    (case hev14 => exact ⟨_, fun _ => rfl⟩)
    (case hsw14 => intro env; rfl)
    (case hsw214 => intro env; rfl)
    (case hb14 => intro u v; rfl)
    (case hkb14 => intro u v; rfl)

end
