import PyProof.Rows.All
import HandS.Base
import HandS.Call
import HandS.List
import HandS.Comp
import HandS.Ends
import HandS.Exc
import HandS.TupAny
import HandS.TupMul
import HandS.IsInst
import HandS.Deep
import HandS.Style
import HandS.Star
import HandS.RaiseMore
import HandS.Dict
import HandS.Words
import HandS.Zip
import KE.GoesEnum
import HandS.WordsExc
import HandS.Conv
import HandS.TupLen
import HandS.SortInts
import KE.KDictZip
import HandS.OwnIter
import KE.KDictKeyed
import HandS.SortOrd
import HandS.NamedTupSort
import KE.KSortTupAny
import HandS.ExcOwn
import PyProof.WalksMore
import KE.KDictWalk
import KE.KDictSum
import PySem.Challenge.RW_sightsums_k04_whole_totals_of_lists
set_option Elab.async false
set_option linter.all false
set_option autoImplicit false
section
set_option maxRecDepth 100000
/-! plain values, the mirror's monad, what stands in the heap -/
namespace PV
open PySem PySem.Spec PyProof.Rows L2

/-- a plain value -/
inductive D where
  | non | bl (b : Bool) | int (i : Int) | str (x : Str) | tup (ds : List D) | lst (ds : List D)
  | dK (kvs : List (Key × D)) | dT (kvs : List (List Key × D)) | deck | exc (c : Nat) (d : D)

mutual
def Rep (K : PySem.W.Frag) (I : Hp) (dk : Addr) : D → V → Prop
  | .non, v => v = .non
  | .bl b, v => v = .bl b
  | .int i, v => v = .int i
  | .str x, v => v = .str x
  | .tup ds, v => ∃ a vs, v = .ref a ∧ I a = some (.tup vs) ∧ RepL K I dk ds vs
  | .lst ds, v => ∃ a vs, v = .ref a ∧ I a = some (.lst vs) ∧ RepL K I dk ds vs
  | .dK kvs, v => ∃ a ws, v = .ref a ∧ I a = some (.dK ws) ∧ RepK K I dk kvs ws
  | .dT kvs, v => ∃ a ws, v = .ref a ∧ I a = some (.dT ws) ∧ RepT K I dk kvs ws
  | .deck, v => v = .ref dk
  | .exc _ _, _ => False
def RepL (K : PySem.W.Frag) (I : Hp) (dk : Addr) : List D → List V → Prop
  | [], vs => vs = []
  | d :: ds, vs => ∃ v r, vs = v :: r ∧ Rep K I dk d v ∧ RepL K I dk ds r
def RepK (K : PySem.W.Frag) (I : Hp) (dk : Addr) : List (Key × D) → List (Key × V) → Prop
  | [], vs => vs = []
  | (k, d) :: ds, vs => ∃ v r, vs = (k, v) :: r ∧ Rep K I dk d v ∧ RepK K I dk ds r
def RepT (K : PySem.W.Frag) (I : Hp) (dk : Addr) : List (List Key × D) → List (List Key × V) → Prop
  | [], vs => vs = []
  | (k, d) :: ds, vs => ∃ v r, vs = (k, v) :: r ∧ Rep K I dk d v ∧ RepT K I dk ds r
end

/-- all that was tracked is as it was -/
def Sm (H H' : Hp) : Prop := ∀ b o, H b = some o → H' b = some o
theorem Sm.refl (H : Hp) : Sm H H := fun _ _ h => h
theorem Sm.trans {H H1 H2 : Hp} (a : Sm H H1) (b : Sm H1 H2) : Sm H H2 := fun c o h => b c o (a c o h)
theorem Sm.upd {H : Hp} {p : Addr} {o : HO} (h : H p = none) : Sm H (L2.upd H p o) := fun b x e => by
  rw [upd_ne (ne_of_none e h)]
  exact e
theorem Sm.upd2 {I H : Hp} {p : Addr} {o : HO} (h : Sm I H) : Sm (L2.upd I p o) (L2.upd H p o) := fun b x e => by
  by_cases hb : b = p
  · subst hb; rw [upd_same] at e ⊢; exact e
  · rw [upd_ne hb] at e ⊢; exact h b x e
theorem Sm.off {I H : Hp} {p : Addr} {o : HO} (h : Sm I H) (n : I p = none) : Sm I (L2.upd H p o) := fun b x e => by
  have hb : b ≠ p := ne_of_none e n
  rw [upd_ne hb]
  exact h b x e
theorem Sm.none {I H : Hp} {p : Addr} (h : Sm I H) (n : H p = Option.none) : I p = Option.none := by
  cases q : I p with
  | none => rfl
  | some o => rw [h p o q] at n; cases n
theorem Sm.sqL {K : PySem.W.Frag} {H H' : Hp} {a : Addr} {xs : List V} (e : Sm H H') (h : SqL K H a xs) : SqL K H' a xs := by
  rcases h with (h | ⟨o, h⟩) | h
  · exact .inl (.inl (e _ _ h))
  · exact .inl (.inr ⟨o, e _ _ h⟩)
  · exact .inr h
theorem Sm.sqT {K : PySem.W.Frag} {H H' : Hp} {a : Addr} {xs : List V} (e : Sm H H') (h : SqT K H a xs) : SqT K H' a xs := by
  rcases h with (h | ⟨o, h⟩) | h
  · exact .inl (.inl (e _ _ h))
  · exact .inl (.inr ⟨o, e _ _ h⟩)
  · exact .inr h

section
variable {K : PySem.W.Frag} {I I' H H' : Hp} {dk l : Addr}
mutual
theorem Rep.mono (e : Sm I I') : ∀ (d : D) (v : V), Rep K I dk d v → Rep K I' dk d v
  | .non, _, h => h
  | .bl _, _, h => h
  | .int _, _, h => h
  | .str _, _, h => h
  | .tup ds, _, h => by
    obtain ⟨a, vs, e1, e2, e3⟩ := h
    exact ⟨a, vs, e1, e _ _ e2, RepL.mono e ds vs e3⟩
  | .lst ds, _, h => by
    obtain ⟨a, vs, e1, e2, e3⟩ := h
    exact ⟨a, vs, e1, e _ _ e2, RepL.mono e ds vs e3⟩
  | .dK ds, _, h => by
    obtain ⟨a, vs, e1, e2, e3⟩ := h
    exact ⟨a, vs, e1, e _ _ e2, RepK.mono e ds vs e3⟩
  | .dT ds, _, h => by
    obtain ⟨a, vs, e1, e2, e3⟩ := h
    exact ⟨a, vs, e1, e _ _ e2, RepT.mono e ds vs e3⟩
  | .deck, _, h => h
  | .exc _ _, _, h => h
theorem RepL.mono (e : Sm I I') : ∀ (ds : List D) (vs : List V), RepL K I dk ds vs → RepL K I' dk ds vs
  | [], _, h => h
  | d :: ds, _, h => by
    obtain ⟨v, r, e1, e2, e3⟩ := h
    exact ⟨v, r, e1, Rep.mono e d v e2, RepL.mono e ds r e3⟩
theorem RepK.mono (e : Sm I I') : ∀ (ds : List (Key × D)) (vs : List (Key × V)), RepK K I dk ds vs → RepK K I' dk ds vs
  | [], _, h => h
  | (k, d) :: ds, _, h => by
    obtain ⟨v, r, e1, e2, e3⟩ := h
    exact ⟨v, r, e1, Rep.mono e d v e2, RepK.mono e ds r e3⟩
theorem RepT.mono (e : Sm I I') : ∀ (ds : List (List Key × D)) (vs : List (List Key × V)), RepT K I dk ds vs → RepT K I' dk ds vs
  | [], _, h => h
  | (k, d) :: ds, _, h => by
    obtain ⟨v, r, e1, e2, e3⟩ := h
    exact ⟨v, r, e1, Rep.mono e d v e2, RepT.mono e ds r e3⟩
end
theorem RepL.length : ∀ {ds : List D} {vs : List V}, RepL K I dk ds vs → ds.length = vs.length
  | [], _, h => by rw [show _ = [] from h]; rfl
  | d :: ds, _, h => by
    obtain ⟨v, r, rfl, _, e3⟩ := h
    rw [List.length_cons, List.length_cons, RepL.length e3]
theorem RepL.get : ∀ {ds : List D} {vs : List V} {i : Nat} {d : D}, RepL K I dk ds vs → ds[i]? = some d → ∃ v, vs[i]? = some v ∧ Rep K I dk d v
  | [], _, _, _, _, e => by simp at e
  | d :: ds, _, 0, d', h, e => by
    obtain ⟨v, r, rfl, e2, _⟩ := h
    rw [List.getElem?_cons_zero] at e
    cases e
    exact ⟨v, rfl, e2⟩
  | d :: ds, _, i + 1, d', h, e => by
    obtain ⟨v, r, rfl, _, e3⟩ := h
    rw [List.getElem?_cons_succ] at e ⊢
    exact RepL.get e3 e
theorem RepL.append : ∀ {ds es : List D} {vs ws : List V}, RepL K I dk ds vs → RepL K I dk es ws → RepL K I dk (ds ++ es) (vs ++ ws)
  | [], _, _, _, h, h' => by rw [show _ = [] from h]; exact h'
  | d :: ds, _, _, _, h, h' => by
    obtain ⟨v, r, rfl, e2, e3⟩ := h
    exact ⟨v, _, rfl, e2, RepL.append e3 h'⟩
theorem RepL.one {d : D} {v : V} (h : Rep K I dk d v) : RepL K I dk [d] [v] := ⟨v, [], rfl, h, rfl⟩
theorem RepL.take : ∀ {ds : List D} {vs : List V} (n : Nat), RepL K I dk ds vs → RepL K I dk (ds.take n) (vs.take n)
  | _, _, 0, _ => rfl
  | [], _, n + 1, h => by rw [show _ = [] from h]; rfl
  | d :: ds, _, n + 1, h => by
    obtain ⟨v, r, rfl, e2, e3⟩ := h
    exact ⟨v, _, rfl, e2, RepL.take n e3⟩
theorem RepL.drop : ∀ {ds : List D} {vs : List V} (n : Nat), RepL K I dk ds vs → RepL K I dk (ds.drop n) (vs.drop n)
  | _, _, 0, h => h
  | [], _, n + 1, h => by rw [show _ = [] from h]; rfl
  | d :: ds, _, n + 1, h => by
    obtain ⟨v, r, rfl, e2, e3⟩ := h
    exact RepL.drop n e3
theorem RepL.set : ∀ {ds : List D} {vs : List V} {d : D} {v : V} (i : Nat), RepL K I dk ds vs → Rep K I dk d v → RepL K I dk (ds.set i d) (vs.set i v)
  | [], _, _, _, _, h, _ => by rw [show _ = [] from h]; rfl
  | a :: ds, _, d, v, 0, h, hr => by
    obtain ⟨w, r, rfl, e2, e3⟩ := h
    exact ⟨v, r, rfl, hr, e3⟩
  | a :: ds, _, d, v, i + 1, h, hr => by
    obtain ⟨w, r, rfl, e2, e3⟩ := h
    exact ⟨w, _, rfl, e2, RepL.set i e3 hr⟩
theorem RepL.reverse : ∀ {ds : List D} {vs : List V}, RepL K I dk ds vs → RepL K I dk ds.reverse vs.reverse
  | [], _, h => by rw [show _ = [] from h]; rfl
  | d :: ds, _, h => by
    obtain ⟨v, r, rfl, e2, e3⟩ := h
    rw [List.reverse_cons, List.reverse_cons]
    exact RepL.append (RepL.reverse e3) (RepL.one e2)
theorem RepL.ints : ∀ (ns : List Int), RepL K I dk (ns.map D.int) (ns.map V.int)
  | [] => rfl
  | n :: ns => ⟨_, _, rfl, rfl, RepL.ints ns⟩
theorem RepL.ints_of : ∀ {ns : List Int} {vs : List V}, RepL K I dk (ns.map D.int) vs → vs = ns.map V.int
  | [], _, h => h
  | n :: ns, _, h => by
    obtain ⟨v, r, rfl, e2, e3⟩ := h
    rw [show v = _ from e2, RepL.ints_of e3]
    rfl
end

/-! ### the mirror's monad -/
/-- the deck: what is left, and its two figures -/
structure Dk where
  left : List Int
  mixed : Int
  draws : Int
inductive Res (α : Type) where
  | bad
  | ok (a : α) (s : Dk)
  | exc (c : Nat) (d : D) (s : Dk)
abbrev M (α : Type) := Dk → Res α
def Res.andThen {α β : Type} (r : Res α) (f : α → M β) : Res β := match r with
  | .bad => .bad
  | .ok a s => f a s
  | .exc c d s => .exc c d s
def ret {α : Type} (a : α) : M α := fun s => .ok a s
def bad {α : Type} : M α := fun _ => .bad
def andThen {α β : Type} (m : M α) (f : α → M β) : M β := fun s => (m s).andThen f
def opt {α : Type} : Option α → M α
  | some a => ret a
  | none => bad
end PV

end

section
set_option maxRecDepth 100000
namespace PV
open PySem PySem.Spec PyProof.Rows L2

/-! ### the world -/
def deckO (l : Addr) (s : Dk) : HO := .dK [(.inr "left", .ref l), (.inr "mixed", .int s.mixed), (.inr "draws", .int s.draws)]
structure Wo (dk l : Addr) (I H : Hp) (s : Dk) : Prop where
  sub : Sm I H
  dko : H dk = some (deckO l s)
  lft : H l = some (.lst (s.left.map V.int))
  idk : I dk = none
  il : I l = none
theorem Wo.ne {dk l : Addr} {I H : Hp} {s : Dk} (w : Wo dk l I H s) : dk ≠ l := ne_of w.dko w.lft (by intro z; cases z)
/-- nothing there, or a tuple -/
def NoT (H : Hp) (a : Addr) : Prop := H a = none ∨ ∃ vs, H a = some (.tup vs)
theorem NoT.lst {H : Hp} {a : Addr} {vs : List V} (h : NoT H a) (e : H a = some (.lst vs)) : False := by
  rcases h with h | ⟨ws, h⟩
  · rw [e] at h; cases h
  · rw [e] at h; cases h
theorem NoT.dK {H : Hp} {a : Addr} {vs : List (Key × V)} (h : NoT H a) (e : H a = some (.dK vs)) : False := by
  rcases h with h | ⟨ws, h⟩
  · rw [e] at h; cases h
  · rw [e] at h; cases h
theorem NoT.dT {H : Hp} {a : Addr} {vs : List (List Key × V)} (h : NoT H a) (e : H a = some (.dT vs)) : False := by
  rcases h with h | ⟨ws, h⟩
  · rw [e] at h; cases h
  · rw [e] at h; cases h
/-- the heap grows: what stood stands, but for the deck -/
structure Ext (dk l : Addr) (I H I' H' : Hp) : Prop where
  grow : Sm I I'
  keep : ∀ a o, H a = some o → a ≠ dk → a ≠ l → H' a = some o
  fresh : ∀ a o, I' a = some o → I a = none → NoT H a
theorem Ext.refl {dk l : Addr} {I H : Hp} : Ext dk l I H I H := ⟨Sm.refl I, fun _ _ h _ _ => h, fun a o h n => by rw [h] at n; cases n⟩
theorem Ext.trans {dk l : Addr} {I H I1 H1 I2 H2 : Hp} {s : Dk} (a : Ext dk l I H I1 H1) (b : Ext dk l I1 H1 I2 H2) (w : Wo dk l I2 H2 s) : Ext dk l I H I2 H2 where
  grow := a.grow.trans b.grow
  keep := fun c o h n1 n2 => b.keep c o (a.keep c o h n1 n2) n1 n2
  fresh := fun c o h n => by
    by_cases h1 : c = dk
    · subst h1; rw [w.idk] at h; cases h
    · by_cases h2 : c = l
      · subst h2; rw [w.il] at h; cases h
      · cases q : I1 c with
        | some u => exact a.fresh c u q n
        | none =>
          have n1 := b.fresh c o h q
          cases r : H c with
          | none => exact .inl r
          | some u =>
            have k := a.keep c u r h1 h2
            rcases n1 with n1 | ⟨vs, n1⟩
            · rw [k] at n1; cases n1
            · rw [k] at n1; cases n1; exact .inr ⟨vs, r⟩
/-- a new frozen object -/
theorem Ext.new {dk l p : Addr} {I H : Hp} {o : HO} {s : Dk} (w : Wo dk l I H s) (n : H p = none) : Ext dk l I H (upd I p o) (upd H p o) where
  grow := Sm.upd (w.sub.none n)
  keep := fun c u h _ _ => by rw [upd_ne (ne_of_none h n)]; exact h
  fresh := fun c u h k => by
    by_cases hc : c = p
    · subst hc; exact .inl n
    · rw [upd_ne hc, k] at h; cases h
theorem Wo.new {dk l p : Addr} {I H : Hp} {o : HO} {s : Dk} (w : Wo dk l I H s) (n : H p = none) : Wo dk l (upd I p o) (upd H p o) s where
  sub := w.sub.upd2
  dko := by rw [upd_ne (ne_of_none w.dko n)]; exact w.dko
  lft := by rw [upd_ne (ne_of_none w.lft n)]; exact w.lft
  idk := by rw [upd_ne (ne_of_none w.dko n)]; exact w.idk
  il := by rw [upd_ne (ne_of_none w.lft n)]; exact w.il
/-- a new object that is not frozen -/
theorem Ext.off {dk l p : Addr} {I H : Hp} {o : HO} {s : Dk} (w : Wo dk l I H s) (n : H p = none) : Ext dk l I H I (upd H p o) where
  grow := Sm.refl I
  keep := fun c u h _ _ => by rw [upd_ne (ne_of_none h n)]; exact h
  fresh := fun c u h k => by rw [h] at k; cases k
theorem Wo.off {dk l p : Addr} {I H : Hp} {o : HO} {s : Dk} (w : Wo dk l I H s) (n : I p = none) (n1 : p ≠ dk) (n2 : p ≠ l) : Wo dk l I (upd H p o) s where
  sub := w.sub.off n
  dko := by rw [upd_ne n1.symm]; exact w.dko
  lft := by rw [upd_ne n2.symm]; exact w.lft
  idk := w.idk
  il := w.il

/-! ### the slots -/
inductive OD where
  | lst (ds : List D) | dK (kvs : List (Key × D)) | dT (kvs : List (List Key × D))
def OD.d : OD → D
  | .lst ds => .lst ds
  | .dK k => .dK k
  | .dT k => .dT k
def OwnAt (K : PySem.W.Frag) (I H : Hp) (dk p : Addr) : OD → Prop
  | .lst ds => ∃ vs, H p = some (.lst vs) ∧ RepL K I dk ds vs
  | .dK ds => ∃ vs, H p = some (.dK vs) ∧ RepK K I dk ds vs
  | .dT ds => ∃ vs, H p = some (.dT vs) ∧ RepT K I dk ds vs
theorem OwnAt.ho {K : PySem.W.Frag} {I H : Hp} {dk p : Addr} : ∀ {o : OD}, OwnAt K I H dk p o → ∃ u, H p = some u
  | .lst _, ⟨_, h, _⟩ => ⟨_, h⟩
  | .dK _, ⟨_, h, _⟩ => ⟨_, h⟩
  | .dT _, ⟨_, h, _⟩ => ⟨_, h⟩
theorem OwnAt.move {K : PySem.W.Frag} {I H I' H' : Hp} {dk p : Addr} (e : Sm I I') (k : ∀ u, H p = some u → H' p = some u) : ∀ {o : OD}, OwnAt K I H dk p o → OwnAt K I' H' dk p o
  | .lst _, ⟨_, h, r⟩ => ⟨_, k _ h, RepL.mono e _ _ r⟩
  | .dK _, ⟨_, h, r⟩ => ⟨_, k _ h, RepK.mono e _ _ r⟩
  | .dT _, ⟨_, h, r⟩ => ⟨_, k _ h, RepT.mono e _ _ r⟩
theorem OwnAt.noT {K : PySem.W.Frag} {I H : Hp} {dk p : Addr} : ∀ {o : OD}, OwnAt K I H dk p o → NoT H p → False
  | .lst _, ⟨_, h, _⟩, n => n.lst h
  | .dK _, ⟨_, h, _⟩, n => n.dK h
  | .dT _, ⟨_, h, _⟩, n => n.dT h
inductive Slot where
  | no | val (d : D) | own (o : OD)
abbrev En := List Slot
structure EnvOk (K : PySem.W.Frag) (dk l : Addr) (I H : Hp) (env : En) (σ : L2.St) : Prop where
  len : env.length = σ.length
  val : ∀ (i : Nat) (d : D), env[i]? = some (.val d) → ∃ v, σ[i]? = some (some v) ∧ Rep K I dk d v
  own : ∀ (i : Nat) (o : OD), env[i]? = some (.own o) → ∃ p, σ[i]? = some (some (.ref p)) ∧ OwnAt K I H dk p o ∧ p ≠ dk ∧ p ≠ l ∧ I p = none
  sep : ∀ (i j : Nat) (o u : OD) (p : Addr), env[i]? = some (.own o) → env[j]? = some (.own u) → σ[i]? = some (some (.ref p)) → σ[j]? = some (some (.ref p)) → i = j
section
variable {K : PySem.W.Frag} {dk l : Addr} {I H I' H' : Hp} {env : En} {σ : L2.St} {s s' : Dk}
theorem EnvOk.ext (e : EnvOk K dk l I H env σ) (x : Ext dk l I H I' H') : EnvOk K dk l I' H' env σ where
  len := e.len
  val := fun i d h => let ⟨v, h1, h2⟩ := e.val i d h; ⟨v, h1, Rep.mono x.grow d v h2⟩
  own := fun i o h => by
    obtain ⟨p, h1, h2, h3, h4, h5⟩ := e.own i o h
    refine ⟨p, h1, h2.move x.grow fun u q => x.keep p u q h3 h4, h3, h4, ?_⟩
    cases q : I' p with
    | none => rfl
    | some u =>
      exact (h2.noT (x.fresh p u q h5)).elim
  sep := e.sep
theorem EnvOk.set {i : Nat} {d : D} {v : V} (e : EnvOk K dk l I H env σ) (r : Rep K I dk d v) : EnvOk K dk l I H (env.set i (.val d)) (σ.set i (some v)) where
  len := by rw [List.length_set, List.length_set]; exact e.len
  val := fun j d' h => by
    by_cases hj : i = j
    · subst hj
      by_cases hl : i < env.length
      · rw [List.getElem?_set_self hl] at h
        cases h
        exact ⟨v, List.getElem?_set_self (by rw [← e.len]; exact hl), r⟩
      · rw [List.getElem?_eq_none (by rw [List.length_set]; omega)] at h; cases h
    · rw [List.getElem?_set_ne hj] at h ⊢
      exact e.val j d' h
  own := fun j o h => by
    by_cases hj : i = j
    · subst hj
      by_cases hl : i < env.length
      · rw [List.getElem?_set_self hl] at h; cases h
      · rw [List.getElem?_eq_none (by rw [List.length_set]; omega)] at h; cases h
    · rw [List.getElem?_set_ne hj] at h ⊢
      exact e.own j o h
  sep := fun j k o u p h1 h2 h3 h4 => by
    have hj : i ≠ j := fun z => by
      subst z
      by_cases hl : i < env.length
      · rw [List.getElem?_set_self hl] at h1; cases h1
      · rw [List.getElem?_eq_none (by rw [List.length_set]; omega)] at h1; cases h1
    have hk : i ≠ k := fun z => by
      subst z
      by_cases hl : i < env.length
      · rw [List.getElem?_set_self hl] at h2; cases h2
      · rw [List.getElem?_eq_none (by rw [List.length_set]; omega)] at h2; cases h2
    rw [List.getElem?_set_ne hj] at h1 h3
    rw [List.getElem?_set_ne hk] at h2 h4
    exact e.sep j k o u p h1 h2 h3 h4
theorem EnvOk.setNo {i : Nat} {v : Option V} (e : EnvOk K dk l I H env σ) : EnvOk K dk l I H (env.set i .no) (σ.set i v) where
  len := by rw [List.length_set, List.length_set]; exact e.len
  val := fun j d' h => by
    by_cases hj : i = j
    · subst hj
      by_cases hl : i < env.length
      · rw [List.getElem?_set_self hl] at h; cases h
      · rw [List.getElem?_eq_none (by rw [List.length_set]; omega)] at h; cases h
    · rw [List.getElem?_set_ne hj] at h ⊢
      exact e.val j d' h
  own := fun j o h => by
    by_cases hj : i = j
    · subst hj
      by_cases hl : i < env.length
      · rw [List.getElem?_set_self hl] at h; cases h
      · rw [List.getElem?_eq_none (by rw [List.length_set]; omega)] at h; cases h
    · rw [List.getElem?_set_ne hj] at h ⊢
      exact e.own j o h
  sep := fun j k o u p h1 h2 h3 h4 => by
    have hj : i ≠ j := fun z => by
      subst z
      by_cases hl : i < env.length
      · rw [List.getElem?_set_self hl] at h1; cases h1
      · rw [List.getElem?_eq_none (by rw [List.length_set]; omega)] at h1; cases h1
    have hk : i ≠ k := fun z => by
      subst z
      by_cases hl : i < env.length
      · rw [List.getElem?_set_self hl] at h2; cases h2
      · rw [List.getElem?_eq_none (by rw [List.length_set]; omega)] at h2; cases h2
    rw [List.getElem?_set_ne hj] at h1 h3
    rw [List.getElem?_set_ne hk] at h2 h4
    exact e.sep j k o u p h1 h2 h3 h4
/-- a new own object at slot i, or the own object at slot i changed -/
theorem EnvOk.setOwn {i : Nat} {o : OD} {p : Addr} (e : EnvOk K dk l I H env σ) (h : OwnAt K I H' dk p o) (n1 : p ≠ dk) (n2 : p ≠ l) (n3 : I p = none)
    (k : ∀ q u, q ≠ p → H q = some u → H' q = some u) (ap : ∀ j u, j ≠ i → env[j]? = some (.own u) → σ[j]? ≠ some (some (.ref p))) : EnvOk K dk l I H' (env.set i (.own o)) (σ.set i (some (.ref p))) where
  len := by rw [List.length_set, List.length_set]; exact e.len
  val := fun j d' h => by
    by_cases hj : i = j
    · subst hj
      by_cases hl : i < env.length
      · rw [List.getElem?_set_self hl] at h; cases h
      · rw [List.getElem?_eq_none (by rw [List.length_set]; omega)] at h; cases h
    · rw [List.getElem?_set_ne hj] at h ⊢
      exact e.val j d' h
  own := fun j u hh => by
    by_cases hj : i = j
    · subst hj
      by_cases hl : i < env.length
      · rw [List.getElem?_set_self hl] at hh
        cases hh
        exact ⟨p, List.getElem?_set_self (by rw [← e.len]; exact hl), h, n1, n2, n3⟩
      · rw [List.getElem?_eq_none (by rw [List.length_set]; omega)] at hh; cases hh
    · rw [List.getElem?_set_ne hj] at hh ⊢
      obtain ⟨q, h1, h2, h3, h4, h5⟩ := e.own j u hh
      have hq : q ≠ p := fun z => ap j u (Ne.symm hj) hh (by rw [h1, z])
      exact ⟨q, h1, h2.move (Sm.refl I) fun w z => k q w hq z, h3, h4, h5⟩
  sep := fun j m u w q h1 h2 h3 h4 => by
    by_cases hj : i = j
    · by_cases hm : i = m
      · exact hj.symm.trans hm
      · exfalso
        subst hj
        rw [List.getElem?_set_ne hm] at h2 h4
        have hl : i < env.length := by
          rcases Nat.lt_or_ge i env.length with z | z
          · exact z
          · rw [List.getElem?_eq_none (by rw [List.length_set]; omega)] at h1; cases h1
        rw [List.getElem?_set_self (by rw [← e.len]; exact hl)] at h3
        have hq : q = p := by
          injection h3 with z
          injection z with z
          injection z with z
          exact z.symm
        exact ap m w (Ne.symm hm) h2 (by rw [h4, hq])
    · by_cases hm : i = m
      · exfalso
        subst hm
        rw [List.getElem?_set_ne hj] at h1 h3
        have hl : i < env.length := by
          rcases Nat.lt_or_ge i env.length with z | z
          · exact z
          · rw [List.getElem?_eq_none (by rw [List.length_set]; omega)] at h2; cases h2
        rw [List.getElem?_set_self (by rw [← e.len]; exact hl)] at h4
        have hq : q = p := by
          injection h4 with z
          injection z with z
          injection z with z
          exact z.symm
        exact ap j u (Ne.symm hj) h1 (by rw [h3, hq])
      · rw [List.getElem?_set_ne hj] at h1 h3
        rw [List.getElem?_set_ne hm] at h2 h4
        exact e.sep j m u w q h1 h2 h3 h4
end

/-! ### readings by the mirror -/
def Post {α : Type} (r : Res α) (P : α → Dk → Prop) (E : Nat → D → Dk → Prop) : Prop := match r with
  | .bad => False
  | .ok a s => P a s
  | .exc c d s => E c d s
theorem Post.mono {α : Type} {r : Res α} {P P' : α → Dk → Prop} {E E' : Nat → D → Dk → Prop} (h : Post r P E) (i : ∀ a s, P a s → P' a s) (j : ∀ c d s, E c d s → E' c d s) : Post r P' E' := by
  cases r with
  | bad => exact h
  | ok a s => exact i a s h
  | exc c d s => exact j c d s h
theorem Post.bind {α β : Type} {m : M α} {f : α → M β} {s : Dk} {P : β → Dk → Prop} {E : Nat → D → Dk → Prop} (h : Post (andThen m f s) P E) : Post (m s) (fun a s1 => Post (f a s1) P E) E := by
  show Post (m s) _ _
  unfold andThen at h
  cases q : m s with
  | bad => rw [q] at h; exact h
  | ok a s1 => rw [q] at h; exact h
  | exc c d s1 => rw [q] at h; exact h
theorem Post.opt {α : Type} {o : Option α} {s : Dk} {P : α → Dk → Prop} {E : Nat → D → Dk → Prop} (h : Post (PV.opt o s) P E) : ∃ a, o = some a ∧ P a s := by
  cases o with
  | none => exact h.elim
  | some a => exact ⟨a, rfl, h⟩
section
variable (K : PySem.W.Frag) (dk l : Addr) (W : WX)
/-- what an exception of class c with d is, by the value of its class and the address of its dict -/
def RepX (I : Hp) (c : Nat) (d : D) (cls : Value) (dd : Option Addr) : Prop := ∃ (C da : Addr) (v : V), cls = .ref C ∧ dd = some da ∧ I da = some (.xd [((if c = 14 then "certificate" else "thing" : Str), v)]) ∧ Rep K I dk d v
def exQ (I H : Hp) (σ : L2.St) : Nat → D → Dk → Prop := fun c d s' => ∀ cls dd I' H', Ext dk l I H I' H' → Wo dk l I' H' s' → RepX K dk I' c d cls dd → W cls dd σ H'
variable {K dk l W} in
theorem exQ.shift {I H I1 H1 : Hp} {σ : L2.St} {c : Nat} {d : D} {s : Dk} (x : Ext dk l I H I1 H1) (h : exQ K dk l W I H σ c d s) : exQ K dk l W I1 H1 σ c d s := fun cls dd I2 H2 x2 w2 => h cls dd I2 H2 (x.trans x2 w2) w2
def lift (m : En → M D) : TE := fun σ H Q => ∃ I env s, EnvOk K dk l I H env σ ∧ Wo dk l I H s ∧ Post (m env s) (fun d s' => ∀ v I' H', Ext dk l I H I' H' → Wo dk l I' H' s' → Rep K I' dk d v → Q v H') (exQ K dk l W I H σ)
def liftT (m : En → M Bool) : TT := fun σ H Q => ∃ I env s, EnvOk K dk l I H env σ ∧ Wo dk l I H s ∧ Post (m env s) (fun b s' => ∀ I' H', Ext dk l I H I' H' → Wo dk l I' H' s' → Q b H') (exQ K dk l W I H σ)
def liftA (m : En → M (List D)) : TA := fun σ H Q => ∃ I env s, EnvOk K dk l I H env σ ∧ Wo dk l I H s ∧ Post (m env s) (fun ds s' => ∀ vs I' H', Ext dk l I H I' H' → Wo dk l I' H' s' → RepL K I' dk ds vs → Q vs H') (exQ K dk l W I H σ)
/-- .. whose value is an object of one's own -/
def liftO (m : En → M OD) : TE := fun σ H Q => ∃ I env s, EnvOk K dk l I H env σ ∧ Wo dk l I H s ∧
  Post (m env s) (fun o s' => ∀ p I' H', Ext dk l I H I' H' → Wo dk l I' H' s' → H p = none → OwnAt K I' H' dk p o → p ≠ dk → p ≠ l → I' p = none → Q (.ref p) H') (exQ K dk l W I H σ)
end
/-- a stronger reading does -/
theorem PE_imp {X : Cx} {e : Expr} {t t' : TE} (h : PE X e t) (i : ∀ σ H Q, t' σ H Q → t σ H Q) : PE X e t' := ⟨fun pins s σ H Q J q => h.run pins s σ H Q J (i σ H Q q)⟩
theorem PT_imp {X : Cx} {e : Expr} {t t' : TT} (h : PT X e t) (i : ∀ σ H Q, t' σ H Q → t σ H Q) : PT X e t' := ⟨fun pins s σ H Q J q => h.run pins s σ H Q J (i σ H Q q)⟩
theorem PW_imp {X : Cx} {e : Expr} {t t' : TT} (h : PW X e t) (i : ∀ σ H Q, t' σ H Q → t σ H Q) : PW X e t' := ⟨fun wh pins s σ H Q J q => h.run wh pins s σ H Q J (i σ H Q q)⟩
theorem PA_imp {X : Cx} {e : List Expr} {t t' : TA} (h : PA X e t) (i : ∀ σ H Q, t' σ H Q → t σ H Q) : PA X e t' := ⟨fun pos pins s σ H Q J q => h.run pos pins s σ H Q J (i σ H Q q)⟩
theorem PS_imp {X : Cx} {e : Stmt} {t t' : TS} (h : PS X e t) (i : ∀ D σ H, t' D σ H → t D σ H) : PS X e t' := ⟨fun pins s σ H Q J q => h.run pins s σ H Q J (i Q σ H q)⟩
theorem PSs_imp {X : Cx} {e : List Stmt} {t t' : TS} (h : PSs X e t) (i : ∀ D σ H, t' D σ H → t D σ H) : PSs X e t' := ⟨fun pins s σ H Q J q => h.run pins s σ H Q J (i Q σ H q)⟩

/-! ### the mirror's pieces: expressions -/
def eVar (i : Nat) : En → M D := fun env => match env[i]? with
  | some (.val d) => ret d
  | _ => bad
def eC (d : D) : En → M D := fun _ => ret d
def eOp (g : D → D → Option D) (a b : En → M D) : En → M D := fun env => andThen (a env) fun x => andThen (b env) fun y => opt (g x y)
def eUn (g : D → Option D) (a : En → M D) : En → M D := fun env => andThen (a env) fun x => opt (g x)
def eIf (t : En → M Bool) (a b : En → M D) : En → M D := fun env => andThen (t env) fun c => if c = true then a env else b env
def eAnil : En → M (List D) := fun _ => ret []
def eAcons (a : En → M D) (r : En → M (List D)) : En → M (List D) := fun env => andThen (a env) fun x => andThen (r env) fun xs => ret (x :: xs)
def eMapA (g : List D → Option D) (a : En → M (List D)) : En → M D := fun env => andThen (a env) fun xs => opt (g xs)
def eMapO (g : List D → Option OD) (a : En → M (List D)) : En → M OD := fun env => andThen (a env) fun xs => opt (g xs)
def eCall (F : List D → M D) (a : En → M (List D)) : En → M D := fun env => andThen (a env) fun xs => F xs
/-- an own object as a value -/
def eFrz (m : En → M OD) : En → M D := fun env => andThen (m env) fun o => ret o.d
def tAnd' (a b : En → M Bool) : En → M Bool := fun env => andThen (a env) fun c => if c = true then b env else ret false
def tOr' (a b : En → M Bool) : En → M Bool := fun env => andThen (a env) fun c => if c = true then ret true else b env
def tNot' (a : En → M Bool) : En → M Bool := fun env => andThen (a env) fun c => ret (!c)
/-- a value's truth -/
def truD : D → Option Bool
  | .non => some false
  | .bl b => some b
  | .int i => some (i != 0)
  | .tup ds => some (!ds.isEmpty)
  | .lst ds => some (!ds.isEmpty)
  | _ => none
def tVal (a : En → M D) : En → M Bool := fun env => andThen (a env) fun x => opt (match x with | .bl b => some b | _ => none)
def tTru (a : En → M D) : En → M Bool := fun env => andThen (a env) fun x => opt (truD x)

section
variable {X : Cx} {dk l : Addr} {W : WX} {pos : Pos}
theorem r_var (i : Nat) {x : Str} {ta : TE} (h : PE X (.Name x pos) (tVar i)) : PE X (.Name x pos) (lift X.K dk l W (eVar i)) := PE_imp h fun σ H Q ⟨I, env, s, e, w, q⟩ => by
  unfold eVar at q
  cases hd : env[i]? with
  | none => rw [hd] at q; exact q.elim
  | some z =>
    rw [hd] at q
    cases z with
    | no => exact q.elim
    | own o => exact q.elim
    | val d =>
      obtain ⟨v, h1, h2⟩ := e.val i d hd
      exact ⟨v, h1, q v I H Ext.refl w h2⟩
theorem r_const {d : D} {v : V} {e : Expr} (h : PE X e (tC v)) (r : ∀ I, Rep X.K I dk d v) : PE X e (lift X.K dk l W (eC d)) := PE_imp h fun σ H Q ⟨I, env, s, e, w, q⟩ => q v I H Ext.refl w (r I)
/-- an operation of two values -/
def OpD (X : Cx) (dk l : Addr) (f : Value → Value → Sem Value) (g : D → D → Option D) : Prop := ∃ r : R2, OpR X f r ∧ ∀ I H s x y v u d Q, Wo dk l I H s → Rep X.K I dk x v → Rep X.K I dk y u → g x y = some d →
  (∀ w I' H', Ext dk l I H I' H' → Wo dk l I' H' s → Rep X.K I' dk d w → Q w H') → r v u H Q
theorem bin_lift {ma mb : En → M D} {g : D → D → Option D} {r : R2} (hr : ∀ I H s x y v u d Q, Wo dk l I H s → Rep X.K I dk x v → Rep X.K I dk y u → g x y = some d →
    (∀ w I' H', Ext dk l I H I' H' → Wo dk l I' H' s → Rep X.K I' dk d w → Q w H') → r v u H Q) (σ : L2.St) (H : Hp) (Q : VK) (h : lift X.K dk l W (eOp g ma mb) σ H Q) : tOp r (lift X.K dk l W ma) (lift X.K dk l W mb) σ H Q := by
  obtain ⟨I, env, s, e, w, q⟩ := h
  refine ⟨I, env, s, e, w, q.bind.mono (fun x s1 q v I1 H1 x1 w1 r1 => ?_) fun _ _ _ h => h⟩
  refine ⟨I1, env, s1, e.ext x1, w1, q.bind.mono (fun y s2 q u I2 H2 x2 w2 r2 => ?_) fun _ _ _ h => h.shift x1⟩
  obtain ⟨d, e3, q⟩ := q.opt
  exact hr I2 H2 s2 x y v u d Q w2 (Rep.mono x2.grow x v r1) r2 e3 fun z I3 H3 x3 w3 r3 => q z I3 H3 ((x1.trans x2 w2).trans x3 w3) w3 r3
theorem r_op {a b : Expr} {op : Operator} {ma mb : En → M D} {g : D → D → Option D} (o : OpD X dk l (binaryOp op) g) (ha : PE X a (lift X.K dk l W ma)) (hb : PE X b (lift X.K dk l W mb)) : PE X (.BinOp a op b pos) (lift X.K dk l W (eOp g ma mb)) := by
  obtain ⟨r, ho, hr⟩ := o
  exact PE_imp (pe_op ho ha hb) (bin_lift hr)
theorem r_cmp {a b : Expr} {op : CmpOp} {ma mb : En → M D} {g : D → D → Option D} (o : OpD X dk l (compareOp op) g) (ha : PE X a (lift X.K dk l W ma)) (hb : PE X b (lift X.K dk l W mb)) (hm : behindInMarks op b = false) : PE X (.Compare a [op] [b] pos) (lift X.K dk l W (eOp g ma mb)) := by
  obtain ⟨r, ho, hr⟩ := o
  exact PE_imp (pe_cmpR ho ha hb hm) (bin_lift hr)
/-- a test by its value -/
theorem r_tval {e : Expr} {m : En → M D} (h : PE X e (lift X.K dk l W m)) (he : ∀ whole, isTrue e X.env whole = (do let v ← whole; standAt e.pos; holding [v] (truthy v)) := by intro _; rfl) : PT X e (liftT X.K dk l W (tVal m)) := PT_imp (pt_val h he) fun σ H Q ⟨I, env, s, e, w, q⟩ => by
  refine ⟨I, env, s, e, w, q.bind.mono (fun x s1 q v I1 H1 x1 w1 r1 => ?_) fun _ _ _ h => h⟩
  obtain ⟨b, e2, q⟩ := q.opt
  cases x with
  | bl c =>
    have e3 : c = b := Option.some.inj e2
    subst e3
    exact ⟨c, r1, q I1 H1 x1 w1⟩
  | _ => cases e2
theorem r_tcmp {a b : Expr} {op : CmpOp} {ma mb : En → M D} {g : D → D → Option D} (o : OpD X dk l (compareOp op) g) (ha : PE X a (lift X.K dk l W ma)) (hb : PE X b (lift X.K dk l W mb)) (hm : behindInMarks op b = false) : PT X (.Compare a [op] [b] pos) (liftT X.K dk l W (tVal (eOp g ma mb))) := by
  obtain ⟨r, ho, hr⟩ := o
  refine PT_imp (pt_cmpR ho ha hb hm) fun σ H Q ⟨I, env, s, e, w, q⟩ => ?_
  show tOp r (lift X.K dk l W ma) (lift X.K dk l W mb) σ H fun x H1 => ∃ c, x = .bl c ∧ Q c H1
  refine bin_lift hr σ H _ ⟨I, env, s, e, w, q.bind.mono (fun x s1 q v I1 H1 x1 w1 r1 => ?_) fun _ _ _ h => h⟩
  obtain ⟨b, e2, q⟩ := q.opt
  cases x with
  | bl c =>
    have e3 : c = b := Option.some.inj e2
    subst e3
    exact ⟨c, r1, q I1 H1 x1 w1⟩
  | _ => cases e2
theorem r_not {a : Expr} {m : En → M Bool} (h : PT X a (liftT X.K dk l W m)) : PT X (.UnaryOp .Not a pos) (liftT X.K dk l W (tNot' m)) := PT_imp (pt_not h) fun σ H Q ⟨I, env, s, e, w, q⟩ => ⟨I, env, s, e, w, q.bind.mono (fun _ _ q => q) fun _ _ _ h => h⟩
theorem r_and1 {a : Expr} {m : En → M Bool} (h : PT X a (liftT X.K dk l W m)) : PW X (.BoolOp .And [a] pos) (liftT X.K dk l W m) := pw_and1 h
theorem r_or1 {a : Expr} {m : En → M Bool} (h : PT X a (liftT X.K dk l W m)) : PW X (.BoolOp .Or [a] pos) (liftT X.K dk l W m) := pw_or1 h
theorem r_and {a b : Expr} {rest : List Expr} {m n : En → M Bool} (h : PT X a (liftT X.K dk l W m)) (h2 : PW X (.BoolOp .And (b :: rest) pos) (liftT X.K dk l W n)) : PW X (.BoolOp .And (a :: b :: rest) pos) (liftT X.K dk l W (tAnd' m n)) := PW_imp (pw_and h h2) fun σ H Q ⟨I, env, s, e, w, q⟩ => by
  refine ⟨I, env, s, e, w, q.bind.mono (fun c s1 q I1 H1 x1 w1 => ?_) fun _ _ _ h => h⟩
  cases c with
  | true => exact ⟨I1, env, s1, e.ext x1, w1, q.mono (fun b s2 q I2 H2 x2 w2 => q I2 H2 (x1.trans x2 w2) w2) fun _ _ _ h => h.shift x1⟩
  | false => exact q I1 H1 x1 w1
theorem r_or {a b : Expr} {rest : List Expr} {m n : En → M Bool} (h : PT X a (liftT X.K dk l W m)) (h2 : PW X (.BoolOp .Or (b :: rest) pos) (liftT X.K dk l W n)) : PW X (.BoolOp .Or (a :: b :: rest) pos) (liftT X.K dk l W (tOr' m n)) := PW_imp (pw_or h h2) fun σ H Q ⟨I, env, s, e, w, q⟩ => by
  refine ⟨I, env, s, e, w, q.bind.mono (fun c s1 q I1 H1 x1 w1 => ?_) fun _ _ _ h => h⟩
  cases c with
  | true => exact q I1 H1 x1 w1
  | false => exact ⟨I1, env, s1, e.ext x1, w1, q.mono (fun b s2 q I2 H2 x2 w2 => q I2 H2 (x1.trans x2 w2) w2) fun _ _ _ h => h.shift x1⟩
theorem r_if {c a b : Expr} {m : En → M Bool} {ma mb : En → M D} (hc : PT X c (liftT X.K dk l W m)) (ha : PE X a (lift X.K dk l W ma)) (hb : PE X b (lift X.K dk l W mb)) : PE X (.IfExp c a b pos) (lift X.K dk l W (eIf m ma mb)) := PE_imp (pe_ifExp hc ha hb) fun σ H Q ⟨I, env, s, e, w, q⟩ => by
  refine ⟨I, env, s, e, w, q.bind.mono (fun c s1 q I1 H1 x1 w1 => ?_) fun _ _ _ h => h⟩
  cases c with
  | true => exact ⟨I1, env, s1, e.ext x1, w1, q.mono (fun b s2 q v I2 H2 x2 w2 => q v I2 H2 (x1.trans x2 w2) w2) fun _ _ _ h => h.shift x1⟩
  | false => exact ⟨I1, env, s1, e.ext x1, w1, q.mono (fun b s2 q v I2 H2 x2 w2 => q v I2 H2 (x1.trans x2 w2) w2) fun _ _ _ h => h.shift x1⟩
theorem r_anil : PA X [] (liftA X.K dk l W eAnil) := PA_imp pa_nil fun σ H Q ⟨I, env, s, e, w, q⟩ => q [] I H Ext.refl w rfl
theorem r_acons {a : Expr} {es : List Expr} {m : En → M D} {n : En → M (List D)} (h : PE X a (lift X.K dk l W m)) (h2 : PA X es (liftA X.K dk l W n)) (hs : starEach (a :: es) X.env = (false, eval a X.env) :: starEach es X.env := by rfl) : PA X (a :: es) (liftA X.K dk l W (eAcons m n)) := PA_imp (pa_cons h h2 hs) fun σ H Q ⟨I, env, s, e, w, q⟩ => by
  refine ⟨I, env, s, e, w, q.bind.mono (fun d s1 q v I1 H1 x1 w1 r1 => ?_) fun _ _ _ h => h⟩
  refine ⟨I1, env, s1, e.ext x1, w1, q.bind.mono (fun ds s2 q vs I2 H2 x2 w2 r2 => ?_) fun _ _ _ h => h.shift x1⟩
  exact q (v :: vs) I2 H2 (x1.trans x2 w2) w2 ⟨v, vs, rfl, Rep.mono x2.grow d v r1, r2⟩
/-- a display of a tuple -/
def gTupD : List D → Option D := fun ds => if ds.length ≤ 1000 then some (.tup ds) else none
theorem r_tup {es : List Expr} {n : En → M (List D)} {x1} (h : PA X es (liftA X.K dk l W n)) : PE X (.Tuple es x1 pos) (lift X.K dk l W (eMapA gTupD n)) := PE_imp (pe_tup h) fun σ H Q ⟨I, env, s, e, w, q⟩ => by
  refine ⟨I, env, s, e, w, q.bind.mono (fun ds s1 q vs I1 H1 x1 w1 r1 => ?_) fun _ _ _ h => h⟩
  obtain ⟨d, e2, q⟩ := q.opt
  unfold gTupD at e2
  split at e2
  · rename_i hl
    cases e2
    refine ⟨by rw [← r1.length]; exact Nat.le_trans hl (by decide), fun p hp => q _ (upd I1 p (.tup vs)) _ (x1.trans (Ext.new w1 hp) (w1.new hp)) (w1.new hp) ⟨p, vs, rfl, upd_same, RepL.mono (Sm.upd (w1.sub.none hp)) _ _ r1⟩⟩
  · cases e2
/-- a display of a list -/
def gLstO : List D → Option OD := fun ds => if ds.length ≤ 1000 then some (.lst ds) else none
theorem r_lst {es : List Expr} {n : En → M (List D)} (h : PA X es (liftA X.K dk l W n)) : PE X (.List es pos) (liftO X.K dk l W (eMapO gLstO n)) := PE_imp (pe_lst h) fun σ H Q ⟨I, env, s, e, w, q⟩ => by
  refine ⟨I, env, s, e, w, q.bind.mono (fun ds s1 q vs I1 H1 x1 w1 r1 => ?_) fun _ _ _ h => h⟩
  obtain ⟨d, e2, q⟩ := q.opt
  unfold gLstO at e2
  by_cases hl : ds.length ≤ 1000
  · rw [if_pos hl] at e2
    cases e2
    refine ⟨by rw [← r1.length]; exact Nat.le_trans hl (by decide), fun p hp => ?_⟩
    have n1 : p ≠ dk := (ne_of_none w1.dko hp).symm
    have n2 : p ≠ l := (ne_of_none w1.lft hp).symm
    have n3 : I1 p = none := w1.sub.none hp
    refine q p I1 _ (x1.trans (Ext.off w1 hp) (w1.off n3 n1 n2)) (w1.off n3 n1 n2) ?_ ⟨vs, upd_same, r1⟩ n1 n2 n3
    cases r : H p with
    | none => rfl
    | some u => rw [x1.keep p u r n1 n2] at hp; cases hp
  · rw [if_neg hl] at e2; cases e2
/-- freezing -/
theorem freeze {I H : Hp} {p : Addr} {o : OD} {s : Dk} (w : Wo dk l I H s) (h : OwnAt X.K I H dk p o) (n1 : p ≠ dk) (n2 : p ≠ l) (n3 : I p = none) : ∃ I', Sm I I' ∧ Wo dk l I' H s ∧ Rep X.K I' dk o.d (.ref p) ∧ (∀ q u, I' q = some u → I q = none → q = p) := by
  have core : ∀ u, H p = some u → Wo dk l (upd I p u) H s ∧ Sm I (upd I p u) ∧ (∀ q v, upd I p u q = some v → I q = none → q = p) := fun u hu => by
    refine ⟨⟨fun b x e => ?_, w.dko, w.lft, by rw [upd_ne n1.symm]; exact w.idk, by rw [upd_ne n2.symm]; exact w.il⟩, Sm.upd n3, fun q v hq hn => ?_⟩
    · by_cases hb : b = p
      · subst hb; rw [upd_same] at e; rw [hu]; exact e
      · rw [upd_ne hb] at e; exact w.sub b x e
    · by_cases hb : q = p
      · exact hb
      · rw [upd_ne hb, hn] at hq; cases hq
  cases o with
  | lst ds =>
    obtain ⟨vs, h1, r⟩ := h
    obtain ⟨c1, c2, c3⟩ := core _ h1
    exact ⟨_, c2, c1, ⟨p, vs, rfl, upd_same, RepL.mono c2 _ _ r⟩, c3⟩
  | dK ds =>
    obtain ⟨vs, h1, r⟩ := h
    obtain ⟨c1, c2, c3⟩ := core _ h1
    exact ⟨_, c2, c1, ⟨p, vs, rfl, upd_same, RepK.mono c2 _ _ r⟩, c3⟩
  | dT ds =>
    obtain ⟨vs, h1, r⟩ := h
    obtain ⟨c1, c2, c3⟩ := core _ h1
    exact ⟨_, c2, c1, ⟨p, vs, rfl, upd_same, RepT.mono c2 _ _ r⟩, c3⟩
theorem frz_read {m : En → M OD} (σ : L2.St) (H : Hp) (Q : VK) (h : lift X.K dk l W (eFrz m) σ H Q) : liftO X.K dk l W m σ H Q := by
  obtain ⟨I, env, s, e, w, q⟩ := h
  refine ⟨I, env, s, e, w, q.bind.mono (fun o s1 q p I1 H1 x1 w1 hp ho n1 n2 n3 => ?_) fun _ _ _ h => h⟩
  obtain ⟨I2, g, w2, r2, f2⟩ := freeze (X := X) w1 ho n1 n2 n3
  refine q _ I2 H1 ⟨x1.grow.trans g, x1.keep, fun a u ha hn => ?_⟩ w2 r2
  cases r : I1 a with
  | some y => exact x1.fresh a y r hn
  | none => rw [f2 a u ha r]; exact .inl hp
theorem r_frz {e : Expr} {m : En → M OD} (h : PE X e (liftO X.K dk l W m)) : PE X e (lift X.K dk l W (eFrz m)) := PE_imp h frz_read
end
end PV

end

section
set_option maxRecDepth 100000
namespace PV
open PySem PySem.Spec PyProof.Rows L2

/-! ### operations on plain values -/
def size7 : Nat := 10000000
theorem size7_le {n : Nat} (h : n ≤ size7) : n ≤ sizeLine := Nat.le_trans h (by decide)
def small64b (i : Int) : Bool := decide (-18446744073709551616 < i) && decide (i < 18446744073709551616)
def addD : D → D → Option D
  | .int a, .int b => some (.int (a + b))
  | .tup a, .tup b => if a.length + b.length ≤ size7 then some (.tup (a ++ b)) else none
  | .lst a, .lst b => if a.length + b.length ≤ size7 then some (.lst (a ++ b)) else none
  | _, _ => none
def subD : D → D → Option D
  | .int a, .int b => some (.int (a - b))
  | _, _ => none
def mulD : D → D → Option D
  | .int a, .int b => if (small64b a || small64b b) = true then some (.int (a * b)) else none
  | .tup a, .int k => if a ≠ [] ∧ 2 ≤ k ∧ k ≤ 1000 ∧ a.length ≤ 1000 then some (.tup (List.replicate k.toNat a).flatten) else none
  | .lst a, .int k => if 0 ≤ k ∧ k ≤ 1000 ∧ a.length ≤ 1000 then some (.lst (List.replicate k.toNat a).flatten) else none
  | _, _ => none
def fdivD : D → D → Option D
  | .int a, .int b => if b ≠ 0 ∧ b.natAbs < 1073741824 then some (.int (a.fdiv b)) else none
  | _, _ => none
def modD : D → D → Option D
  | .int a, .int b => if b ≠ 0 then some (.int (a.fmod b)) else none
  | _, _ => none
def powD : D → D → Option D
  | .int a, .int b => if (0 ≤ b ∧ b ≤ 1000000) ∧ a.natAbs < 18446744073709551616 then some (.int (a ^ b.toNat)) else none
  | _, _ => none
def ints? : List D → Option (List Int)
  | [] => some []
  | .int i :: r => (ints? r).map (i :: ·)
  | _ :: _ => none
def ltD : D → D → Option D
  | .int a, .int b => some (.bl (decide (a < b)))
  | .tup a, .tup b => (ints? a).bind fun ns => (ints? b).map fun ms => .bl (HT.lexLt ns ms)
  | _, _ => none
def leD : D → D → Option D
  | .int a, .int b => some (.bl (decide (a ≤ b)))
  | _, _ => none
def gtD : D → D → Option D
  | .int a, .int b => some (.bl (decide (b < a)))
  | _, _ => none
def geD : D → D → Option D
  | .int a, .int b => some (.bl (decide (b ≤ a)))
  | _, _ => none
mutual
def D.toP : D → Option PyData
  | .non => some .none
  | .bl b => some (.bool b)
  | .int i => some (.int i)
  | .str x => some (.str x)
  | .tup ds => (D.toPs ds).map .tuple
  | .lst ds => (D.toPs ds).map .list
  | _ => none
def D.toPs : List D → Option (List PyData)
  | [] => some []
  | d :: ds => match D.toP d, D.toPs ds with
    | some p, some r => some (p :: r)
    | _, _ => none
end
def eqD (x y : D) : Option D := match x.toP, y.toP with
  | some p, some q => if SeqAt.shaped p && SeqAt.shaped q then some (.bl (PyData.eqv p q)) else none
  | _, _ => none
def neD (x y : D) : Option D := match x.toP, y.toP with
  | some p, some q => if SeqAt.shaped p && SeqAt.shaped q then some (.bl (!PyData.eqv p q)) else none
  | _, _ => none
/-- is True, is not True; is None -/
def isD : D → D → Option D
  | .bl a, .bl b => some (.bl (decide (a = b)))
  | _, _ => none
def isntD : D → D → Option D
  | .bl a, .bl b => some (.bl (!decide (a = b)))
  | _, _ => none
def isND : D → D → Option D
  | .non, .non => some (.bl true)
  | .deck, .non => none
  | .exc _ _, .non => none
  | _, .non => some (.bl false)
  | _, _ => none
def isntND : D → D → Option D
  | .non, .non => some (.bl false)
  | .deck, .non => none
  | .exc _ _, .non => none
  | _, .non => some (.bl true)
  | _, _ => none
def seqOf : D → Option (List D)
  | .tup ds => some ds
  | .lst ds => some ds
  | _ => none
def inI (neg : Bool) : D → D → Option D
  | .int i, y => (seqOf y).bind fun ds => (ints? ds).map fun ns => .bl (if neg then !decide (i ∈ ns) else decide (i ∈ ns))
  | _, _ => none

section
variable {X : Cx} {dk l : Addr} {W : WX} {pos : Pos}
theorem ints?_eq : ∀ {ds : List D} {ns : List Int}, ints? ds = some ns → ds = ns.map D.int
  | [], ns, h => by
    cases h
    rfl
  | d :: ds, ns, h => by
    cases d with
    | int i =>
      simp only [ints?] at h
      cases e : ints? ds with
      | none => rw [e] at h; cases h
      | some ms =>
        rw [e] at h
        cases h
        rw [ints?_eq e]
        rfl
    | _ => cases h
/-- an int operation -/
theorem opd_int {f : Value → Value → Sem Value} {g : D → D → Option D} {C : Int → Int → Prop} {h : Int → Int → Int} (ho : OpR X f (rI C fun i j => .int (h i j)))
    (hg : ∀ x y d, g x y = some d → ∃ i j, x = .int i ∧ y = .int j ∧ C i j ∧ d = .int (h i j)) : OpD X dk l f g := by
  refine ⟨_, ho, fun I H s x y v u d Q w rx ry e q => ?_⟩
  obtain ⟨i, j, rfl, rfl, c, rfl⟩ := hg x y d e
  exact ⟨i, j, rx, ry, c, q _ I H Ext.refl w rfl⟩
theorem opd_int0 {f : Value → Value → Sem Value} {g : D → D → Option D} {h : Int → Int → V} {h' : Int → Int → D} (ho : OpR X f (rI0 h)) (hr : ∀ I i j, Rep X.K I dk (h' i j) (h i j))
    (hg : ∀ x y d, g x y = some d → ∃ i j, x = .int i ∧ y = .int j ∧ d = h' i j) : OpD X dk l f g := by
  refine ⟨_, ho, fun I H s x y v u d Q w rx ry e q => ?_⟩
  obtain ⟨i, j, rfl, rfl, rfl⟩ := hg x y d e
  exact ⟨i, j, rx, ry, q _ I H Ext.refl w (hr I i j)⟩
theorem o_sub : OpD X dk l (binaryOp .Sub) subD := opd_int0 op_sub (h' := fun i j => .int (i - j)) (fun _ _ _ => rfl) fun x y d e => by
  cases x <;> cases y <;> first | (cases e; exact ⟨_, _, rfl, rfl, rfl⟩) | cases e
theorem o_fdiv : OpD X dk l (binaryOp .FloorDiv) fdivD := opd_int op_fdivN fun x y d e => by
  cases x with
  | int a =>
    cases y with
    | int b =>
      simp only [fdivD] at e
      by_cases h : b ≠ 0 ∧ b.natAbs < 1073741824
      · rw [if_pos h] at e
        cases e
        exact ⟨_, _, rfl, rfl, h, rfl⟩
      · rw [if_neg h] at e
        cases e
    | _ => cases e
  | _ => cases e
theorem o_mod : OpD X dk l (binaryOp .Mod) modD := opd_int op_modN fun x y d e => by
  cases x with
  | int a =>
    cases y with
    | int b =>
      simp only [modD] at e
      by_cases h : b ≠ 0
      · rw [if_pos h] at e
        cases e
        exact ⟨_, _, rfl, rfl, h, rfl⟩
      · rw [if_neg h] at e
        cases e
    | _ => cases e
  | _ => cases e
theorem o_pow : OpD X dk l (binaryOp .Pow) powD := opd_int op_pow fun x y d e => by
  cases x with
  | int a =>
    cases y with
    | int b =>
      simp only [powD] at e
      by_cases h : (0 ≤ b ∧ b ≤ 1000000) ∧ a.natAbs < 18446744073709551616
      · rw [if_pos h] at e
        cases e
        exact ⟨_, _, rfl, rfl, ⟨h.1.1, h.1.2, h.2⟩, rfl⟩
      · rw [if_neg h] at e
        cases e
    | _ => cases e
  | _ => cases e
theorem o_le : OpD X dk l (compareOp .LtE) leD := opd_int0 op_le (h' := fun i j => .bl (decide (i ≤ j))) (fun _ _ _ => rfl) fun x y d e => by
  cases x <;> cases y <;> first | (cases e; exact ⟨_, _, rfl, rfl, rfl⟩) | cases e
theorem o_gt : OpD X dk l (compareOp .Gt) gtD := opd_int0 op_gt (h' := fun i j => .bl (decide (j < i))) (fun _ _ _ => rfl) fun x y d e => by
  cases x <;> cases y <;> first | (cases e; exact ⟨_, _, rfl, rfl, rfl⟩) | cases e
theorem o_ge : OpD X dk l (compareOp .GtE) geD := opd_int0 op_ge (h' := fun i j => .bl (decide (j ≤ i))) (fun _ _ _ => rfl) fun x y d e => by
  cases x <;> cases y <;> first | (cases e; exact ⟨_, _, rfl, rfl, rfl⟩) | cases e
theorem o_lt (hu : X.A.units < cLine) : OpD X dk l (compareOp .Lt) ltD := by
  refine ⟨_, OpR.or op_lt (op_ltT hu), fun I H s x y v u d Q w rx ry e q => ?_⟩
  cases x with
  | int i =>
    cases y with
    | int j => cases e; exact .inl ⟨i, j, rx, ry, q _ I H Ext.refl w rfl⟩
    | _ => cases e
  | tup a =>
    cases y with
    | tup b =>
      simp only [ltD] at e
      cases e1 : ints? a with
      | none => rw [e1] at e; cases e
      | some ns =>
        cases e2 : ints? b with
        | none => rw [e1, e2] at e; cases e
        | some ms =>
          rw [e1, e2] at e
          cases e
          obtain ⟨p, vs, rfl, h1, h2⟩ := rx
          obtain ⟨p', vs', rfl, h1', h2'⟩ := ry
          rw [ints?_eq e1] at h2
          rw [ints?_eq e2] at h2'
          have z1 := h2.ints_of
          have z2 := h2'.ints_of
          subst z1 z2
          exact .inr ⟨p, p', ns, ms, rfl, rfl, SqT.of (w.sub _ _ h1), SqT.of (w.sub _ _ h1'), q _ I H Ext.refl w rfl⟩
    | _ => cases e
  | _ => cases e
theorem o_add : OpD X dk l (binaryOp .Add) addD := by
  refine ⟨_, OpR.or op_add (OpR.or op_catA op_cat), fun I H s x y v u d Q w rx ry e q => ?_⟩
  cases x with
  | int i =>
    cases y with
    | int j => cases e; exact .inl ⟨i, j, rx, ry, q _ I H Ext.refl w rfl⟩
    | _ => cases e
  | tup a =>
    cases y with
    | tup b =>
      simp only [addD] at e
      by_cases hz : a.length + b.length ≤ size7
      · rw [if_pos hz] at e
        cases e
        obtain ⟨p, vs, rfl, h1, h2⟩ := rx
        obtain ⟨p', vs', rfl, h1', h2'⟩ := ry
        refine .inr (.inl ⟨p, p', vs, vs', rfl, rfl, SqT.of (w.sub _ _ h1), SqT.of (w.sub _ _ h1'), by rw [← h2.length, ← h2'.length]; exact size7_le hz, fun z => ?_, fun _ z => ?_, fun _ _ t ht => ?_⟩)
        · subst z
          have : a = [] := List.eq_nil_of_length_eq_zero (by rw [h2.length]; rfl)
          subst this
          exact q _ I H Ext.refl w ⟨p', vs', rfl, h1', h2'⟩
        · subst z
          have : b = [] := List.eq_nil_of_length_eq_zero (by rw [h2'.length]; rfl)
          subst this
          rw [List.append_nil] at q
          exact q _ I H Ext.refl w ⟨p, vs, rfl, h1, h2⟩
        · exact q _ _ _ (Ext.new w ht) (w.new ht) ⟨t, _, rfl, upd_same, RepL.mono (Sm.upd (w.sub.none ht)) _ _ (h2.append h2')⟩
      · rw [if_neg hz] at e; cases e
    | _ => cases e
  | lst a =>
    cases y with
    | lst b =>
      simp only [addD] at e
      by_cases hz : a.length + b.length ≤ size7
      · rw [if_pos hz] at e
        cases e
        obtain ⟨p, vs, rfl, h1, h2⟩ := rx
        obtain ⟨p', vs', rfl, h1', h2'⟩ := ry
        refine .inr (.inr ⟨p, p', vs, vs', rfl, rfl, w.sub _ _ h1, w.sub _ _ h1', by rw [← h2.length, ← h2'.length]; exact size7_le hz, fun t ht => ?_⟩)
        exact q _ _ _ (Ext.new w ht) (w.new ht) ⟨t, _, rfl, upd_same, RepL.mono (Sm.upd (w.sub.none ht)) _ _ (h2.append h2')⟩
      · rw [if_neg hz] at e; cases e
    | _ => cases e
  | _ => cases e
theorem RepL.rep {I : Hp} {ds : List D} {vs : List V} (h : RepL X.K I dk ds vs) : ∀ k : Nat, RepL X.K I dk (List.replicate k ds).flatten (List.replicate k vs).flatten
  | 0 => rfl
  | k + 1 => by
    rw [List.replicate_succ, List.replicate_succ, List.flatten_cons, List.flatten_cons]
    exact h.append (RepL.rep h k)
theorem small64b_ok {i : Int} (h : small64b i = true) : -(2 ^ 64) < i ∧ i < 2 ^ 64 := by
  unfold small64b at h
  rw [Bool.and_eq_true] at h
  exact ⟨of_decide_eq_true h.1, of_decide_eq_true h.2⟩
theorem o_mul : OpD X dk l (binaryOp .Mult) mulD := by
  refine ⟨_, OpR.or op_mul (OpR.or op_repT op_rep), fun I H s x y v u d Q w rx ry e q => ?_⟩
  cases x with
  | int i =>
    cases y with
    | int j =>
      simp only [mulD] at e
      by_cases hz : (small64b i || small64b j) = true
      · rw [if_pos hz] at e
        cases e
        refine .inl ⟨i, j, rx, ry, ?_, q _ I H Ext.refl w rfl⟩
        rw [Bool.or_eq_true] at hz
        rcases hz with z | z
        · exact .inl (small64b_ok z)
        · exact .inr (small64b_ok z)
      · rw [if_neg hz] at e; cases e
    | _ => cases e
  | tup a =>
    cases y with
    | int k =>
      simp only [mulD] at e
      by_cases hz : a ≠ [] ∧ 2 ≤ k ∧ k ≤ 1000 ∧ a.length ≤ 1000
      · rw [if_pos hz] at e
        cases e
        obtain ⟨p, vs, rfl, h1, h2⟩ := rx
        refine .inr (.inl ⟨p, k, vs, rfl, ry, SqT.of (w.sub _ _ h1), fun z => hz.1 (List.eq_nil_of_length_eq_zero (by rw [h2.length, z]; rfl)), hz.2.1, hz.2.2.1, by rw [← h2.length]; exact hz.2.2.2, fun t ht => ?_⟩)
        exact q _ _ _ (Ext.new w ht) (w.new ht) ⟨t, _, rfl, upd_same, RepL.mono (Sm.upd (w.sub.none ht)) _ _ (h2.rep _)⟩
      · rw [if_neg hz] at e; cases e
    | _ => cases e
  | lst a =>
    cases y with
    | int k =>
      simp only [mulD] at e
      by_cases hz : 0 ≤ k ∧ k ≤ 1000 ∧ a.length ≤ 1000
      · rw [if_pos hz] at e
        cases e
        obtain ⟨p, vs, rfl, h1, h2⟩ := rx
        refine .inr (.inr ⟨p, k, vs, rfl, ry, w.sub _ _ h1, by omega, by omega, ?_, fun t ht => ?_⟩)
        · rw [← h2.length]
          have h3 : k.toNat ≤ 1000 := by omega
          exact Nat.le_trans (Nat.mul_le_mul hz.2.2 h3) (by decide)
        · exact q _ _ _ (Ext.new w ht) (w.new ht) ⟨t, _, rfl, upd_same, RepL.mono (Sm.upd (w.sub.none ht)) _ _ (h2.rep _)⟩
      · rw [if_neg hz] at e; cases e
    | _ => cases e
  | _ => cases e
/-! ### equality -/
mutual
theorem dp_of {I H : Hp} (e : Sm I H) : ∀ (d : D) (v : V) (p : PyData), Rep X.K I dk d v → d.toP = some p → Dp X.K H v p
  | .non, v, p, h, q => by cases q; rw [show v = _ from h]; exact .non
  | .bl b, v, p, h, q => by cases q; rw [show v = _ from h]; exact .bl b
  | .int b, v, p, h, q => by cases q; rw [show v = _ from h]; exact .int b
  | .str b, v, p, h, q => by cases q; rw [show v = _ from h]; exact .str b
  | .tup ds, v, p, h, q => by
    obtain ⟨a, vs, rfl, h1, h2⟩ := h
    simp only [D.toP] at q
    cases z : D.toPs ds with
    | none => rw [z] at q; cases q
    | some ps => rw [z] at q; cases q; exact .tup (.of (e _ _ h1)) (dps_of e ds vs ps h2 z)
  | .lst ds, v, p, h, q => by
    obtain ⟨a, vs, rfl, h1, h2⟩ := h
    simp only [D.toP] at q
    cases z : D.toPs ds with
    | none => rw [z] at q; cases q
    | some ps => rw [z] at q; cases q; exact .lst (.of (e _ _ h1)) (dps_of e ds vs ps h2 z)
  | .dK _, _, _, _, q => by cases q
  | .dT _, _, _, _, q => by cases q
  | .deck, _, _, _, q => by cases q
  | .exc _ _, _, _, _, q => by cases q
theorem dps_of {I H : Hp} (e : Sm I H) : ∀ (ds : List D) (vs : List V) (ps : List PyData), RepL X.K I dk ds vs → D.toPs ds = some ps → DpAll X.K H vs ps
  | [], vs, ps, h, q => by cases q; rw [show vs = _ from h]; exact .nil
  | d :: ds, vs, ps, h, q => by
    obtain ⟨v, r, rfl, h1, h2⟩ := h
    simp only [D.toPs] at q
    cases z : D.toP d with
    | none => rw [z] at q; cases q
    | some p =>
      cases z2 : D.toPs ds with
      | none => rw [z, z2] at q; cases q
      | some qs =>
        rw [z, z2] at q
        cases q
        exact .cons (dp_of e d v p h1 z) (dps_of e ds r qs h2 z2)
end
theorem o_eq (hu : X.A.units + 64 < cLine) : OpD X dk l (compareOp .Eq) eqD := by
  refine ⟨_, op_eqD hu, fun I H s x y v u d Q w rx ry e q => ?_⟩
  unfold eqD at e
  cases z : x.toP with
  | none => rw [z] at e; cases e
  | some p =>
    cases z2 : y.toP with
    | none => rw [z, z2] at e; cases e
    | some p2 =>
      simp only [z, z2] at e
      by_cases hz : (SeqAt.shaped p && SeqAt.shaped p2) = true
      · rw [if_pos hz] at e
        cases e
        rw [Bool.and_eq_true] at hz
        exact ⟨p, p2, dp_of w.sub x v p rx z, dp_of w.sub y u p2 ry z2, hz.1, hz.2, q _ I H Ext.refl w rfl⟩
      · rw [if_neg hz] at e; cases e
theorem o_ne (hu : X.A.units + 64 < cLine) : OpD X dk l (compareOp .NotEq) neD := by
  refine ⟨_, op_neD hu, fun I H s x y v u d Q w rx ry e q => ?_⟩
  unfold neD at e
  cases z : x.toP with
  | none => rw [z] at e; cases e
  | some p =>
    cases z2 : y.toP with
    | none => rw [z, z2] at e; cases e
    | some p2 =>
      simp only [z, z2] at e
      by_cases hz : (SeqAt.shaped p && SeqAt.shaped p2) = true
      · rw [if_pos hz] at e
        cases e
        rw [Bool.and_eq_true] at hz
        exact ⟨p, p2, dp_of w.sub x v p rx z, dp_of w.sub y u p2 ry z2, hz.1, hz.2, q _ I H Ext.refl w rfl⟩
      · rw [if_neg hz] at e; cases e
theorem o_is : OpD X dk l (compareOp .Is) isD := by
  refine ⟨_, op_isBl, fun I H s x y v u d Q w rx ry e q => ?_⟩
  cases x <;> cases y <;> first | cases e | skip
  exact ⟨_, _, rx, ry, q _ I H Ext.refl w rfl⟩
theorem o_isnt : OpD X dk l (compareOp .IsNot) isntD := by
  refine ⟨_, op_notBl, fun I H s x y v u d Q w rx ry e q => ?_⟩
  cases x <;> cases y <;> first | cases e | skip
  exact ⟨_, _, rx, ry, q _ I H Ext.refl w rfl⟩
theorem flat_ints : ∀ ns : List Int, (ns.map V.int).all flatV = true
  | [] => rfl
  | n :: ns => by
    rw [List.map_cons, List.all_cons, flat_ints ns]
    rfl
theorem inV_ints (i : Int) : ∀ ns : List Int, inV (.int i) (ns.map V.int) = decide (i ∈ ns)
  | [] => by
    unfold inV
    simp
  | n :: ns => by
    have ih := inV_ints i ns
    unfold inV at ih ⊢
    rw [List.map_cons, List.any_cons, ih]
    have : eqV (.int n) (.int i) = decide (n = i) := by
      show (n == i) = decide (n = i)
      exact Bool.beq_eq_decide_eq n i
    rw [this]
    by_cases h : n = i
    · subst h; simp
    · have h' : ¬ i = n := fun z => h z.symm
      simp [h, h']
theorem in_run {neg : Bool} {op : CmpOp} (ho : OpR X (compareOp op) (rIn X.K neg)) : OpD X dk l (compareOp op) (inI neg) := by
  refine ⟨_, ho, fun I H s x y v u d Q w rx ry e q => ?_⟩
  cases x with
  | int i =>
    have core : ∀ (p : Addr) (vs : List V) (ds : List D), u = .ref p → (SqL X.K H p vs ∨ SqT X.K H p vs) → RepL X.K I dk ds vs → ((ints? ds).map fun ns => D.bl (if neg then !decide (i ∈ ns) else decide (i ∈ ns))) = some d → rIn X.K neg v u H Q := fun p vs ds e1 e2 e3 e4 => by
      cases z : ints? ds with
      | none => rw [z] at e4; cases e4
      | some ns =>
        rw [z] at e4
        cases e4
        rw [ints?_eq z] at e3
        have e5 := e3.ints_of
        subst e5
        have e6 : v = .int i := rx
        subst e6
        refine ⟨p, _, e1, e2, rfl, flat_ints ns, ?_⟩
        rw [inV_ints]
        exact q _ I H Ext.refl w rfl
    cases y with
    | tup ds =>
      obtain ⟨p, vs, e1, h1, h2⟩ := ry
      exact core p vs ds e1 (.inr (.of (w.sub _ _ h1))) h2 e
    | lst ds =>
      obtain ⟨p, vs, e1, h1, h2⟩ := ry
      exact core p vs ds e1 (.inl (.of (w.sub _ _ h1))) h2 e
    | _ => cases e
  | _ => cases e
theorem o_in : OpD X dk l (compareOp .In) (inI false) := in_run op_in_seq
theorem o_notin : OpD X dk l (compareOp .NotIn) (inI true) := in_run op_notIn_seq
end
end PV

end

section
set_option maxRecDepth 100000
namespace PV
open PySem PySem.Spec PyProof.Rows L2

/-! ### statements -/
inductive Fl where
  | nx (env : En) | rt (d : D) | bk (env : En) | ct (env : En)
structure SOk (K : PySem.W.Frag) (dk l : Addr) (I0 H0 I H : Hp) (env : En) (σ : L2.St) (s : Dk) : Prop where
  eok : EnvOk K dk l I H env σ
  wo : Wo dk l I H s
  ext : Ext dk l I0 H0 I H
  new : ∀ (i : Nat) (o : OD) (p : Addr), env[i]? = some (.own o) → σ[i]? = some (some (.ref p)) → H0 p = none
section
variable (K : PySem.W.Frag) (dk l : Addr) (W : WX) (I0 H0 : Hp)
def flP (I : Hp) (D : Ends) : Fl → Dk → Prop := fun f s' => match f with
  | .nx env' => ∀ σ' I' H', Sm I I' → SOk K dk l I0 H0 I' H' env' σ' s' → D.nx σ' H'
  | .rt d => ∀ v I' H', Ext dk l I0 H0 I' H' → Wo dk l I' H' s' → Rep K I' dk d v → D.rt v H'
  | .bk env' => ∀ σ' I' H', Sm I I' → SOk K dk l I0 H0 I' H' env' σ' s' → D.bk σ' H'
  | .ct env' => ∀ σ' I' H', Sm I I' → SOk K dk l I0 H0 I' H' env' σ' s' → D.ct σ' H'
variable {K dk l W I0 H0} in
theorem flP.shift {I I1 : Hp} {D : Ends} {f : Fl} {s : Dk} (g : Sm I I1) (h : flP K dk l I0 H0 I D f s) : flP K dk l I0 H0 I1 D f s := by
  cases f with
  | nx e => exact fun σ' I' H' g' k' => h σ' I' H' (g.trans g') k'
  | rt d => exact h
  | bk e => exact fun σ' I' H' g' k' => h σ' I' H' (g.trans g') k'
  | ct e => exact fun σ' I' H' g' k' => h σ' I' H' (g.trans g') k'
def exS : Nat → D → Dk → Prop := fun c d s' => ∀ σ' cls dd I' H', Ext dk l I0 H0 I' H' → Wo dk l I' H' s' → RepX K dk I' c d cls dd → W cls dd σ' H'
def liftS (m : En → M Fl) : TS := fun D σ H => ∃ I env s, SOk K dk l I0 H0 I H env σ s ∧ Post (m env s) (flP K dk l I0 H0 I D) (exS K dk l W I0 H0)
end
section
variable {K : PySem.W.Frag} {dk l : Addr} {W : WX} {I0 H0 I H I' H' : Hp} {env : En} {σ : L2.St} {s s' : Dk}
theorem SOk.grow (k : SOk K dk l I0 H0 I H env σ s) (x : Ext dk l I H I' H') (w : Wo dk l I' H' s') : SOk K dk l I0 H0 I' H' env σ s' := ⟨k.eok.ext x, w, k.ext.trans x w, k.new⟩
theorem SOk.exq {c : Nat} {d : D} {s' : Dk} (k : SOk K dk l I0 H0 I H env σ s) (h : exS K dk l W I0 H0 c d s') : exQ K dk l W I H σ c d s' := fun cls dd I' H' x w r => h σ cls dd I' H' (k.ext.trans x w) w r
end
/-! ### patterns -/
inductive Pat where
  | nm (i : Nat) | tp (ps : List Pat)
mutual
def gPat (K : PySem.W.Frag) : Pat → TG
  | .nm i => gName i
  | .tp ps => gTup K ps.length (gPats K ps)
def gPats (K : PySem.W.Frag) : List Pat → TGs
  | [] => gNil
  | p :: ps => gCons (gPat K p) (gPats K ps)
end
mutual
def bindP : Pat → D → En → Option En
  | .nm i, d, env => some (env.set i (.val d))
  | .tp ps, .tup ds, env => if ds.length = ps.length then bindPs ps ds env else none
  | .tp _, _, _ => none
def bindPs : List Pat → List D → En → Option En
  | [], [], env => some env
  | p :: ps, d :: ds, env => match bindP p d env with
    | some e => bindPs ps ds e
    | none => none
  | _, _, _ => none
end
mutual
def Pat.ix : Pat → List Nat
  | .nm i => [i]
  | .tp ps => Pat.ixs ps
def Pat.ixs : List Pat → List Nat
  | [] => []
  | p :: ps => p.ix ++ Pat.ixs ps
end
/-- from one row of slots to another: only those at ss have changed, and hold no own object -/
structure Chg (ss : List Nat) (env env' : En) (σ σ' : L2.St) : Prop where
  own : ∀ (i : Nat) (o : OD), env'[i]? = some (.own o) → env[i]? = some (.own o) ∧ i ∉ ss
  out : ∀ j, j ∉ ss → σ'[j]? = σ[j]?
  len : σ'.length = σ.length
theorem Chg.refl {env : En} {σ : L2.St} : Chg [] env env σ σ := ⟨fun i o h => ⟨h, by simp⟩, fun _ _ => rfl, rfl⟩
theorem Chg.trans {a b : List Nat} {e e1 e2 : En} {σ σ1 σ2 : L2.St} (x : Chg a e e1 σ σ1) (y : Chg b e1 e2 σ1 σ2) : Chg (a ++ b) e e2 σ σ2 where
  own := fun i o h => by
    obtain ⟨h1, n1⟩ := y.own i o h
    obtain ⟨h2, n2⟩ := x.own i o h1
    exact ⟨h2, fun z => (List.mem_append.mp z).elim n2 n1⟩
  out := fun j h => (y.out j fun z => h (List.mem_append_right _ z)).trans (x.out j fun z => h (List.mem_append_left _ z))
  len := y.len.trans x.len
theorem Chg.one {env : En} {σ : L2.St} {i : Nat} {d : D} {v : V} (hl : env.length = σ.length) : Chg [i] env (env.set i (.val d)) σ (σ.set i (some v)) where
  own := fun j o h => by
    by_cases hj : i = j
    · subst hj
      by_cases hl' : i < env.length
      · rw [List.getElem?_set_self hl'] at h; cases h
      · rw [List.getElem?_eq_none (by rw [List.length_set]; omega)] at h; cases h
    · rw [List.getElem?_set_ne hj] at h
      exact ⟨h, by simp; exact fun z => hj z.symm⟩
  out := fun j h => List.getElem?_set_ne (fun z => h (by simp [z]))
  len := List.length_set ..
section
variable {K : PySem.W.Frag} {dk l : Addr} {I H : Hp}
mutual
theorem gpat_ok (e : Sm I H) : ∀ (p : Pat) (d : D) (v : V) (env env' : En) (σ : L2.St) (Q : L2.St → Hp → Prop), EnvOk K dk l I H env σ → Rep K I dk d v → bindP p d env = some env' →
    (∀ σ', EnvOk K dk l I H env' σ' → Chg p.ix env env' σ σ' → Q σ' H) → gPat K p v σ H Q
  | .nm i, d, v, env, env', σ, Q, k, r, b, q => by
    simp only [bindP] at b
    cases b
    simp only [gPat, gName]
    exact q _ (k.set r) (by simp only [Pat.ix]; exact .one k.len)
  | .tp ps, d, v, env, env', σ, Q, k, r, b, q => by
    cases d with
    | tup ds =>
      simp only [bindP] at b
      by_cases hl : ds.length = ps.length
      · rw [if_pos hl] at b
        obtain ⟨a, vs, rfl, h1, h2⟩ := r
        simp only [gPat]
        refine ⟨a, vs, rfl, SqT.of (e _ _ h1), by rw [← h2.length]; exact hl, ?_⟩
        exact gpats_ok e ps ds vs env env' σ Q k h2 b (by simpa only [Pat.ix] using q)
      · rw [if_neg hl] at b; cases b
    | _ => simp only [bindP] at b; cases b
theorem gpats_ok (e : Sm I H) : ∀ (ps : List Pat) (ds : List D) (vs : List V) (env env' : En) (σ : L2.St) (Q : L2.St → Hp → Prop), EnvOk K dk l I H env σ → RepL K I dk ds vs → bindPs ps ds env = some env' →
    (∀ σ', EnvOk K dk l I H env' σ' → Chg (Pat.ixs ps) env env' σ σ' → Q σ' H) → gPats K ps vs σ H Q
  | [], ds, vs, env, env', σ, Q, k, r, b, q => by
    cases ds with
    | nil =>
      simp only [bindPs] at b
      cases b
      simp only [gPats]
      exact ⟨r, q σ k (by simp only [Pat.ixs]; exact .refl)⟩
    | cons _ _ => simp only [bindPs] at b; cases b
  | p :: ps, ds, vs, env, env', σ, Q, k, r, b, q => by
    cases ds with
    | nil => simp only [bindPs] at b; cases b
    | cons d ds =>
      simp only [bindPs] at b
      cases h : bindP p d env with
      | none => rw [h] at b; cases b
      | some e1 =>
        rw [h] at b
        obtain ⟨v, rs, rfl, h1, h2⟩ := r
        simp only [gPats]
        refine ⟨v, rs, rfl, ?_⟩
        refine gpat_ok e p d v env e1 σ _ k h1 h fun σ1 k1 c1 => ?_
        exact gpats_ok e ps ds rs e1 env' σ1 Q k1 h2 b fun σ2 k2 c2 => q σ2 k2 (by simp only [Pat.ixs]; exact c1.trans c2)
end
theorem SOk.chg {I0 H0 : Hp} {env env' : En} {σ σ' : L2.St} {s : Dk} {ss : List Nat} (k : SOk K dk l I0 H0 I H env σ s) (e : EnvOk K dk l I H env' σ') (c : Chg ss env env' σ σ') : SOk K dk l I0 H0 I H env' σ' s :=
  ⟨e, k.wo, k.ext, fun i o p h1 h2 => by
    obtain ⟨h3, n⟩ := c.own i o h1
    rw [c.out i n] at h2
    exact k.new i o p h3 h2⟩
end

/-! ### the mirror's pieces: statements -/
def sNext : En → M Fl := fun env => ret (.nx env)
def sSeq (a b : En → M Fl) : En → M Fl := fun env => andThen (a env) fun f => match f with
  | .nx e => b e
  | f => ret f
def sRet (m : En → M D) : En → M Fl := fun env => andThen (m env) fun d => ret (.rt d)
def sIf (t : En → M Bool) (a b : En → M Fl) : En → M Fl := fun env => andThen (t env) fun c => if c = true then a env else b env
def sAsg (p : Pat) (m : En → M D) : En → M Fl := fun env => andThen (m env) fun d => andThen (opt (bindP p d env)) fun e => ret (.nx e)
def sAsgO (i : Nat) (m : En → M OD) : En → M Fl := fun env => andThen (m env) fun o => ret (.nx (env.set i (.own o)))
def sDrop (m : En → M D) : En → M Fl := fun env => andThen (m env) fun _ => ret (.nx env)
def sBreak : En → M Fl := fun env => ret (.bk env)
def sCont : En → M Fl := fun env => ret (.ct env)
def forM' (p : Pat) (b : En → M Fl) : List D → En → M Fl
  | [], env => ret (.nx env)
  | d :: ds, env => andThen (opt (bindP p d env)) fun e1 => andThen (b e1) fun f => match f with
    | .nx e => forM' p b ds e
    | .ct e => forM' p b ds e
    | .bk e => ret (.nx e)
    | .rt d => ret (.rt d)
def sFor (it : En → M (List D)) (p : Pat) (b : En → M Fl) : En → M Fl := fun env => andThen (it env) fun ds => forM' p b ds env
def whileM (t : En → M Bool) (b : En → M Fl) : Nat → En → M Fl
  | 0, _ => bad
  | n + 1, env => andThen (t env) fun c => if c = true then andThen (b env) fun f => match f with
    | .nx e => whileM t b n e
    | .ct e => whileM t b n e
    | .bk e => ret (.nx e)
    | .rt d => ret (.rt d)
    else ret (.nx env)
def sWhile (n : Nat) (t : En → M Bool) (b : En → M Fl) : En → M Fl := fun env => whileM t b n env
/-- slots frozen -/
def Slot.frz : Slot → Slot
  | .own o => .val o.d
  | x => x
def frzAt (i : Nat) (env : En) : En := match env[i]? with
  | some (.own o) => env.set i (.val o.d)
  | _ => env
def frzAll : List Nat → En → En
  | [], env => env
  | i :: is, env => frzAll is (frzAt i env)
def sFrz (is : List Nat) (m : En → M Fl) : En → M Fl := fun env => m (frzAll is env)

section
variable {X : Cx} {dk l : Addr} {W : WX} {pos : Pos} {I0 H0 : Hp}
theorem p_nil : PSs X [] (liftS X.K dk l W I0 H0 sNext) := PSs_imp pss_nil fun D σ H ⟨I, env, s, k, q⟩ => q σ I H (Sm.refl I) k
theorem p_cons {st : Stmt} {rest : List Stmt} {a b : En → M Fl} (h1 : PS X st (liftS X.K dk l W I0 H0 a)) (h2 : PSs X rest (liftS X.K dk l W I0 H0 b)) : PSs X (st :: rest) (liftS X.K dk l W I0 H0 (sSeq a b)) := PSs_imp (pss_cons h1 h2) fun D σ H ⟨I, env, s, k, q⟩ => by
  refine ⟨I, env, s, k, q.bind.mono (fun f s1 q => ?_) fun _ _ _ h => h⟩
  cases f with
  | nx e => exact fun σ' I' H' g' k' => ⟨I', e, s1, k', q.mono (fun _ _ h => h.shift g') fun _ _ _ h => h⟩
  | rt d => exact q
  | bk e => exact q
  | ct e => exact q
theorem p_one {st : Stmt} {a : En → M Fl} (h1 : PS X st (liftS X.K dk l W I0 H0 a)) : PSs X [st] (liftS X.K dk l W I0 H0 a) := pss_one h1
theorem p_ret {e : Expr} {m : En → M D} (h : PE X e (lift X.K dk l W m)) : PS X (.Return (some e) pos) (liftS X.K dk l W I0 H0 (sRet m)) := PS_imp (ps_ret h) fun D σ H ⟨I, env, s, k, q⟩ => by
  refine ⟨I, env, s, k.eok, k.wo, q.bind.mono (fun d s1 q v I1 H1 x1 w1 r1 => q v I1 H1 (k.ext.trans x1 w1) w1 r1) fun _ _ _ h => k.exq h⟩
theorem p_if {c : Expr} {a b : List Stmt} {t : En → M Bool} {ma mb : En → M Fl} (hc : PT X c (liftT X.K dk l W t)) (ha : PSs X a (liftS X.K dk l W I0 H0 ma)) (hb : PSs X b (liftS X.K dk l W I0 H0 mb)) : PS X (.If c a b pos) (liftS X.K dk l W I0 H0 (sIf t ma mb)) := PS_imp (ps_if hc ha hb) fun D σ H ⟨I, env, s, k, q⟩ => by
  refine ⟨I, env, s, k.eok, k.wo, q.bind.mono (fun c s1 q I1 H1 x1 w1 => ?_) fun _ _ _ h => k.exq h⟩
  cases c with
  | true => exact ⟨I1, env, s1, k.grow x1 w1, q.mono (fun _ _ h => h.shift x1.grow) fun _ _ _ h => h⟩
  | false => exact ⟨I1, env, s1, k.grow x1 w1, q.mono (fun _ _ h => h.shift x1.grow) fun _ _ _ h => h⟩
theorem p_pass : PS X (.Pass pos) (liftS X.K dk l W I0 H0 sNext) := PS_imp ps_pass fun D σ H ⟨I, env, s, k, q⟩ => q σ I H (Sm.refl I) k
theorem p_break : PS X (.Break pos) (liftS X.K dk l W I0 H0 sBreak) := PS_imp ps_break fun D σ H ⟨I, env, s, k, q⟩ => q σ I H (Sm.refl I) k
theorem p_cont : PS X (.Continue pos) (liftS X.K dk l W I0 H0 sCont) := PS_imp ps_continue fun D σ H ⟨I, env, s, k, q⟩ => q σ I H (Sm.refl I) k
theorem p_doc {x j pos'} : PS X (.Expr (.Constant (.str x) j pos) pos') (liftS X.K dk l W I0 H0 sNext) := PS_imp ps_doc fun D σ H ⟨I, env, s, k, q⟩ => q σ I H (Sm.refl I) k
/-- target = e -/
theorem p_asg {tg e : Expr} {p : Pat} {m : En → M D} (h : PE X e (lift X.K dk l W m)) (hg : PG X tg (gPat X.K p)) (hs : swapsWithSole [tg] e pos.line X.env = pure false := by rfl) (hw : swappedStores [tg] e X.env = pure none := by rfl)
    (h1 : (assignEach [tg] X.env).map (·.2) = [assign tg X.env] := by rfl) : PS X (.Assign [tg] e pos) (liftS X.K dk l W I0 H0 (sAsg p m)) := PS_imp (ps_asg h hg hs hw h1) fun D σ H ⟨I, env, s, k, q⟩ => by
  refine ⟨I, env, s, k.eok, k.wo, q.bind.mono (fun d s1 q v I1 H1 x1 w1 r1 => ?_) fun _ _ _ h => k.exq h⟩
  obtain ⟨e2, e3, q⟩ := q.bind.opt
  have k1 := k.grow x1 w1
  exact gpat_ok w1.sub p d v env e2 σ _ k1.eok r1 e3 fun σ' k2 c => q σ' I1 H1 x1.grow (k1.chg k2 c)
theorem ownAp {K : PySem.W.Frag} {I H H1 : Hp} {env : En} {σ : L2.St} {p : Addr} (e : EnvOk K dk l I H env σ) (n : H p = none) : ∀ (j : Nat) (u : OD), env[j]? = some (.own u) → σ[j]? ≠ some (some (.ref p)) := fun j u h z => by
  obtain ⟨q, h1, h2, _⟩ := e.own j u h
  rw [h1] at z
  injection z with z
  injection z with z
  injection z with z
  subst z
  obtain ⟨w, hw⟩ := h2.ho
  rw [n] at hw
  cases hw
theorem asg_read {p : Pat} {m : En → M D} (D : Ends) (σ : L2.St) (H : Hp) (h : liftS X.K dk l W I0 H0 (sAsg p m) D σ H) : tAsg (lift X.K dk l W m) (gPat X.K p) D σ H := by
  obtain ⟨I, env, s, k, q⟩ := h
  refine ⟨I, env, s, k.eok, k.wo, q.bind.mono (fun d s1 q v I1 H1 x1 w1 r1 => ?_) fun _ _ _ h => k.exq h⟩
  obtain ⟨e2, e3, q⟩ := q.bind.opt
  have k1 := k.grow x1 w1
  exact gpat_ok w1.sub p d v env e2 σ _ k1.eok r1 e3 fun σ' k2 c => q σ' I1 H1 x1.grow (k1.chg k2 c)
theorem asgO_read {i : Nat} {m : En → M OD} (D : Ends) (σ : L2.St) (H : Hp) (h : liftS X.K dk l W I0 H0 (sAsgO i m) D σ H) : tAsg (liftO X.K dk l W m) (gName i) D σ H := by
  obtain ⟨I, env, s, k, q⟩ := h
  refine ⟨I, env, s, k.eok, k.wo, q.bind.mono (fun o s1 q p I1 H1 x1 w1 hp ho n1 n2 n3 => ?_) fun _ _ _ h => k.exq h⟩
  have k1 := k.grow x1 w1
  refine q _ I1 H1 x1.grow ⟨?_, w1, k1.ext, fun j u a h2 h3 => ?_⟩
  · exact k1.eok.setOwn ho n1 n2 n3 (fun _ _ _ h => h) fun j u _ h2 => ownAp (H1 := H1) k.eok hp j u h2
  · by_cases hj : i = j
    · subst hj
      by_cases hl : i < σ.length
      · rw [List.getElem?_set_self hl] at h3
        injection h3 with z
        injection z with z
        injection z with z
        subst z
        cases r : H0 p with
        | none => rfl
        | some u => rw [k.ext.keep p u r n1 n2] at hp; cases hp
      · rw [List.getElem?_eq_none (by rw [List.length_set]; omega)] at h3; cases h3
    · rw [List.getElem?_set_ne hj] at h2 h3
      exact k.new j u a h2 h3
/-- name = an object of its own -/
theorem p_asgO {i : Nat} {x : Str} {e : Expr} {m : En → M OD} {pos' : Pos} (h : PE X e (liftO X.K dk l W m)) (hg : PG X (.Name x pos') (gName i)) (hs : swapsWithSole [.Name x pos'] e pos.line X.env = pure false := by rfl) (hw : swappedStores [.Name x pos'] e X.env = pure none := by rfl)
    (h1 : (assignEach [.Name x pos'] X.env).map (·.2) = [assign (.Name x pos') X.env] := by rfl) : PS X (.Assign [.Name x pos'] e pos) (liftS X.K dk l W I0 H0 (sAsgO i m)) := PS_imp (ps_asg h hg hs hw h1) asgO_read
theorem p_drop {e : Expr} {m : En → M D} (h : PE X e (lift X.K dk l W m)) (hs : swapsWith e none pos.line X.env = pure false := by rfl) : PS X (.Expr e pos) (liftS X.K dk l W I0 H0 (sDrop m)) := PS_imp (ps_expr h hs) fun D σ H ⟨I, env, s, k, q⟩ => by
  exact ⟨I, env, s, k.eok, k.wo, q.bind.mono (fun d s1 q v I1 H1 x1 w1 r1 => q σ I1 H1 x1.grow (k.grow x1 w1)) fun _ _ _ h => k.exq h⟩
/-! freezing -/
theorem frzAt_ok {I H : Hp} {env : En} {σ : L2.St} {s : Dk} (i : Nat) (k : SOk X.K dk l I0 H0 I H env σ s) : ∃ I', SOk X.K dk l I0 H0 I' H (frzAt i env) σ s ∧ Sm I I' := by
  unfold frzAt
  cases h : env[i]? with
  | none => exact ⟨I, k, Sm.refl I⟩
  | some z =>
    cases z with
    | no => exact ⟨I, k, Sm.refl I⟩
    | val d => exact ⟨I, k, Sm.refl I⟩
    | own o =>
      obtain ⟨p, h1, h2, n1, n2, n3⟩ := k.eok.own i o h
      obtain ⟨I2, g, w2, r2, f2⟩ := freeze (X := X) k.wo h2 n1 n2 n3
      have hn := k.new i o p h h1
      have hil : i < env.length := (List.getElem?_eq_some_iff.mp h).1
      refine ⟨I2, ⟨⟨by rw [List.length_set]; exact k.eok.len, fun j d hj => ?_, fun j u hj => ?_, fun j m u v q h3 h4 h5 h6 => ?_⟩, w2, ⟨k.ext.grow.trans g, k.ext.keep, fun a u ha hb => ?_⟩, fun j u q h3 h4 => ?_⟩, g⟩
      · by_cases hj' : i = j
        · subst hj'
          rw [List.getElem?_set_self hil] at hj
          cases hj
          exact ⟨_, h1, r2⟩
        · rw [List.getElem?_set_ne hj'] at hj
          obtain ⟨v, e1, e2⟩ := k.eok.val j d hj
          exact ⟨v, e1, Rep.mono g d v e2⟩
      · by_cases hj' : i = j
        · subst hj'
          rw [List.getElem?_set_self hil] at hj
          cases hj
        · rw [List.getElem?_set_ne hj'] at hj
          obtain ⟨q, e1, e2, e3, e4, e5⟩ := k.eok.own j u hj
          refine ⟨q, e1, e2.move g fun _ z => z, e3, e4, ?_⟩
          cases r : I2 q with
          | none => rfl
          | some w =>
            have hq := f2 q w r e5
            subst hq
            exact absurd (k.eok.sep i j o u q h hj h1 e1) hj'
      · have nj : i ≠ j := fun z => by
          subst z
          rw [List.getElem?_set_self hil] at h3
          cases h3
        have nm : i ≠ m := fun z => by
          subst z
          rw [List.getElem?_set_self hil] at h4
          cases h4
        rw [List.getElem?_set_ne nj] at h3
        rw [List.getElem?_set_ne nm] at h4
        exact k.eok.sep j m u v q h3 h4 h5 h6
      · cases r : I a with
        | some w => exact k.ext.fresh a w r hb
        | none => rw [f2 a u ha r]; exact .inl hn
      · have nj : i ≠ j := fun z => by
          subst z
          rw [List.getElem?_set_self hil] at h3
          cases h3
        rw [List.getElem?_set_ne nj] at h3
        exact k.new j u q h3 h4
theorem frzAll_ok {H : Hp} {σ : L2.St} {s : Dk} : ∀ (is : List Nat) {I : Hp} {env : En}, SOk X.K dk l I0 H0 I H env σ s → ∃ I', SOk X.K dk l I0 H0 I' H (frzAll is env) σ s ∧ Sm I I'
  | [], I, env, k => ⟨I, k, Sm.refl I⟩
  | i :: is, I, env, k => by
    obtain ⟨I1, k1, g1⟩ := frzAt_ok i k
    obtain ⟨I2, k2, g2⟩ := frzAll_ok is k1
    exact ⟨I2, k2, g1.trans g2⟩
theorem p_frz {st : Stmt} {m : En → M Fl} (is : List Nat) (h : PS X st (liftS X.K dk l W I0 H0 m)) : PS X st (liftS X.K dk l W I0 H0 (sFrz is m)) := PS_imp h fun D σ H ⟨I, env, s, k, q⟩ => by
  obtain ⟨I1, k1, g1⟩ := frzAll_ok is k
  exact ⟨I1, _, s, k1, q.mono (fun _ _ h => h.shift g1) fun _ _ _ h => h⟩
end

/-! ### what is walked -/
structure Walks (K : PySem.W.Frag) (dk l : Addr) (J : It) (ds : List D) (B I : Hp) : Prop where
  go : ∀ I' H' s (i : Nat), Sm I I' → Sm B H' → Wo dk l I' H' s → i < ds.length → J.go i H'
  stop : ∀ I' H' s (i : Nat), Sm I I' → Sm B H' → Wo dk l I' H' s → i = ds.length → J.stop i H'
  yld : ∀ I' H' s (i : Nat) x H'' d, Sm I I' → Sm B H' → Wo dk l I' H' s → J.yld i H' x H'' → ds[i]? = some d → ∃ I'', Ext dk l I' H' I'' H'' ∧ Wo dk l I'' H'' s ∧ Rep K I'' dk d x
/-- .. over what stands frozen -/
def liftI (K : PySem.W.Frag) (dk l : Addr) (W : WX) (m : En → M (List D)) : TI := fun σ H R => ∃ I env s, EnvOk K dk l I H env σ ∧ Wo dk l I H s ∧
  Post (m env s) (fun ds s' => ∀ J I' H', Ext dk l I H I' H' → Wo dk l I' H' s' → Walks K dk l J ds I' I' → R J H') (exQ K dk l W I H σ)
/-- .. over what stands, but for the deck -/
def liftB (K : PySem.W.Frag) (dk l : Addr) (W : WX) (m : En → M (List D)) : TI := fun σ H R => ∃ I env s, EnvOk K dk l I H env σ ∧ Wo dk l I H s ∧
  Post (m env s) (fun ds s' => ∀ J B I' H', Ext dk l I H I' H' → Wo dk l I' H' s' → Sm B H' → (∀ a o, B a = some o → I' a = some o ∨ ∃ (i : Nat) (u : OD), env[i]? = some (.own u) ∧ σ[i]? = some (some (.ref a))) → B dk = none → B l = none → Walks K dk l J ds B I' → R J H') (exQ K dk l W I H σ)
theorem PI_imp {X : Cx} {tg e : Expr} {t t' : TI} (h : PI X tg e t) (i : ∀ σ H Q, t' σ H Q → t σ H Q) : PI X tg e t' := ⟨fun pins s σ H Q J q => h.run pins s σ H Q J (i σ H Q q)⟩
section
variable {X : Cx} {dk l : Addr} {W : WX} {pos : Pos} {I0 H0 : Hp}
theorem r_B {tg e : Expr} {m : En → M (List D)} (h : PI X tg e (liftI X.K dk l W m)) : PI X tg e (liftB X.K dk l W m) := PI_imp h fun σ H R ⟨I, env, s, k, w, q⟩ =>
  ⟨I, env, s, k, w, q.mono (fun ds s1 q J I1 H1 x1 w1 wk => q J I1 I1 H1 x1 w1 w1.sub (fun _ _ h => .inl h) w1.idk w1.il wk) fun _ _ _ h => h⟩
theorem p_for {tg iter : Expr} {body : List Stmt} {mi : En → M (List D)} {p : Pat} {mb : En → M Fl} (hp : PassesOwn (model X.prog X.w) X.A X.env X.xe) (hc : X.calm = true) (hi : PI X tg iter (liftI X.K dk l W mi)) (hg : PG X tg (gPat X.K p))
    (hb : PSs X body (liftS X.K dk l W I0 H0 mb)) (hs : ∀ x, foldedSetIterable iter X.env x = pure x := by intro _; rfl) : PS X (.For tg iter body [] pos) (liftS X.K dk l W I0 H0 (sFor mi p mb)) := PS_imp (ps_for hp hc hi hg hb hs) fun D σ H ⟨I, env, s, k, q⟩ => by
  refine ⟨I, env, s, k.eok, k.wo, q.bind.mono (fun ds s1 q J I1 H1 x1 w1 wk => ?_) fun _ _ _ h => k.exq h⟩
  refine ⟨fun i m σ H => m = ds.length - i ∧ i ≤ ds.length ∧ ∃ I env s, SOk X.K dk l I0 H0 I H env σ s ∧ Sm I1 I ∧ Post (forM' p mb (ds.drop i) env s) (flP X.K dk l I0 H0 I D) (exS X.K dk l W I0 H0),
    ⟨ds.length, by simp, Nat.zero_le _, I1, env, s1, k.grow x1 w1, Sm.refl _, q.mono (fun _ _ h => h.shift x1.grow) fun _ _ _ h => h⟩, ?_⟩
  rintro i m σ2 H2 ⟨rfl, hle, I2, env2, s2, k2, g2, q2⟩
  by_cases hlt : i < ds.length
  · obtain ⟨d, hd⟩ : ∃ d, ds[i]? = some d := ⟨ds[i], by simp [hlt]⟩
    have hdr : ds.drop i = d :: ds.drop (i + 1) := by
      rw [List.drop_eq_getElem_cons hlt]
      have : ds[i] = d := by
        rw [List.getElem?_eq_getElem hlt] at hd
        exact Option.some.inj hd
      rw [this]
    rw [hdr] at q2
    simp only [forM'] at q2
    refine .inr ⟨wk.go I2 H2 s2 i g2 (g2.trans k2.wo.sub) k2.wo hlt, fun σ' H' => ∃ I env s, SOk X.K dk l I0 H0 I H' env σ' s ∧ Sm I1 I ∧ Post (forM' p mb (ds.drop (i + 1)) env s) (flP X.K dk l I0 H0 I D) (exS X.K dk l W I0 H0),
      fun σ' H' h => ⟨_, by omega, rfl, hlt, h⟩, fun x H3 y => ?_⟩
    obtain ⟨I3, x3, w3, r3⟩ := wk.yld I2 H2 s2 i x H3 d g2 (g2.trans k2.wo.sub) k2.wo y hd
    obtain ⟨env3, e3, q3⟩ := q2.bind.opt
    have k3 := k2.grow x3 w3
    refine gpat_ok w3.sub p d x env2 env3 σ2 _ k3.eok r3 e3 fun σ4 k4 c4 => ?_
    refine ⟨I3, env3, s2, k3.chg k4 c4, q3.bind.mono (fun f s5 q5 => ?_) fun _ _ _ h => h⟩
    cases f with
    | nx e => exact fun σ' I' H' g' k' => ⟨I', e, s5, k', (g2.trans x3.grow).trans g', q5.mono (fun _ _ h => h.shift (x3.grow.trans g')) fun _ _ _ h => h⟩
    | ct e => exact fun σ' I' H' g' k' => ⟨I', e, s5, k', (g2.trans x3.grow).trans g', q5.mono (fun _ _ h => h.shift (x3.grow.trans g')) fun _ _ _ h => h⟩
    | bk e => exact fun σ' I' H' g' k' => q5 σ' I' H' (x3.grow.trans g') k'
    | rt d => exact q5
  · have hdr : ds.drop i = [] := List.drop_eq_nil_of_le (by omega)
    rw [hdr] at q2
    exact .inl ⟨wk.stop I2 H2 s2 i g2 (g2.trans k2.wo.sub) k2.wo (by omega), q2 σ2 I2 H2 (Sm.refl I2) k2⟩
end
end PV

end

section
set_option maxRecDepth 100000
namespace PV
open PySem PySem.Spec PyProof.Rows L2

/-! ### lists and tuples alike: t tells which -/
def SqA (K : PySem.W.Frag) (t : Bool) (H : Hp) (a : Addr) (xs : List V) : Prop := match t with
  | true => SqT K H a xs
  | false => SqL K H a xs
def ItA (t : Bool) (h : Heap) (it a : Addr) (i : Nat) : Prop := match t with
  | true => h.IsTupleIter it a i
  | false => h.IsListIter it a i
def IsA (t : Bool) (h : Heap) (a : Addr) (its : Array Value) : Prop := match t with
  | true => h.IsTuple a its
  | false => h.IsList a its
def obA (t : Bool) (a : Addr) : Obj := match t with
  | true => { cls := .type "tuple_iterator", data := .fields #[.ref a, .int 0 0] }
  | false => { cls := .type "list_iterator", data := .fields #[.ref a, .int 0 0] }
theorem ItA.obj {t : Bool} {h : Heap} {it a : Addr} {i : Nat} (x : ItA t h it a i) : ∃ o, h.get? it = some o ∧ ∀ v, o.data ≠ .cell v := by
  cases t with
  | true =>
    obtain ⟨o, e, _, d⟩ := (show h.IsTupleIter it a i from x)
    exact ⟨o, e, fun v z => by rw [d] at z; cases z⟩
  | false =>
    obtain ⟨o, e, _, d⟩ := (show h.IsListIter it a i from x)
    exact ⟨o, e, fun v z => by rw [d] at z; cases z⟩
theorem ItA.at {t : Bool} {h h' : Heap} {it a : Addr} {i : Nat} (x : ItA t h it a i) (k : ∀ o, h.get? it = some o → h'.get? it = some o) : ItA t h' it a i := by
  cases t with
  | true => exact Heap.IsTupleIter.at (show h.IsTupleIter it a i from x) k
  | false => exact Heap.IsListIter.at (show h.IsListIter it a i from x) k
theorem ItA.new {t : Bool} {h : Heap} {it a : Addr} (e : h.get? it = some (obA t a)) : ItA t h it a 0 := by
  cases t with
  | true => exact ⟨_, e, rfl, rfl⟩
  | false => exact ⟨_, e, rfl, rfl⟩
theorem drawsA {prog : Program} {w : World} {A : Around} (t : Bool) (hh : A.handled = none) (it a : Addr) (hne : a ≠ it) (its : Array Value) :
    Draws prog w A it [it, a] its.size (fun i v => its[i]? = some v) (fun i h => ItA t h it a i ∧ IsA t h a its) := by
  cases t with
  | true => exact Draws.tuple hh it a hne its
  | false => exact Draws.list hh it a hne its
theorem beginsA (t : Bool) (a : Addr) (its : Array Value) : Begins (.ref a) (obA t a) fun h => IsA t h a its := by
  cases t with
  | true => exact begins_tuple a its
  | false => exact begins_list a its
section
variable {X : Cx} {pins : List (Addr × Obj)} {σ : L2.St} {H : Hp} {s : Shared}
theorem invA {t : Bool} {a : Addr} {xs : List V} (I : Inv X pins σ H s) (h : SqA X.K t H a xs) : ∃ its : List Value, Vals xs its ∧ IsA t s.heap a its.toArray ∧ a < s.heap.objs.size := by
  cases t with
  | true =>
    obtain ⟨its, r, p, _⟩ := I.tuple h
    exact ⟨its, r, p, p.lt⟩
  | false =>
    obtain ⟨its, r, p, _⟩ := I.list h
    exact ⟨its, r, p.isList, p.lt⟩
theorem injA {t : Bool} {a : Addr} {xs ys : List V} (I : Inv X pins σ H s) (h : SqA X.K t H a xs) (h' : SqA X.K t H a ys) : xs = ys := by
  cases t with
  | true => exact I.tuple_inj h h'
  | false => exact I.list_inj h h'
end
/-! ### enumerate -/
def IteA (K : PySem.W.Frag) (t : Bool) (a : Addr) : It :=
  ⟨fun i H => ∃ (xs : List V) (x : V), SqA K t H a xs ∧ xs[i]? = some x, fun i H v H' => ∃ T x, v = .ref T ∧ H T = none ∧ H' = upd H T (.tup [.int (i : Nat), x]) ∧ ∀ xs, SqA K t H a xs → xs[i]? = some x, fun i H => ∃ xs : List V, SqA K t H a xs ∧ xs.length = i⟩
theorem turn_enumA {P : Program} {w : World} {K : PySem.W.Frag} {elts : List Expr} {kk : Nat} {tpos : Pos} (t : Bool) (a e it : Addr) (hea : e ≠ a) (hia : a ≠ it) :
    Turn P w K (.Tuple elts kk tpos) (IteA K t a) [e, it] e (fun i h => (∃ old, IsEnum h e it ((0 : Int) + (i : Int)) old) ∧ ItA t h it a i ∧ e ≠ it) where
  mem := by simp
  obj := fun i h st b hb => by
    obtain ⟨⟨old, he⟩, hi, _⟩ := st
    have e' : b = e ∨ b = it := by simpa using hb
    rcases e' with z | z
    · rw [z]; exact ⟨_, he, fun v q => nomatch q⟩
    · rw [z]; exact hi.obj
  keep := fun i h h' st k => let ⟨⟨old, he⟩, hi, hne⟩ := st; ⟨⟨old, k e (by simp) _ he⟩, hi.at fun o q => k it (by simp) o q, hne⟩
  item := by
    intro X hP hw hK hc i pins s σ H E J hf st hg
    subst hP hw hK
    obtain ⟨hen, hit, hne⟩ := st
    obtain ⟨xs, x, hq, hx⟩ := hg
    obtain ⟨its, rv, p, _⟩ := invA J hq
    obtain ⟨u, hu, ru⟩ := rv.get hx
    have hil : i < its.toArray.size := by
      have := (List.getElem?_eq_some_iff.mp hu).1
      simpa using this
    have Wk := WalksT.enumFrom (0 : Int) (drawsA (prog := X.prog) (w := X.w) (A := X.A.in1) t (J.ok.hd hc) it a hia its.toArray) e hne (by simp [hne, hea]) (by simp)
    refine Wk.item i s _ E hil ⟨hen, hit, p⟩ fun T vals h1 tk hv hT tup mid kp => ?_
    obtain ⟨t1, u', hu', rfl⟩ := hv
    have eu : u' = u := by
      have : its[i]? = some u' := by simpa using hu'
      rw [hu] at this
      exact (Option.some.inj this).symm
    subst eu
    refine ⟨_, rfl, Wk.go elts kk tpos i T { s with heap := h1, toks := tk } _ E mid fun h2 st2 kp2 => ?_⟩
    obtain ⟨hen2, hit2, _⟩ := st2
    have hTw : T ∉ [e, it] := Wk.apart i T h1 mid
    obtain ⟨oT, hoT, cT, nT, dT⟩ := tup
    have hT2 : h2.get? T = some oT := kp2 T oT hTw hoT
    have new : ObjOk X.prog X.w (upd H T (.tup [.int (i : Nat), x])) h2 T (.tup [.int (i : Nat), x]) :=
      ⟨by show 2 ≤ sizeLine; decide, [.int ((0 : Int) + (i : Int)) t1, u'], .cons ⟨t1, by rw [Int.zero_add]⟩ (.cons ru .nil), ⟨oT, hT2, cT, nT, dT⟩⟩
    have I1 : Inv X pins σ (upd H T (.tup [.int (i : Nat), x])) { s with heap := h2, toks := tk } :=
      J.turnedNew (ch := [e, it]) (fun b ob hb q => kp2 b ob hb (kp b ob hb q)) hf hT new
    refine ⟨.ref T, _, I1, rfl, ⟨T, x, rfl, J.hok.fresh hT, rfl, fun ys hy => by rw [injA J hy hq]; exact hx⟩, ⟨hen2, hit2, hne⟩, fun b hb => ?_⟩
    have hbT : b ≠ T := fun z => hTw (z ▸ hb)
    rw [upd_ne hbT]
    exact (hf b hb).1
  done := by
    intro X hP hw hK hc i pins s σ H E J hf st hg
    subst hP hw hK
    obtain ⟨hen, hit, hne⟩ := st
    obtain ⟨xs, hq, hx⟩ := hg
    obtain ⟨its, rv, p, _⟩ := invA J hq
    have hl : its.toArray.size = i := by rw [List.size_toArray, ← rv.length]; exact hx
    have Wk := WalksT.enumFrom (0 : Int) (drawsA (prog := X.prog) (w := X.w) (A := X.A.in1) t (J.ok.hd hc) it a hia its.toArray) e hne (by simp [hne, hea]) (by simp)
    have hst : (∃ old, IsEnum s.heap e it ((0 : Int) + ((its.toArray.size : Nat) : Int)) old) ∧ ItA t s.heap it a its.toArray.size ∧ IsA t s.heap a its.toArray := by
      rw [hl]
      exact ⟨hen, hit, p⟩
    exact Wk.done s _ E hst fun h' tk kp => ⟨rfl, J.turnedL (ch := [e, it]) (fun b o hb q => kp b o hb q) hf⟩
  self := fun A i s Q E st h => let ⟨⟨_, he⟩, _⟩ := st; wpAny_pyIter_enum he h
/-! ### zip of two -/
def ItzA (K : PySem.W.Frag) (t u : Bool) (a b : Addr) : It :=
  ⟨fun i H => ∃ (xs ys : List V) (x y : V), SqA K t H a xs ∧ SqA K u H b ys ∧ xs[i]? = some x ∧ ys[i]? = some y,
    fun i H v H' => ∃ T x y, v = .ref T ∧ H T = none ∧ H' = upd H T (.tup [x, y]) ∧ (∀ xs, SqA K t H a xs → xs[i]? = some x) ∧ ∀ ys, SqA K u H b ys → ys[i]? = some y,
    fun i H => ∃ xs ys : List V, SqA K t H a xs ∧ SqA K u H b ys ∧ min xs.length ys.length = i⟩
theorem turn_zipA {P : Program} {w : World} {K : PySem.W.Frag} {elts : List Expr} {kk : Nat} {tpos : Pos} (t u : Bool) {a b z TI TO i1 i2 : Addr} (D : ZipSep2 z TI TO i1 i2 [i1, a] [i2, b]) (n1 : a ≠ i1) (n2 : b ≠ i2) :
    Turn P w K (.Tuple elts kk tpos) (ItzA K t u a b) [z, TI, TO, i1, i2] z (fun i h => IsZip h z TI TO .none ∧ IsTupOf2 h TI (.ref i1) (.ref i2) ∧ (∃ x y, IsTupOf2 h TO x y) ∧ ItA t h i1 a i ∧ ItA u h i2 b i) where
  mem := by simp
  obj := fun i h st c hc => by
    obtain ⟨hz, hTI, ⟨x, y, hTO⟩, h1, h2⟩ := st
    have e' : c = z ∨ c = TI ∨ c = TO ∨ c = i1 ∨ c = i2 := by simpa using hc
    rcases e' with q | q | q | q | q
    · rw [q]; exact ⟨_, hz, fun v q => nomatch q⟩
    · rw [q]; exact ⟨_, hTI, fun v q => nomatch q⟩
    · rw [q]; exact ⟨_, hTO, fun v q => nomatch q⟩
    · rw [q]; exact h1.obj
    · rw [q]; exact h2.obj
  keep := fun i h h' st k => by
    obtain ⟨hz, hTI, ⟨x, y, hTO⟩, h1, h2⟩ := st
    exact ⟨k z (by simp) _ hz, k TI (by simp) _ hTI, ⟨x, y, k TO (by simp) _ hTO⟩, h1.at fun o q => k i1 (by simp) o q, h2.at fun o q => k i2 (by simp) o q⟩
  item := by
    intro X hP hw hK hc i pins s σ H E J hf st hg
    subst hP hw hK
    obtain ⟨hz, hTI, hTO, h1, h2⟩ := st
    obtain ⟨xs, ys, x, y, hqx, hqy, hx, hy⟩ := hg
    obtain ⟨its, rv, p, _⟩ := invA J hqx
    obtain ⟨its2, rv2, p2, _⟩ := invA J hqy
    obtain ⟨v1, hv1, r1⟩ := rv.get hx
    obtain ⟨v2, hv2, r2⟩ := rv2.get hy
    have l1 : i < its.length := (List.getElem?_eq_some_iff.mp hv1).1
    have l2 : i < its2.length := (List.getElem?_eq_some_iff.mp hv2).1
    have Wk := WalksT.zipD2 D (drawsA (prog := X.prog) (w := X.w) (A := X.A.in1) t (J.ok.hd hc) i1 a n1 its.toArray) (drawsA (prog := X.prog) (w := X.w) (A := X.A.in1) u (J.ok.hd hc) i2 b n2 its2.toArray)
    refine Wk.item i s _ E (by simp; omega) ⟨hz, hTI, hTO, ⟨h1, p⟩, ⟨h2, p2⟩⟩ fun T vals g1 tk hv hT tup mid kp => ?_
    obtain ⟨w1, w2, hw1, hw2, rfl⟩ := hv
    have e1 : w1 = v1 := by
      have : its[i]? = some w1 := by simpa using hw1
      rw [hv1] at this
      exact (Option.some.inj this).symm
    have e2 : w2 = v2 := by
      have : its2[i]? = some w2 := by simpa using hw2
      rw [hv2] at this
      exact (Option.some.inj this).symm
    subst e1 e2
    refine ⟨_, rfl, Wk.go elts kk tpos i T { s with heap := g1, toks := tk } _ E mid fun g2 st2 kp2 => ?_⟩
    obtain ⟨hz2, hTI2, hTO2, ⟨h12, _⟩, ⟨h22, _⟩⟩ := st2
    have hTw : T ∉ [z, TO, i1, i2] := Wk.apart i T g1 mid
    have hTI' : T ≠ TI := fun q => by
      subst q
      exact absurd (Heap.lt_size hTI) (Nat.not_lt.mpr hT)
    obtain ⟨oT, hoT, cT, nT, dT⟩ := tup
    have hT2 : g2.get? T = some oT := kp2 T oT hTw hoT
    have new : ObjOk X.prog X.w (upd H T (.tup [x, y])) g2 T (.tup [x, y]) :=
      ⟨by show 2 ≤ sizeLine; decide, [w1, w2], .cons r1 (.cons r2 .nil), ⟨oT, hT2, cT, nT, dT⟩⟩
    have sub : ∀ c, c ∉ [z, TI, TO, i1, i2] → c ∉ [z, TO, i1, i2] := fun c hc q => hc (by
      have e' : c = z ∨ c = TO ∨ c = i1 ∨ c = i2 := by simpa using q
      rcases e' with q | q | q | q <;> (rw [q]; simp))
    have I1 : Inv X pins σ (upd H T (.tup [x, y])) { s with heap := g2, toks := tk } :=
      J.turnedNew (ch := [z, TI, TO, i1, i2]) (fun c ob hb q => kp2 c ob (sub c hb) (kp c ob (sub c hb) q)) hf hT new
    refine ⟨.ref T, _, I1, rfl, ⟨T, x, y, rfl, J.hok.fresh hT, rfl, fun l hl => by rw [injA J hl hqx]; exact hx, fun l hl => by rw [injA J hl hqy]; exact hy⟩, ⟨hz2, hTI2, hTO2, h12, h22⟩, fun c hcm => ?_⟩
    have hcT : c ≠ T := fun q => by
      subst q
      have e' : c = z ∨ c = TI ∨ c = TO ∨ c = i1 ∨ c = i2 := by simpa using hcm
      rcases e' with q | q | q | q | q
      · exact hTw (by rw [q]; simp)
      · exact hTI' q
      · exact hTw (by rw [q]; simp)
      · exact hTw (by rw [q]; simp)
      · exact hTw (by rw [q]; simp)
    rw [upd_ne hcT]
    exact (hf c hcm).1
  done := by
    intro X hP hw hK hc i pins s σ H E J hf st hg
    subst hP hw hK
    obtain ⟨hz, hTI, hTO, h1, h2⟩ := st
    obtain ⟨xs, ys, hqx, hqy, he⟩ := hg
    obtain ⟨its, rv, p, _⟩ := invA J hqx
    obtain ⟨its2, rv2, p2, _⟩ := invA J hqy
    have Wk := WalksT.zipD2 D (drawsA (prog := X.prog) (w := X.w) (A := X.A.in1) t (J.ok.hd hc) i1 a n1 its.toArray) (drawsA (prog := X.prog) (w := X.w) (A := X.A.in1) u (J.ok.hd hc) i2 b n2 its2.toArray)
    have hl : min its.toArray.size its2.toArray.size = i := by
      rw [List.size_toArray, List.size_toArray, ← rv.length, ← rv2.length]
      exact he
    have hst : IsZip s.heap z TI TO .none ∧ IsTupOf2 s.heap TI (.ref i1) (.ref i2) ∧ (∃ a1 a2, IsTupOf2 s.heap TO a1 a2) ∧ (ItA t s.heap i1 a (min its.toArray.size its2.toArray.size) ∧ IsA t s.heap a its.toArray) ∧ (ItA u s.heap i2 b (min its.toArray.size its2.toArray.size) ∧ IsA u s.heap b its2.toArray) := by
      rw [hl]
      exact ⟨hz, hTI, hTO, ⟨h1, p⟩, ⟨h2, p2⟩⟩
    have sub : ∀ c, c ∉ [z, TI, TO, i1, i2] → c ∉ [z, TO, i1, i2] := fun c hc q => hc (by
      have e' : c = z ∨ c = TO ∨ c = i1 ∨ c = i2 := by simpa using q
      rcases e' with q | q | q | q <;> (rw [q]; simp))
    exact Wk.done s _ E hst fun h' tk kp => ⟨rfl, J.turnedL (ch := [z, TI, TO, i1, i2]) (fun c o hb q => kp c o (sub c hb) q) hf⟩
  self := fun A i s Q E st h => wpAny_pyIter_zip st.1 h
/-! ### enumerate(v): its two new cells -/
set_option maxHeartbeats 1000000 in
theorem enum_new1 {v : Value} {o : Obj} {G : Heap → Prop} (B : Begins v o G) :
    Meets (Builtin.«enumerate.__new__» ⟨[.type "enumerate", v], []⟩) (fun _ R z => G z.heap ∧
      R (.ok (.ret (.ref (z.heap.push o).objs.size))) { z with heap := (z.heap.push o).push { cls := .type "enumerate", data := .fields #[.none, .bool false, .ref z.heap.objs.size, rawInt 0, .none, .none] } }) :=
  .of_wp fun P w A R z hz => by
    obtain ⟨hp, g, d, tk, os⟩ := z
    obtain ⟨g1, q⟩ := hz
    have su := sub_enumerate
    have it : ∀ {B' : Around} {E : Value → Shared → Prop} {Q : Value → Shared → Prop}, Q (.ref hp.objs.size) ⟨hp.push o, g, d, tk, os⟩ → wpAny (model P w) B' (pyIter v) Q E ⟨hp, g, d, tk, os⟩ :=
      fun y => B.iter P w _ _ ⟨hp, g, d, tk, os⟩ _ g1 y
    wp_walk using it
    refine wpAny_stack_any fun sk => wpAny_pure ?_
    split
    · rename_i c _ _ _ _ _
      cases (c == Value.type "enumerate") <;> (wp_walk using it; exact ⟨_, rfl, q⟩)
    · wp_walk using it
      exact ⟨_, rfl, q⟩
theorem enum_begins1 {P : Program} {w : World} {A : Around} {E : Value → Shared → Prop} {z : Shared} {v : Value} {o : Obj} {G : Heap → Prop} {Q : Value → Shared → Prop} (B : Begins v o G) (g1 : G z.heap)
    (q : ∀ h', IsEnum h' (z.heap.objs.size + 1) z.heap.objs.size 0 .none → h'.get? z.heap.objs.size = some o → h'.objs.size = z.heap.objs.size + 2 → (∀ b u, z.heap.get? b = some u → h'.get? b = some u) → Q (.ref (z.heap.objs.size + 1)) { z with heap := h' }) :
    wpAny (model P w) A (call (.type "enumerate") [v]) Q E z := by
  refine callType_new F.called_enumerate (by decide) (F.typeCall_enumerate_1 _) (F.newCall_enumerate_1 _) (fun ob => F.args_object_init_2 ob _) F.entry_enumerate_new (enum_new1 B) ⟨g1, ?_⟩
  have ez : (z.heap.push o).objs.size = z.heap.objs.size + 1 := Heap.size_push ..
  show _ ∧ _
  rw [ez]
  have ie : IsEnum ((z.heap.push o).push { cls := .type "enumerate", data := .fields #[.none, .bool false, .ref z.heap.objs.size, rawInt 0, .none, .none] }) (z.heap.objs.size + 1) z.heap.objs.size 0 .none := by
    have y := Heap.get?_push_size (z.heap.push o) (o := { cls := .type "enumerate", data := .fields #[.none, .bool false, .ref z.heap.objs.size, rawInt 0, .none, .none] }) rfl
    rw [ez] at y
    exact y
  exact ⟨⟨_, ie, rfl⟩, q _ ie (Heap.get?_push_of_some _ (Heap.get?_push_size _ B.free)) (by rw [Heap.size_push, ez]) fun b u y => Heap.get?_push_of_some _ (Heap.get?_push_of_some _ y)⟩
/-! ### as walked things -/
def iEnumA (K : PySem.W.Frag) (ta : TA) : TI := fun σ H R => ta σ H fun vs H1 => ∃ t a xs, vs = [.ref a] ∧ SqA K t H1 a xs ∧ R (IteA K t a) H1
theorem pi_enumA {X : Cx} {e : Expr} {ta : TA} {p pos tpos : Pos} {elts : List Expr} {kk : Nat} (hg : Gl X "enumerate") (hm : X.mg "enumerate" = none) (ha : PA X [e] ta) (hs : starEach [e] X.env = [(false, eval e X.env)] := by rfl) :
    PI X (.Tuple elts kk tpos) (.Call (.Name "enumerate" p) [e] [] pos) (iEnumA X.K ta) := by
  refine ⟨fun pins s σ H R J h => ?_⟩
  refine Call_ (ld_blt J hg hm boot_enumerate (PyProof.Rows.callWith_type1 (thn (ha.run pos pins s σ H _ J h) fun us s1 ⟨vs, H1, I1, r1, q1⟩ => ?_) hs rfl))
  obtain ⟨t, a, xs, ex, hq, q⟩ := q1
  subst ex
  cases r1 with
  | cons r rr =>
    cases rr
    cases r
    obtain ⟨its, rv, p', hlt⟩ := invA I1 hq
    have ha1 : a ≠ s1.heap.objs.size := Nat.ne_of_lt hlt
    have ha2 : s1.heap.objs.size + 1 ≠ a := Nat.ne_of_gt (Nat.lt_succ_of_lt hlt)
    refine enum_begins1 (beginsA t a its.toArray) p' fun h' he hit hsz hk => wpAny_pyIter_enum he ?_
    have I2 : Inv X pins σ H1 { s1 with heap := h' } := I1.kept (t' := s1.toks) hk
    refine ⟨s1.heap.objs.size + 1, [s1.heap.objs.size + 1, s1.heap.objs.size], _, _, H1, rfl, I2, turn_enumA t a (s1.heap.objs.size + 1) s1.heap.objs.size ha2 ha1, ⟨⟨.none, he⟩, ItA.new hit, Nat.succ_ne_self _⟩, fun b hb => ?_, q⟩
    have e' : b = s1.heap.objs.size + 1 ∨ b = s1.heap.objs.size := by simpa using hb
    have hle : s1.heap.objs.size ≤ b := by
      rcases e' with z | z
      · rw [z]; exact Nat.le_add_right _ _
      · rw [z]; exact Nat.le_refl _
    exact I1.fpOk hle (I1.hok.fresh hle)
def iZipM (K : PySem.W.Frag) (ta : TA) : TI := fun σ H R => ta σ H fun vs H1 => ∃ t u a b xs ys, vs = [.ref a, .ref b] ∧ SqA K t H1 a xs ∧ SqA K u H1 b ys ∧ R (ItzA K t u a b) H1
theorem pi_zipM {X : Cx} {e e2 : Expr} {ta : TA} {p pos tpos : Pos} {elts : List Expr} {kk : Nat} (hg : Gl X "zip") (hm : X.mg "zip" = none) (ha : PA X [e, e2] ta)
    (hs : starEach [e, e2] X.env = (false, eval e X.env) :: starEach [e2] X.env := by rfl) (hpl : (backTo pos (starEach [e2] X.env)).any (·.1) = false := by rfl) :
    PI X (.Tuple elts kk tpos) (.Call (.Name "zip" p) [e, e2] [] pos) (iZipM X.K ta) := by
  refine ⟨fun pins s σ H R J h => ?_⟩
  refine Call_ (ld_blt J hg hm PyProof.Rows.boot_zip (PyProof.Rows.callWith_type1 (thn (ha.run pos pins s σ H _ J h) fun us s1 ⟨vs, H1, I1, r1, q1⟩ => ?_) hs hpl))
  obtain ⟨t, u, a, b, xs, ys, ex, hqx, hqy, q⟩ := q1
  subst ex
  cases r1 with
  | cons r rr =>
    cases rr with
    | cons r' rr =>
      cases rr
      cases r
      cases r'
      obtain ⟨its, rv, p1, la⟩ := invA I1 hqx
      obtain ⟨its2, rv2, p2, lb⟩ := invA I1 hqy
      refine zip_begins2 (beginsA t a its.toArray) (beginsA u b its2.toArray) p1 p2 fun h' hz hTI hTO h1 h2 hsz hk => wpAny_pyIter_zip hz ?_
      have I2 : Inv X pins σ H1 { s1 with heap := h' } := I1.kept (t' := s1.toks) hk
      refine ⟨s1.heap.objs.size + 4, [s1.heap.objs.size + 4, s1.heap.objs.size + 2, s1.heap.objs.size + 3, s1.heap.objs.size, s1.heap.objs.size + 1], _, _, H1, rfl, I2,
        turn_zipA t u (zip_sep2 (fp1 := [a]) (fp2 := [b]) (by simpa using la) (by simpa using lb)) (Nat.ne_of_lt la) (Nat.ne_of_lt (Nat.lt_succ_of_lt lb)), ⟨hz, hTI, ⟨_, _, hTO⟩, ItA.new h1, ItA.new h2⟩, fun c hcm => ?_, q⟩
      have e' : c = s1.heap.objs.size + 4 ∨ c = s1.heap.objs.size + 2 ∨ c = s1.heap.objs.size + 3 ∨ c = s1.heap.objs.size ∨ c = s1.heap.objs.size + 1 := by simpa using hcm
      have hle : s1.heap.objs.size ≤ c := by
        rcases e' with z | z | z | z | z
        · rw [z]; exact Nat.le_add_right _ _
        · rw [z]; exact Nat.le_add_right _ _
        · rw [z]; exact Nat.le_add_right _ _
        · rw [z]; exact Nat.le_refl _
        · rw [z]; exact Nat.le_add_right _ _
      exact I1.fpOk hle (I1.hok.fresh hle)
end PV

end

section
set_option maxRecDepth 100000
namespace PV
open PySem PySem.Spec PyProof.Rows L2

/-! ### what is walked, by the mirror -/
def eItems (m : En → M D) : En → M (List D) := fun env => andThen (m env) fun d => opt (seqOf d)
def eOwnItems (i : Nat) : En → M (List D) := fun env => match env[i]? with
  | some (.own (.lst ds)) => ret ds
  | some (.val d) => opt (seqOf d)
  | _ => bad
def rangeD (lo hi : Int) : List D := (List.range (hi - lo).toNat).map fun (i : Nat) => .int (lo + (i : Int))
def small62 (i : Int) : Bool := decide (-4611686018427387904 ≤ i) && decide (i < 4611686018427387904)
def gRange1 : List D → Option (List D)
  | [.int j] => if small62 j = true then some (rangeD 0 j) else none
  | _ => none
def gRange2 : List D → Option (List D)
  | [.int i, .int j] => if (small62 i && small62 j) = true then some (rangeD i j) else none
  | _ => none
theorem gRange1_inv {ds out : List D} (h : gRange1 ds = some out) : ∃ j, ds = [.int j] ∧ (if small62 j = true then some (rangeD 0 j) else none) = some out := by
  rcases ds with _ | ⟨d, _ | ⟨e, r⟩⟩
  · cases h
  · cases d <;> first | cases h | exact ⟨_, rfl, h⟩
  · cases d <;> cases h
theorem gRange2_inv {ds out : List D} (h : gRange2 ds = some out) : ∃ i j, ds = [.int i, .int j] ∧ (if (small62 i && small62 j) = true then some (rangeD i j) else none) = some out := by
  rcases ds with _ | ⟨d, _ | ⟨e, _ | ⟨f, r⟩⟩⟩
  · cases h
  · cases d <;> cases h
  · cases d <;> cases e <;> first | cases h | exact ⟨_, _, rfl, h⟩
  · cases d <;> cases e <;> cases h
def enumD : Nat → List D → List D
  | _, [] => []
  | i, d :: ds => .tup [.int (i : Nat), d] :: enumD (i + 1) ds
def gEnum : List D → Option (List D)
  | [d] => (seqOf d).map (enumD 0)
  | _ => none
def zipD : List D → List D → List D
  | x :: xs, y :: ys => .tup [x, y] :: zipD xs ys
  | _, _ => []
def gZip : List D → Option (List D)
  | [d, e] => (seqOf d).bind fun xs => (seqOf e).map fun ys => zipD xs ys
  | _ => none
theorem gEnum_inv {ds out : List D} (h : gEnum ds = some out) : ∃ d, ds = [d] ∧ (seqOf d).map (enumD 0) = some out := by
  rcases ds with _ | ⟨d, _ | ⟨e, r⟩⟩
  · cases h
  · exact ⟨d, rfl, h⟩
  · cases h
theorem gZip_inv {ds out : List D} (h : gZip ds = some out) : ∃ d e, ds = [d, e] ∧ ((seqOf d).bind fun xs => (seqOf e).map fun ys => zipD xs ys) = some out := by
  rcases ds with _ | ⟨d, _ | ⟨e, _ | ⟨f, r⟩⟩⟩
  · cases h
  · cases h
  · exact ⟨d, e, rfl, h⟩
  · cases h
def eMapI (g : List D → Option (List D)) (a : En → M (List D)) : En → M (List D) := fun env => andThen (a env) fun xs => opt (g xs)

theorem small62_ok {i : Int} (h : small62 i = true) : -(2 ^ 62) ≤ i ∧ i < 2 ^ 62 := by
  unfold small62 at h
  rw [Bool.and_eq_true] at h
  exact ⟨of_decide_eq_true h.1, of_decide_eq_true h.2⟩
theorem enumD_get : ∀ (ds : List D) (k i : Nat), (enumD k ds)[i]? = (ds[i]?).map fun d => .tup [.int ((k + i : Nat) : Int), d]
  | [], k, i => by simp [enumD]
  | d :: ds, k, 0 => by simp [enumD]
  | d :: ds, k, i + 1 => by
    simp only [enumD, List.getElem?_cons_succ]
    rw [enumD_get ds (k + 1) i]
    have : k + 1 + i = k + (i + 1) := by omega
    rw [this]
theorem enumD_len : ∀ (ds : List D) (k : Nat), (enumD k ds).length = ds.length
  | [], _ => rfl
  | d :: ds, k => by simp [enumD, enumD_len ds]
theorem zipD_get : ∀ (xs ys : List D) (i : Nat) (d : D), (zipD xs ys)[i]? = some d → ∃ x y, xs[i]? = some x ∧ ys[i]? = some y ∧ d = .tup [x, y]
  | [], ys, i, d, h => by simp [zipD] at h
  | x :: xs, [], i, d, h => by simp [zipD] at h
  | x :: xs, y :: ys, 0, d, h => by
    simp only [zipD, List.getElem?_cons_zero] at h
    cases h
    exact ⟨x, y, rfl, rfl, rfl⟩
  | x :: xs, y :: ys, i + 1, d, h => by
    simp only [zipD, List.getElem?_cons_succ] at h ⊢
    exact zipD_get xs ys i d h
theorem zipD_len : ∀ (xs ys : List D), (zipD xs ys).length = min xs.length ys.length
  | [], ys => by simp [zipD]
  | x :: xs, [] => by simp [zipD]
  | x :: xs, y :: ys => by
    simp only [zipD, List.length_cons, zipD_len xs ys]
    omega
section
variable {X : Cx} {dk l : Addr} {W : WX} {pos : Pos} {tg : Expr}
/-- a frozen sequence, as it is found -/
theorem seq_at {I H : Hp} {s : Dk} {d : D} {ds : List D} {v : V} (w : Wo dk l I H s) (r : Rep X.K I dk d v) (e : seqOf d = some ds) : ∃ t a vs, v = .ref a ∧ SqA X.K t I a vs ∧ RepL X.K I dk ds vs := by
  cases d with
  | tup es =>
    cases e
    obtain ⟨a, vs, e1, e2, e3⟩ := r
    exact ⟨true, a, vs, e1, .of e2, e3⟩
  | lst es =>
    cases e
    obtain ⟨a, vs, e1, e2, e3⟩ := r
    exact ⟨false, a, vs, e1, .of e2, e3⟩
  | _ => cases e
theorem SqA.mono {K : PySem.W.Frag} {t : Bool} {H H' : Hp} {a : Addr} {xs : List V} (e : Sm H H') (h : SqA K t H a xs) : SqA K t H' a xs := by
  cases t with
  | true => exact e.sqT h
  | false => exact e.sqL h
def itA (K : PySem.W.Frag) (t : Bool) (a : Addr) : It := match t with
  | true => Itt K a
  | false => Itl K a
theorem walks_A {t : Bool} {a : Addr} {vs : List V} {B I : Hp} {ds : List D} (h : SqA X.K t B a vs) (r : RepL X.K I dk ds vs) : Walks X.K dk l (itA X.K t a) ds B I := by
  have e := r.length
  cases t with
  | true =>
    refine ⟨fun I' H' s i g b w hi => ⟨vs, vs[i]'(by omega), b.sqT h, by simp [show i < vs.length by omega]⟩, fun I' H' s i g b w hi => ⟨vs, b.sqT h, by omega⟩, fun I' H' s i x H'' d g b w y hd => ?_⟩
    obtain ⟨rfl, y⟩ := y
    obtain ⟨v, hv, rv⟩ := r.get hd
    have := y vs (b.sqT h)
    rw [hv] at this
    cases this
    exact ⟨I', Ext.refl, w, Rep.mono g d _ rv⟩
  | false =>
    refine ⟨fun I' H' s i g b w hi => ⟨vs, vs[i]'(by omega), b.sqL h, by simp [show i < vs.length by omega]⟩, fun I' H' s i g b w hi => ⟨vs, b.sqL h, by omega⟩, fun I' H' s i x H'' d g b w y hd => ?_⟩
    obtain ⟨rfl, y⟩ := y
    obtain ⟨v, hv, rv⟩ := r.get hd
    have := y vs (b.sqL h)
    rw [hv] at this
    cases this
    exact ⟨I', Ext.refl, w, Rep.mono g d _ rv⟩
/-- either of two ways to walk -/
theorem PI_or {e : Expr} {t t' : TI} (h : PI X tg e t) (h' : PI X tg e t') : PI X tg e (fun σ H R => t σ H R ∨ t' σ H R) := ⟨fun pins s σ H R J q => q.elim (h.run pins s σ H R J) (h'.run pins s σ H R J)⟩
theorem r_items {e : Expr} {m : En → M D} (h : PE X e (lift X.K dk l W m)) : PI X tg e (liftI X.K dk l W (eItems m)) := PI_imp (PI_or (pi_tup h) (pi_list h)) fun σ H R ⟨I, env, s, k, w, q⟩ => by
  have q1 := q.bind
  cases z : m env s with
  | bad => rw [z] at q1; exact q1.elim
  | exc c d s1 =>
    rw [z] at q1
    exact .inl ⟨I, env, s, k, w, by rw [z]; exact q1⟩
  | ok d s1 =>
    rw [z] at q1
    obtain ⟨ds, e1, q2⟩ := Post.opt q1
    cases d with
    | tup es =>
      refine .inl ⟨I, env, s, k, w, ?_⟩
      rw [z]
      intro v I1 H1 x1 w1 r1
      cases e1
      obtain ⟨a, vs, rfl, h1, h2⟩ := r1
      exact ⟨a, rfl, ⟨vs, .of (w1.sub _ _ h1)⟩, q2 _ I1 H1 x1 w1 (walks_A (t := true) (SqT.of h1) h2)⟩
    | lst es =>
      refine .inr ⟨I, env, s, k, w, ?_⟩
      rw [z]
      intro v I1 H1 x1 w1 r1
      cases e1
      obtain ⟨a, vs, rfl, h1, h2⟩ := r1
      exact ⟨a, rfl, ⟨vs, .of (w1.sub _ _ h1)⟩, q2 _ I1 H1 x1 w1 (walks_A (t := false) (SqL.of h1) h2)⟩
    | _ => cases e1
/-- for x in a list of one's own -/
theorem r_ownItems (i : Nat) {x : Str} {p : Pos} (h : PE X (.Name x p) (tVar i)) : PI X tg (.Name x p) (liftB X.K dk l W (eOwnItems i)) := PI_imp (PI_or (pi_tup h) (pi_list h)) fun σ H R ⟨I, env, s, k, w, q⟩ => by
  unfold eOwnItems at q
  cases hd : env[i]? with
  | none => rw [hd] at q; exact q.elim
  | some z =>
    rw [hd] at q
    cases z with
    | no => exact q.elim
    | own o =>
      cases o with
      | lst ds =>
        obtain ⟨p, h1, ⟨vs, h2, h3⟩, n1, n2, n3⟩ := k.own i _ hd
        refine .inr ⟨_, h1, p, rfl, ⟨vs, .of h2⟩, ?_⟩
        exact q _ (upd I p (.lst vs)) I H Ext.refl w (fun b x e => by
          by_cases hb : b = p
          · subst hb; rw [upd_same] at e; rw [h2]; exact e
          · rw [upd_ne hb] at e; exact w.sub b x e) (fun b x e => by
          by_cases hb : b = p
          · subst hb; exact .inr ⟨i, _, hd, h1⟩
          · rw [upd_ne hb] at e; exact .inl e) (by rw [upd_ne n1.symm]; exact w.idk) (by rw [upd_ne n2.symm]; exact w.il) (walks_A (t := false) (SqL.of upd_same) h3)
      | dK _ => exact q.elim
      | dT _ => exact q.elim
    | val d =>
      obtain ⟨ds, e1, q2⟩ := Post.opt q
      obtain ⟨v, h1, h2⟩ := k.val i d hd
      cases d with
      | tup es =>
        cases e1
        obtain ⟨a, vs, rfl, g1, g2⟩ := h2
        exact .inl ⟨_, h1, a, rfl, ⟨vs, .of (w.sub _ _ g1)⟩, q2 _ I I H Ext.refl w w.sub (fun _ _ h => .inl h) w.idk w.il (walks_A (t := true) (SqT.of g1) g2)⟩
      | lst es =>
        cases e1
        obtain ⟨a, vs, rfl, g1, g2⟩ := h2
        exact .inr ⟨_, h1, a, rfl, ⟨vs, .of (w.sub _ _ g1)⟩, q2 _ I I H Ext.refl w w.sub (fun _ _ h => .inl h) w.idk w.il (walks_A (t := false) (SqL.of g1) g2)⟩
      | _ => cases e1
theorem walks_range (lo hi : Int) {B I : Hp} : Walks X.K dk l (Itr lo (hi - lo).toNat) (rangeD lo hi) B I := by
  have e : (rangeD lo hi).length = (hi - lo).toNat := by simp [rangeD]
  refine ⟨fun I' H' s i g b w h => by rw [e] at h; exact h, fun I' H' s i g b w h => by rw [e] at h; show (hi - lo).toNat ≤ i; omega, fun I' H' s i x H'' d g b w y hd => ?_⟩
  obtain ⟨rfl, rfl⟩ := y
  refine ⟨I', Ext.refl, w, ?_⟩
  unfold rangeD at hd
  rw [List.getElem?_map] at hd
  cases z : (List.range (hi - lo).toNat)[i]? with
  | none => rw [z] at hd; cases hd
  | some k =>
    rw [z] at hd
    have hk : k = i := by
      have := List.getElem?_eq_some_iff.mp z
      obtain ⟨h1, h2⟩ := this
      rw [List.getElem_range] at h2
      exact h2.symm
    subst hk
    have e2 : D.int (lo + (k : Int)) = d := Option.some.inj hd
    subst e2
    rfl
theorem r_range1 {a : Expr} {n : En → M (List D)} {p : Pos} (hg : Gl X "range") (hm : X.mg "range" = none) (ha : PA X [a] (liftA X.K dk l W n)) (hs : starEach [a] X.env = [(false, eval a X.env)] := by rfl) :
    PI X tg (.Call (.Name "range" p) [a] [] pos) (liftI X.K dk l W (eMapI gRange1 n)) := PI_imp (pi_range1 hg hm ha hs) fun σ H R ⟨I, env, s, k, w, q⟩ => by
  refine ⟨I, env, s, k, w, q.bind.mono (fun ds s1 q vs I1 H1 x1 w1 r1 => ?_) fun _ _ _ h => h⟩
  obtain ⟨out, e1, q2⟩ := q.opt
  obtain ⟨j, rfl, e9⟩ := gRange1_inv e1
  · skip
    by_cases hj : small62 j = true
    · rw [if_pos hj] at e9
      cases e9
      obtain ⟨v, r, rfl, h1, h2⟩ := r1
      have h2' : r = [] := h2
      subst h2'
      obtain ⟨b1, b2⟩ := small62_ok hj
      refine ⟨j, by rw [show v = _ from h1], b1, b2, ?_⟩
      have := q2 (Itr 0 (j - 0).toNat) I1 H1 x1 w1 (walks_range 0 j)
      rw [Int.sub_zero] at this
      exact this
    · rw [if_neg hj] at e9; cases e9
theorem r_range2 {a b : Expr} {n : En → M (List D)} {p : Pos} (hg : Gl X "range") (hm : X.mg "range" = none) (ha : PA X [a, b] (liftA X.K dk l W n)) (hs : starEach [a, b] X.env = [(false, eval a X.env), (false, eval b X.env)] := by rfl) (hs2 : starEach [b] X.env = [(false, eval b X.env)] := by rfl) :
    PI X tg (.Call (.Name "range" p) [a, b] [] pos) (liftI X.K dk l W (eMapI gRange2 n)) := PI_imp (pi_range2 hg hm ha hs hs2) fun σ H R ⟨I, env, s, k, w, q⟩ => by
  refine ⟨I, env, s, k, w, q.bind.mono (fun ds s1 q vs I1 H1 x1 w1 r1 => ?_) fun _ _ _ h => h⟩
  obtain ⟨out, e1, q2⟩ := q.opt
  obtain ⟨i, j, rfl, e9⟩ := gRange2_inv e1
  · skip
    by_cases hj : (small62 i && small62 j) = true
    · rw [if_pos hj] at e9
      cases e9
      obtain ⟨v, r, rfl, h1, v', r', rfl, h2, h3⟩ := r1
      have h3' : r' = [] := h3
      subst h3'
      rw [Bool.and_eq_true] at hj
      obtain ⟨b1, b2⟩ := small62_ok hj.1
      obtain ⟨b3, b4⟩ := small62_ok hj.2
      exact ⟨i, j, by rw [show v = _ from h1, show v' = _ from h2], ⟨b1, b2, b3, b4⟩, q2 _ I1 H1 x1 w1 (walks_range i j)⟩
    · rw [if_neg hj] at e9; cases e9
variable {elts : List Expr} {kk : Nat} {tpos : Pos}
theorem r_enum {e : Expr} {n : En → M (List D)} {p : Pos} (hg : Gl X "enumerate") (hm : X.mg "enumerate" = none) (ha : PA X [e] (liftA X.K dk l W n)) (hs : starEach [e] X.env = [(false, eval e X.env)] := by rfl) :
    PI X (.Tuple elts kk tpos) (.Call (.Name "enumerate" p) [e] [] pos) (liftI X.K dk l W (eMapI gEnum n)) := PI_imp (pi_enumA hg hm ha hs) fun σ H R ⟨I, env, s, k, w, q⟩ => by
  refine ⟨I, env, s, k, w, q.bind.mono (fun ds s1 q vs I1 H1 x1 w1 r1 => ?_) fun _ _ _ h => h⟩
  obtain ⟨out, e1, q2⟩ := q.opt
  obtain ⟨d, rfl, e9⟩ := gEnum_inv e1
  · skip
    cases z : seqOf d with
    | none => rw [z] at e9; cases e9
    | some es =>
      rw [z] at e9
      cases e9
      obtain ⟨v, r, rfl, h1, h2⟩ := r1
      have h2' : r = [] := h2
      subst h2'
      obtain ⟨t, a, ws, rfl, h3, h4⟩ := seq_at w1 h1 z
      refine ⟨t, a, ws, rfl, h3.mono w1.sub, q2 _ I1 H1 x1 w1 ?_⟩
      have el := h4.length
      refine ⟨fun I' H' s i g b w hi => ⟨ws, ws[i]'(by rw [enumD_len] at hi; omega), h3.mono b, by rw [enumD_len] at hi; simp [show i < ws.length by omega]⟩, fun I' H' s i g b w hi => ⟨ws, h3.mono b, by rw [enumD_len] at hi; omega⟩, fun I' H' s i x H'' d' g b w y hd => ?_⟩
      obtain ⟨T, x', rfl, hT, rfl, hx⟩ := y
      rw [enumD_get] at hd
      cases z2 : es[i]? with
      | none => rw [z2] at hd; cases hd
      | some d2 =>
        rw [z2] at hd
        have hd' := Option.some.inj hd
        subst hd'
        obtain ⟨v2, hv2, r2⟩ := h4.get z2
        have := hx ws (h3.mono b)
        rw [hv2] at this
        cases this
        refine ⟨_, Ext.new w hT, w.new hT, T, _, rfl, upd_same, ?_⟩
        refine ⟨_, _, rfl, by rw [Nat.zero_add]; rfl, RepL.one (Rep.mono (g.trans (Sm.upd (w.sub.none hT))) _ _ r2)⟩
theorem r_zip {e e2 : Expr} {n : En → M (List D)} {p : Pos} (hg : Gl X "zip") (hm : X.mg "zip" = none) (ha : PA X [e, e2] (liftA X.K dk l W n)) (hs : starEach [e, e2] X.env = (false, eval e X.env) :: starEach [e2] X.env := by rfl) (hpl : (backTo pos (starEach [e2] X.env)).any (·.1) = false := by rfl) :
    PI X (.Tuple elts kk tpos) (.Call (.Name "zip" p) [e, e2] [] pos) (liftI X.K dk l W (eMapI gZip n)) := PI_imp (pi_zipM hg hm ha hs hpl) fun σ H R ⟨I, env, s, k, w, q⟩ => by
  refine ⟨I, env, s, k, w, q.bind.mono (fun ds s1 q vs I1 H1 x1 w1 r1 => ?_) fun _ _ _ h => h⟩
  obtain ⟨out, e1, q2⟩ := q.opt
  obtain ⟨d, f, rfl, e9⟩ := gZip_inv e1
  · skip
    cases z : seqOf d with
    | none => rw [z] at e9; cases e9
    | some es =>
      cases z2 : seqOf f with
      | none => rw [z, z2] at e9; cases e9
      | some fs =>
        rw [z, z2] at e9
        cases e9
        obtain ⟨v, r, rfl, h1, v', r', rfl, h2, h3⟩ := r1
        have h3' : r' = [] := h3
        subst h3'
        obtain ⟨t, a, ws, rfl, g1, g2⟩ := seq_at w1 h1 z
        obtain ⟨u, b, us, rfl, f1, f2⟩ := seq_at w1 h2 z2
        refine ⟨t, u, a, b, ws, us, rfl, g1.mono w1.sub, f1.mono w1.sub, q2 _ I1 H1 x1 w1 ?_⟩
        have el := g2.length
        have el2 := f2.length
        refine ⟨fun I' H' s i g b w hi => ⟨ws, us, ws[i]'(by rw [zipD_len] at hi; omega), us[i]'(by rw [zipD_len] at hi; omega), g1.mono b, f1.mono b, by rw [zipD_len] at hi; simp [show i < ws.length by omega], by rw [zipD_len] at hi; simp [show i < us.length by omega]⟩,
          fun I' H' s i g b w hi => ⟨ws, us, g1.mono b, f1.mono b, by rw [zipD_len] at hi; omega⟩, fun I' H' s i x H'' d' g b w y hd => ?_⟩
        obtain ⟨T, x', y', rfl, hT, rfl, hx, hy⟩ := y
        obtain ⟨d1, d2, hd1, hd2, rfl⟩ := zipD_get es fs i d' hd
        obtain ⟨v1, hv1, r1⟩ := g2.get hd1
        obtain ⟨v2, hv2, r2⟩ := f2.get hd2
        have q3 := hx ws (g1.mono b)
        rw [hv1] at q3
        cases q3
        have q4 := hy us (f1.mono b)
        rw [hv2] at q4
        cases q4
        have gg := g.trans (Sm.upd (w.sub.none hT) (o := .tup [x', y']))
        exact ⟨_, Ext.new w hT, w.new hT, T, _, rfl, upd_same, ⟨_, _, rfl, Rep.mono gg _ _ r1, RepL.one (Rep.mono gg _ _ r2)⟩⟩
end
end PV

end

section
set_option maxRecDepth 100000
namespace PV
open PySem PySem.Spec PyProof.Rows L2

/-! ### comprehensions -/
/-- no exception leaves -/
def noX {α : Type} (m : M α) : M α := fun s => match m s with
  | .exc _ _ _ => .bad
  | r => r
theorem noX_post {α : Type} {m : M α} {s : Dk} {P : α → Dk → Prop} {E E' : Nat → D → Dk → Prop} (h : Post (noX m s) P E) : Post (m s) P E' := by
  unfold noX at h
  cases q : m s with
  | bad => rw [q] at h; exact h
  | ok a s1 => rw [q] at h; exact h
  | exc c d s1 => rw [q] at h; exact h.elim
abbrev W0 : WX := fun _ _ _ _ => False
def wipeE (env : En) : List Nat → En
  | [] => env
  | v :: vs => (wipeE env vs).set v .no
def lcM (p : Pat) (t : En → M Bool) (e : En → M D) (env : En) : List D → M (List D)
  | [] => ret []
  | d :: ds => andThen (opt (bindP p d env)) fun e1 => andThen (noX (t e1)) fun c => if c = true then andThen (noX (e e1)) fun y => andThen (lcM p t e env ds) fun ys => ret (y :: ys) else lcM p t e env ds
def eLc (it : En → M (List D)) (p : Pat) (vs : List Nat) (t : En → M Bool) (e : En → M D) : En → M OD := fun env => andThen (it env) fun ds => if ds.length ≤ size7 then andThen (lcM p t e (wipeE env vs) ds) fun ys => ret (.lst ys) else bad
def lc2M (p : Pat) (t : En → M Bool) (it1 : En → M (List D)) (vs1 : List Nat) (p1 : Pat) (t1 : En → M Bool) (e : En → M D) (env : En) : List D → M (List D)
  | [] => ret []
  | d :: ds => andThen (opt (bindP p d env)) fun e1 => andThen (noX (t e1)) fun c => if c = true then andThen (noX (it1 e1)) fun ds1 => if ds1.length ≤ 1000 then andThen (lcM p1 t1 e (wipeE e1 vs1) ds1) fun ys => andThen (lc2M p t it1 vs1 p1 t1 e env ds) fun zs => ret (ys ++ zs) else bad else lc2M p t it1 vs1 p1 t1 e env ds
def eLc2 (it : En → M (List D)) (p : Pat) (vs : List Nat) (t : En → M Bool) (it1 : En → M (List D)) (vs1 : List Nat) (p1 : Pat) (t1 : En → M Bool) (e : En → M D) : En → M OD := fun env => andThen (it env) fun ds => if ds.length ≤ 1000 then andThen (lc2M p t it1 vs1 p1 t1 e (wipeE env vs) ds) fun ys => ret (.lst ys) else bad
def tYes' : En → M Bool := fun _ => ret true

section
variable {K : PySem.W.Frag} {dk l : Addr} {I H : Hp}
theorem EnvOk.wipe {env : En} {σ : L2.St} (e : EnvOk K dk l I H env σ) : ∀ vs : List Nat, EnvOk K dk l I H (wipeE env vs) (wipe σ vs)
  | [] => e
  | v :: vs => (EnvOk.wipe e vs).setNo
theorem set_out {σ σ' : L2.St} {v : Nat} (hl : σ'.length = σ.length) (h : ∀ j, j ≠ v → σ'[j]? = σ[j]?) : σ'.set v none = σ.set v none := by
  apply List.ext_getElem?
  intro j
  by_cases hj : v = j
  · subst hj
    by_cases hv : v < σ.length
    · rw [List.getElem?_set_self hv, List.getElem?_set_self (by omega)]
    · rw [List.getElem?_eq_none (by rw [List.length_set]; omega), List.getElem?_eq_none (by rw [List.length_set]; omega)]
  · rw [List.getElem?_set_ne hj, List.getElem?_set_ne hj]
    exact h j (Ne.symm hj)
theorem wipe_idem (σ : L2.St) (vs : List Nat) : wipe (wipe σ vs) vs = wipe σ vs := by
  have out : ∀ (us : List Nat) (τ : L2.St) (j : Nat), j ∈ us → j < τ.length → (wipe τ us)[j]? = some none := by
    intro us
    induction us with
    | nil => intro _ _ h; simp at h
    | cons u us ih =>
      intro τ j hj hl
      unfold wipe
      by_cases hu : u = j
      · subst hu
        exact List.getElem?_set_self (by rw [wipe_length]; exact hl)
      · rw [List.getElem?_set_ne hu]
        rcases List.mem_cons.mp hj with z | z
        · exact absurd z.symm hu
        · exact ih τ j z hl
  apply List.ext_getElem?
  intro j
  by_cases hj : j ∈ vs
  · by_cases hl : j < σ.length
    · rw [out vs _ j hj (by rw [wipe_length]; exact hl), out vs _ j hj hl]
    · rw [List.getElem?_eq_none (by rw [wipe_length, wipe_length]; omega), List.getElem?_eq_none (by rw [wipe_length]; omega)]
  · rw [wipe_out hj]
/-- a pattern's stores are forgotten with the names of the block -/
theorem wipe_chg {σ σ' : L2.St} {ss vs : List Nat} (hs : ∀ i ∈ ss, i ∈ vs) (hl : σ'.length = σ.length) (h : ∀ j, j ∉ ss → σ'[j]? = σ[j]?) : wipe σ' vs = wipe σ vs := by
  have out : ∀ (us : List Nat) (τ : L2.St) (j : Nat), j ∈ us → j < τ.length → (wipe τ us)[j]? = some none := by
    intro us
    induction us with
    | nil => intro _ _ h; simp at h
    | cons u us ih =>
      intro τ j hj hl
      unfold wipe
      by_cases hu : u = j
      · subst hu
        exact List.getElem?_set_self (by rw [wipe_length]; exact hl)
      · rw [List.getElem?_set_ne hu]
        rcases List.mem_cons.mp hj with z | z
        · exact absurd z.symm hu
        · exact ih τ j z hl
  apply List.ext_getElem?
  intro j
  by_cases hj : j ∈ vs
  · by_cases hl2 : j < σ.length
    · rw [out vs _ j hj (by rw [hl]; exact hl2), out vs _ j hj hl2]
    · rw [List.getElem?_eq_none (by rw [wipe_length]; omega), List.getElem?_eq_none (by rw [wipe_length]; omega)]
  · rw [wipe_out hj, wipe_out hj]
    exact h j fun z => hj (hs j z)
end
section
variable {X : Cx} {dk l : Addr} {W : WX} {pos : Pos}
theorem r_pts_nil : PTs X [] (liftT X.K dk l W tYes') := ⟨fun pins s σ H Q J ⟨I, env, z, e, w, q⟩ => pts_nil.run pins s σ H Q J (q I H Ext.refl w)⟩
theorem r_pts_one {c : Expr} {m : En → M Bool} (h : PT X c (liftT X.K dk l W m)) : PTs X [c] (liftT X.K dk l W m) := pts_one h
theorem fresh_off {I1 H1 I H : Hp} {D : Addr} {s : Dk} (x : Ext dk l I1 H1 I H) (w : Wo dk l I H s) (h : H1 D = none) (n1 : D ≠ dk) (n2 : D ≠ l) {vs : List V} (hI : I D = none) (hv : H D = some (.lst vs)) (ws : List V) : Ext dk l I1 H1 I (upd H D (.lst ws)) ∧ Wo dk l I (upd H D (.lst ws)) s := by
  refine ⟨⟨x.grow, fun a o e m1 m2 => ?_, x.fresh⟩, ⟨fun b o e => ?_, ?_, ?_, w.idk, w.il⟩⟩
  · rw [upd_ne (ne_of_none e h)]
    exact x.keep a o e m1 m2
  · have : b ≠ D := fun z => by rw [z, hI] at e; cases e
    rw [upd_ne this]
    exact w.sub b o e
  · rw [upd_ne n1.symm]; exact w.dko
  · rw [upd_ne n2.symm]; exact w.lft
/-- no own slot stands at D -/
def Apart (D : Addr) (env : En) (σ : L2.St) : Prop := ∀ (i : Nat) (u : OD), env[i]? = some (.own u) → σ[i]? ≠ some (some (.ref D))
theorem wipeE_own {env : En} {i : Nat} {u : OD} : ∀ {vs : List Nat}, (wipeE env vs)[i]? = some (.own u) → env[i]? = some (.own u) ∧ i ∉ vs
  | [], h => ⟨h, by simp⟩
  | v :: vs, h => by
    unfold wipeE at h
    by_cases hv : v = i
    · subst hv
      by_cases hl : v < (wipeE env vs).length
      · rw [List.getElem?_set_self hl] at h; cases h
      · rw [List.getElem?_eq_none (by rw [List.length_set]; omega)] at h; cases h
    · rw [List.getElem?_set_ne hv] at h
      obtain ⟨h1, h2⟩ := wipeE_own h
      exact ⟨h1, fun z => (List.mem_cons.mp z).elim (fun e => hv e.symm) h2⟩
theorem Apart.wipe {D : Addr} {env : En} {σ : L2.St} (a : Apart D env σ) (vs : List Nat) : Apart D (wipeE env vs) (L2.wipe σ vs) := fun i u h z => by
  obtain ⟨h1, h2⟩ := wipeE_own h
  rw [wipe_out h2] at z
  exact a i u h1 z
theorem Apart.chg {D : Addr} {ss : List Nat} {env env' : En} {σ σ' : L2.St} (a : Apart D env σ) (c : Chg ss env env' σ σ') : Apart D env' σ' := fun i u h z => by
  obtain ⟨h1, h2⟩ := c.own i u h
  rw [c.out i h2] at z
  exact a i u h1 z
/-- one clause -/
theorem lc_read {own : List (Str × Nat)} {mi : En → M (List D)} {p : Pat} {mt : En → M Bool} {me : En → M D} (hp : ∀ i ∈ p.ix, i ∈ own.map (·.2)) (σ : L2.St) (H : Hp) (Q : VK) (h : liftO X.K dk l W (eLc mi p (own.map (·.2)) mt me) σ H Q) :
    tLc (liftB X.K dk l W mi) (gPat X.K p) (liftT X.K dk l W0 mt) (lift X.K dk l W0 me) (own.map (·.2)) σ H Q := by
  obtain ⟨I, env, s, k, w, q⟩ := h
  refine ⟨I, env, s, k, w, q.bind.mono (fun ds s1 q J B I1 H1 x1 w1 b1 b4 b2 b3 wk => ?_) fun _ _ _ h => h⟩
  by_cases hz : ds.length ≤ size7
  · rw [if_pos hz] at q
    intro D hD
    have n1 : D ≠ dk := (ne_of_none w1.dko hD).symm
    have n2 : D ≠ l := (ne_of_none w1.lft hD).symm
    have k1 := k.ext x1
    have hHD : H D = none := by
      cases r : H D with
      | none => rfl
      | some u => rw [x1.keep D u r n1 n2] at hD; cases hD
    refine ⟨fun i m H2 => m = ds.length - i ∧ i ≤ ds.length ∧ ∃ I2 s2 acc vs, H2 D = some (.lst vs) ∧ RepL X.K I2 dk acc vs ∧ acc.length ≤ i ∧ Ext dk l I1 H1 I2 H2 ∧ Wo dk l I2 H2 s2 ∧ I2 D = none ∧
        Post (lcM p mt me (wipeE env (own.map (·.2))) (ds.drop i) s2) (fun ys s' => ∀ p I' H', Ext dk l I H I' H' → Wo dk l I' H' s' → H p = none → OwnAt X.K I' H' dk p (.lst (acc ++ ys)) → p ≠ dk → p ≠ l → I' p = none → Q (.ref p) H') (exQ X.K dk l W I H σ),
      ⟨ds.length, by simp, Nat.zero_le _, I1, s1, [], [], upd_same, rfl, Nat.le_refl _, Ext.off w1 hD, w1.off (w1.sub.none hD) n1 n2, w1.sub.none hD, q.bind.mono (fun ys s' q => by rw [List.nil_append]; exact q) fun _ _ _ h => h⟩, ?_⟩
    rintro i m H2 ⟨rfl, hle, I2, s2, acc, vs, hv, hr, hal, x2, w2, hI, q2⟩
    have bb : Sm B H2 := fun a o e => x2.keep a o (b1 a o e) (fun z => by rw [z, b2] at e; cases e) (fun z => by rw [z, b3] at e; cases e)
    by_cases hlt : i < ds.length
    · obtain ⟨d, hd⟩ : ∃ d, ds[i]? = some d := ⟨ds[i], by simp [hlt]⟩
      have hdr : ds.drop i = d :: ds.drop (i + 1) := by
        have e1 := List.drop_eq_getElem_cons hlt
        rw [List.getElem?_eq_getElem hlt] at hd
        rw [e1, Option.some.inj hd]
      rw [hdr] at q2
      simp only [lcM] at q2
      refine .inr ⟨wk.go I2 H2 s2 i x2.grow bb w2 hlt, fun H' => ∃ I2 s2 acc vs, H' D = some (.lst vs) ∧ RepL X.K I2 dk acc vs ∧ acc.length ≤ i + 1 ∧ Ext dk l I1 H1 I2 H' ∧ Wo dk l I2 H' s2 ∧ I2 D = none ∧
          Post (lcM p mt me (wipeE env (own.map (·.2))) (ds.drop (i + 1)) s2) (fun ys s' => ∀ p I' H', Ext dk l I H I' H' → Wo dk l I' H' s' → H p = none → OwnAt X.K I' H' dk p (.lst (acc ++ ys)) → p ≠ dk → p ≠ l → I' p = none → Q (.ref p) H') (exQ X.K dk l W I H σ),
        fun H' h => ⟨_, by omega, rfl, hlt, h⟩, fun x H3 y => ?_⟩
      obtain ⟨I3, x3, w3, r3⟩ := wk.yld I2 H2 s2 i x H3 d x2.grow bb w2 y hd
      obtain ⟨e1, eb, q3⟩ := q2.bind.opt
      have x23 := x2.trans x3 w3
      have k3 : EnvOk X.K dk l I3 H3 (wipeE env (own.map (·.2))) (wipe σ (own.map (·.2))) := (k1.ext x23).wipe _
      have hv3 : H3 D = some (.lst vs) := x3.keep D _ hv n1 n2
      have hI3 : I3 D = none := by
        cases r : I3 D with
        | none => rfl
        | some u => exact ((x3.fresh D u r hI).lst hv).elim
      refine gpat_ok w3.sub p d x _ e1 _ _ k3 r3 eb fun σ4 k4 c4 => ⟨by rw [wipe_chg hp (by rw [c4.len]) fun j hj => c4.out j hj, wipe_idem], ?_⟩
      refine ⟨I3, e1, s2, k4, w3, noX_post (q3.bind.mono (fun c s5 q5 I5 H5 x5 w5 => ?_) fun _ _ _ h => h)⟩
      have hv5 : H5 D = some (.lst vs) := x5.keep D _ hv3 n1 n2
      have hI5 : I5 D = none := by
        cases r : I5 D with
        | none => rfl
        | some u => exact ((x5.fresh D u r hI3).lst hv3).elim
      cases c with
      | false => exact ⟨I5, s5, acc, vs, hv5, RepL.mono (x3.grow.trans x5.grow) _ _ hr, by omega, x23.trans x5 w5, w5, hI5, q5⟩
      | true =>
        refine ⟨I5, e1, s5, k4.ext x5, w5, noX_post ((show Post (andThen _ _ s5) _ _ from q5).bind.mono (fun y s6 q6 u I6 H6 x6 w6 r6 => ?_) fun _ _ _ h => h)⟩
        have hv6 : H6 D = some (.lst vs) := x6.keep D _ hv5 n1 n2
        have hI6 : I6 D = none := by
          cases r : I6 D with
          | none => rfl
          | some u => exact ((x6.fresh D u r hI5).lst hv5).elim
        have x16 := (x23.trans x5 w5).trans x6 w6
        obtain ⟨x7, w7⟩ := fresh_off x16 w6 hD n1 n2 hI6 hv6 (vs ++ [u])
        refine ⟨vs, hv6, by rw [← hr.length]; exact Nat.lt_of_le_of_lt hal (Nat.lt_of_lt_of_le hlt (size7_le hz)), I6, s6, acc ++ [y], vs ++ [u], upd_same, ?_, by rw [List.length_append]; exact Nat.succ_le_succ hal, x7, w7, hI6, q6.bind.mono (fun ys s' q => by rw [List.append_assoc]; exact q) fun _ _ _ h => h⟩
        exact (RepL.mono ((x3.grow.trans x5.grow).trans x6.grow) _ _ hr).append (RepL.one r6)
    · have hdr : ds.drop i = [] := List.drop_eq_nil_of_le (by omega)
      rw [hdr] at q2
      refine .inl ⟨wk.stop I2 H2 s2 i x2.grow bb w2 (by omega), ?_⟩
      have q3 := (show Post (ret ([] : List PV.D) s2) _ _ from q2)
      exact q3 D I2 H2 (x1.trans x2 w2) w2 hHD (by rw [List.append_nil]; exact ⟨vs, hv, hr⟩) n1 n2 hI
  · rw [if_neg hz] at q; exact q.elim
theorem r_lc {elt tg iter : Expr} {ifs : List Expr} {scope : Scope} {own : List (Str × Nat)} {mi : En → M (List D)} {p : Pat} {mt : En → M Bool} {me : En → M D} (hc : X.calm = true) (hN : X.N.Nodup) (hi : PI X tg iter (liftB X.K dk l W mi)) (ok : BlkOk X.N X.env.scope scope own)
    (hg : ∀ (s : Shared) (H : Hp) (C : Addr) (cl : List (Str × Addr)) (fp : List Addr), PG (X.blk s H scope (compEnvC scope cl C X.env) fp) tg (gPat X.K p)) (ht : ∀ (s : Shared) (H : Hp) (C : Addr) (cl : List (Str × Addr)) (fp : List Addr), PTs (X.blk s H scope (compEnvC scope cl C X.env) fp) ifs (liftT X.K dk l W0 mt))
    (he : ∀ (s : Shared) (H : Hp) (C : Addr) (cl : List (Str × Addr)) (fp : List Addr), PE (X.blk s H scope (compEnvC scope cl C X.env) fp) elt (lift X.K dk l W0 me)) (hp : ∀ i ∈ p.ix, i ∈ own.map (·.2)) (hs : ∀ x, foldedSetIterable iter X.env x = pure x := by intro _; rfl) :
    PE X (.ListComp elt [⟨tg, iter, ifs, 0⟩] scope pos) (liftO X.K dk l W (eLc mi p (own.map (·.2)) mt me)) := PE_imp (pe_lc hc hN hi ok hg ht he hs) (lc_read hp)
end
end PV

end

section
set_option maxRecDepth 100000
namespace PV
open PySem PySem.Spec PyProof.Rows L2
section
variable {X : Cx} {dk l : Addr} {W : WX} {pos : Pos}
theorem hold_lst {I H I' H' : Hp} {D : Addr} {vs : List V} (x : Ext dk l I H I' H') (hv : H D = some (.lst vs)) (hI : I D = none) (n1 : D ≠ dk) (n2 : D ≠ l) : H' D = some (.lst vs) ∧ I' D = none := by
  refine ⟨x.keep D _ hv n1 n2, ?_⟩
  cases r : I' D with
  | none => rfl
  | some u => exact ((x.fresh D u r hI).lst hv).elim
theorem EnvOk.updOff {I H : Hp} {env : En} {σ : L2.St} {D : Addr} {o : HO} (e : EnvOk X.K dk l I H env σ) (a : Apart D env σ) : EnvOk X.K dk l I (upd H D o) env σ where
  len := e.len
  val := e.val
  own := fun i u h => by
    obtain ⟨p, h1, h2, h3, h4, h5⟩ := e.own i u h
    have hp : p ≠ D := fun z => a i u h (by rw [h1, z])
    exact ⟨p, h1, h2.move (Sm.refl I) fun w z => by rw [upd_ne hp]; exact z, h3, h4, h5⟩
  sep := e.sep
theorem size6 {i j n : Nat} (h1 : n ≤ 1000 * i + j) (h2 : i < 1000) (h3 : j < 1000) : n < sizeLine := by
  have e : sizeLine = 16777216 := sizeLine_eq
  omega
theorem lc2_read {own : List (Str × Nat)} {vs1 : List Nat} {mi mi1 : En → M (List D)} {p p1 : Pat} {mt mt1 : En → M Bool} {me : En → M D} (hvs : ∀ i ∈ vs1, i ∈ own.map (·.2)) (hp : ∀ i ∈ p.ix, i ∈ own.map (·.2)) (hp1 : ∀ i ∈ p1.ix, i ∈ vs1) (σ : L2.St) (H : Hp) (Q : VK) (h : liftO X.K dk l W (eLc2 mi p (own.map (·.2)) mt mi1 vs1 p1 mt1 me) σ H Q) :
    tLc2 (liftB X.K dk l W mi) (gPat X.K p) (liftT X.K dk l W0 mt) (liftB X.K dk l W0 mi1) (gPat X.K p1) (liftT X.K dk l W0 mt1) (lift X.K dk l W0 me) (own.map (·.2)) vs1 σ H Q := by
  obtain ⟨I, env, s, k, w, q⟩ := h
  refine ⟨I, env, s, k, w, q.bind.mono (fun ds s1 q J B I1 H1 x1 w1 b1 b4 b2 b3 wk => ?_) fun _ _ _ h => h⟩
  by_cases hz : ds.length ≤ 1000
  · rw [if_pos hz] at q
    intro D hD
    have n1 : D ≠ dk := (ne_of_none w1.dko hD).symm
    have n2 : D ≠ l := (ne_of_none w1.lft hD).symm
    have k1 := k.ext x1
    have hHD : H D = none := by
      cases r : H D with
      | none => rfl
      | some u => rw [x1.keep D u r n1 n2] at hD; cases hD
    have ap0 : Apart D env σ := fun j u h => ownAp (H1 := H1) k hHD j u h
    generalize hF : (fun (ys : List PV.D) (s' : Dk) => ∀ p I' H', Ext dk l I H I' H' → Wo dk l I' H' s' → H p = none → OwnAt X.K I' H' dk p (.lst ys) → p ≠ dk → p ≠ l → I' p = none → Q (.ref p) H') = F
    have hFq : ∀ ys s', F ys s' → ∀ p I' H', Ext dk l I H I' H' → Wo dk l I' H' s' → H p = none → OwnAt X.K I' H' dk p (.lst ys) → p ≠ dk → p ≠ l → I' p = none → Q (.ref p) H' := fun ys s' h => by
      rw [← hF] at h
      exact h
    have q0 : Post (lc2M p mt mi1 vs1 p1 mt1 me (wipeE env (own.map (·.2))) ds s1) (fun ys s' => F ([] ++ ys) s') (exQ X.K dk l W I H σ) := q.bind.mono (fun ys s' q => by rw [← hF, List.nil_append]; exact q) fun _ _ _ h => h
    refine ⟨fun i m H2 => m = ds.length - i ∧ i ≤ ds.length ∧ ∃ I2 s2 acc vs, H2 D = some (.lst vs) ∧ RepL X.K I2 dk acc vs ∧ acc.length ≤ 1000 * i ∧ Ext dk l I1 H1 I2 H2 ∧ Wo dk l I2 H2 s2 ∧ I2 D = none ∧
        Post (lc2M p mt mi1 vs1 p1 mt1 me (wipeE env (own.map (·.2))) (ds.drop i) s2) (fun ys s' => F (acc ++ ys) s') (exQ X.K dk l W I H σ),
      ⟨ds.length, by simp, Nat.zero_le _, I1, s1, [], [], upd_same, rfl, Nat.le_refl _, Ext.off w1 hD, w1.off (w1.sub.none hD) n1 n2, w1.sub.none hD, q0⟩, ?_⟩
    rintro i m H2 ⟨rfl, hle, I2, s2, acc, vs, hv, hr, hal, x2, w2, hI, q2⟩
    have bb : Sm B H2 := fun a o e => x2.keep a o (b1 a o e) (fun z => by rw [z, b2] at e; cases e) (fun z => by rw [z, b3] at e; cases e)
    by_cases hlt : i < ds.length
    · obtain ⟨d, hd⟩ : ∃ d, ds[i]? = some d := ⟨ds[i], by simp [hlt]⟩
      have hdr : ds.drop i = d :: ds.drop (i + 1) := by
        have e1 := List.drop_eq_getElem_cons hlt
        rw [List.getElem?_eq_getElem hlt] at hd
        rw [e1, Option.some.inj hd]
      rw [hdr] at q2
      simp only [lc2M] at q2
      refine .inr ⟨wk.go I2 H2 s2 i x2.grow bb w2 hlt, fun H' => ∃ I2 s2 acc vs, H' D = some (.lst vs) ∧ RepL X.K I2 dk acc vs ∧ acc.length ≤ 1000 * (i + 1) ∧ Ext dk l I1 H1 I2 H' ∧ Wo dk l I2 H' s2 ∧ I2 D = none ∧
          Post (lc2M p mt mi1 vs1 p1 mt1 me (wipeE env (own.map (·.2))) (ds.drop (i + 1)) s2) (fun ys s' => F (acc ++ ys) s') (exQ X.K dk l W I H σ),
        fun H' h => ⟨_, by omega, rfl, hlt, h⟩, fun x H3 y => ?_⟩
      obtain ⟨I3, x3, w3, r3⟩ := wk.yld I2 H2 s2 i x H3 d x2.grow bb w2 y hd
      obtain ⟨e1, eb, q3⟩ := q2.bind.opt
      have x23 := x2.trans x3 w3
      have k3 : EnvOk X.K dk l I3 H3 (wipeE env (own.map (·.2))) (wipe σ (own.map (·.2))) := (k1.ext x23).wipe _
      obtain ⟨hv3, hI3⟩ := hold_lst x3 hv hI n1 n2
      refine gpat_ok w3.sub p d x _ e1 _ _ k3 r3 eb fun σ4 k4 c4 => ⟨by rw [wipe_chg hp (by rw [c4.len]) fun j hj => c4.out j hj, wipe_idem], ?_⟩
      have ap4 : Apart D e1 σ4 := (ap0.wipe _).chg c4
      refine ⟨I3, e1, s2, k4, w3, noX_post (q3.bind.mono (fun c s5 q5 I5 H5 x5 w5 => ?_) fun _ _ _ h => h)⟩
      obtain ⟨hv5, hI5⟩ := hold_lst x5 hv3 hI3 n1 n2
      have x25 := x23.trans x5 w5
      have hr5 := RepL.mono (x3.grow.trans x5.grow) _ _ hr
      cases c with
      | false => exact ⟨I5, s5, acc, vs, hv5, hr5, by omega, x25, w5, hI5, q5⟩
      | true =>
        have k5 := k4.ext x5
        refine ⟨I5, e1, s5, k5, w5, noX_post ((show Post (andThen _ _ s5) _ _ from q5).bind.mono (fun ds1 s6 q6 J1 B1 I6 H6 x6 w6 c1 c4 c2 c3 wk1 => ?_) fun _ _ _ h => h)⟩
        obtain ⟨hv6, hI6⟩ := hold_lst x6 hv5 hI5 n1 n2
        have x26 := x25.trans x6 w6
        have k6 := k5.ext x6
        by_cases hz1 : ds1.length ≤ 1000
        · rw [if_pos hz1] at q6
          have q7 : Post (lcM p1 mt1 me (wipeE e1 vs1) ds1 s6) (fun ys s' => Post (lc2M p mt mi1 vs1 p1 mt1 me (wipeE env (own.map (·.2))) (ds.drop (i + 1)) s') (fun zs s'' => F (acc ++ (ys ++ zs)) s'') (exQ X.K dk l W I H σ)) (exQ X.K dk l W I H σ) :=
            q6.bind.mono (fun ys s' q => q.bind.mono (fun zs s'' q => q) fun _ _ _ h => h) fun _ _ _ h => h
          have bD : B1 D = none := by
            cases r : B1 D with
            | none => rfl
            | some o =>
              rcases c4 D o r with z | ⟨i', u, z1, z2⟩
              · rw [hI6] at z; cases z
              · exact absurd z2 (ap4 i' u z1)
          let Iv : Nat → Hp → Prop := fun j H7 => ∃ I7 s7 acc7 vs7, H7 D = some (.lst vs7) ∧ RepL X.K I7 dk acc7 vs7 ∧ acc7.length ≤ 1000 * i + j ∧ Ext dk l I1 H1 I7 H7 ∧ Sm I6 I7 ∧ Sm B1 H7 ∧ EnvOk X.K dk l I7 H7 e1 σ4 ∧ Wo dk l I7 H7 s7 ∧ I7 D = none ∧
              Post (lcM p1 mt1 me (wipeE e1 vs1) (ds1.drop j) s7) (fun ys s' => Post (lc2M p mt mi1 vs1 p1 mt1 me (wipeE env (own.map (·.2))) (ds.drop (i + 1)) s') (fun zs s'' => F (acc7 ++ (ys ++ zs)) s'') (exQ X.K dk l W I H σ)) (exQ X.K dk l W I H σ)
          refine ⟨fun j m H7 => m = ds1.length - j ∧ j ≤ ds1.length ∧ Iv j H7,
            ⟨ds1.length, by simp, Nat.zero_le _, I6, s6, acc, vs, hv6, RepL.mono x6.grow _ _ hr5, hal, x26, Sm.refl _, c1, k6, w6, hI6, q7⟩, ?_⟩
          rintro j m H7 ⟨rfl, hle1, I7, s7, acc7, vs7, hv7, hr7, hal7, x17, g7, bb1, k7, w7, hI7, q8⟩
          by_cases hlt1 : j < ds1.length
          · obtain ⟨d1, hd1⟩ : ∃ d1, ds1[j]? = some d1 := ⟨ds1[j], by simp [hlt1]⟩
            have hdr1 : ds1.drop j = d1 :: ds1.drop (j + 1) := by
              have e1 := List.drop_eq_getElem_cons hlt1
              rw [List.getElem?_eq_getElem hlt1] at hd1
              rw [e1, Option.some.inj hd1]
            rw [hdr1] at q8
            simp only [lcM] at q8
            refine .inr ⟨wk1.go I7 H7 s7 j g7 bb1 w7 hlt1, fun H' => Iv (j + 1) H', fun H' h => ⟨_, by omega, rfl, hlt1, h⟩, fun x H8 y => ?_⟩
            obtain ⟨I8, x8, w8, r8⟩ := wk1.yld I7 H7 s7 j x H8 d1 g7 bb1 w7 y hd1
            obtain ⟨e2, eb2, q9⟩ := q8.bind.opt
            obtain ⟨hv8, hI8⟩ := hold_lst x8 hv7 hI7 n1 n2
            refine gpat_ok w8.sub p1 d1 x _ e2 _ _ ((k7.ext x8).wipe vs1) r8 eb2 fun σ9 k9 c9 => ⟨by rw [wipe_chg hp1 (by rw [c9.len]) fun j hj => c9.out j hj, wipe_idem], ?_⟩
            refine ⟨I8, e2, s7, k9, w8, noX_post (q9.bind.mono (fun c s10 q10 I10 H10 x10 w10 => ?_) fun _ _ _ h => h)⟩
            obtain ⟨hv10, hI10⟩ := hold_lst x10 hv8 hI8 n1 n2
            have hr10 := RepL.mono (x8.grow.trans x10.grow) _ _ hr7
            have x710 := x8.trans x10 w10
            have b10 : Sm B1 H10 := fun a o e => x710.keep a o (bb1 a o e) (fun z => by rw [z, c2] at e; cases e) (fun z => by rw [z, c3] at e; cases e)
            cases c with
            | false => exact ⟨I10, s10, acc7, vs7, hv10, hr10, by omega, x17.trans x710 w10, g7.trans x710.grow, b10, k7.ext x710, w10, hI10, q10⟩
            | true =>
              refine ⟨I10, e2, s10, k9.ext x10, w10, noX_post ((show Post (andThen _ _ s10) _ _ from q10).bind.mono (fun y s11 q11 u I11 H11 x11 w11 r11 => ?_) fun _ _ _ h => h)⟩
              obtain ⟨hv11, hI11⟩ := hold_lst x11 hv10 hI10 n1 n2
              have x711 := x710.trans x11 w11
              obtain ⟨x12, w12⟩ := fresh_off (x17.trans x711 w11) w11 hD n1 n2 hI11 hv11 (vs7 ++ [u])
              refine ⟨vs7, hv11, by rw [← hr7.length]; exact size6 hal7 (by omega) (by omega), I11, s11, acc7 ++ [y], vs7 ++ [u], upd_same, (RepL.mono x11.grow _ _ hr10).append (RepL.one r11), by rw [List.length_append, List.length_singleton]; omega, x12, g7.trans x711.grow, ?_, (k7.ext x711).updOff ap4, w12, hI11, q11.bind.mono (fun ys s' q => ?_) fun _ _ _ h => h⟩
              · intro a o e
                have ha : a ≠ D := fun z => by rw [z, bD] at e; cases e
                rw [upd_ne ha]
                exact x711.keep a o (bb1 a o e) (fun z => by rw [z, c2] at e; cases e) (fun z => by rw [z, c3] at e; cases e)
              · exact Post.mono (show Post _ _ _ from q) (fun zs s'' h => by
                  rw [List.append_assoc]
                  exact h) fun _ _ _ h => h
          · have hdr1 : ds1.drop j = [] := List.drop_eq_nil_of_le (by omega)
            rw [hdr1] at q8
            refine .inl ⟨wk1.stop I7 H7 s7 j g7 bb1 w7 (by omega), ?_⟩
            have q9 := (show Post (ret ([] : List PV.D) s7) _ _ from q8)
            exact ⟨I7, s7, acc7, vs7, hv7, hr7, by omega, x17, w7, hI7, q9⟩
        · rw [if_neg hz1] at q6; exact q6.elim
    · have hdr : ds.drop i = [] := List.drop_eq_nil_of_le (by omega)
      rw [hdr] at q2
      refine .inl ⟨wk.stop I2 H2 s2 i x2.grow bb w2 (by omega), ?_⟩
      have q3 := (show Post (ret ([] : List PV.D) s2) _ _ from q2)
      have q3 : F (acc ++ []) s2 := q3
      rw [List.append_nil] at q3
      exact hFq _ _ q3 D I2 H2 (x1.trans x2 w2) w2 hHD ⟨vs, hv, hr⟩ n1 n2 hI
  · rw [if_neg hz] at q; exact q.elim
theorem r_lc2 {elt tg iter tg1 iter1 : Expr} {ifs ifs1 : List Expr} {scope : Scope} {own : List (Str × Nat)} {vs1 : List Nat} {mi mi1 : En → M (List D)} {p p1 : Pat} {mt mt1 : En → M Bool} {me : En → M D} (hc : X.calm = true) (hN : X.N.Nodup) (hi : PI X tg iter (liftB X.K dk l W mi)) (ok : BlkOk X.N X.env.scope scope own) (hvs : ∀ i ∈ vs1, i ∈ own.map (·.2))
    (hg : ∀ (s : Shared) (H : Hp) (C : Addr) (cl : List (Str × Addr)) (fp : List Addr), PG (X.blk s H scope (compEnvC scope cl C X.env) fp) tg (gPat X.K p)) (ht : ∀ (s : Shared) (H : Hp) (C : Addr) (cl : List (Str × Addr)) (fp : List Addr), PTs (X.blk s H scope (compEnvC scope cl C X.env) fp) ifs (liftT X.K dk l W0 mt))
    (hi1 : ∀ (s : Shared) (H : Hp) (C : Addr) (cl : List (Str × Addr)) (fp : List Addr), PI (X.blk s H scope (compEnvC scope cl C X.env) fp) tg1 iter1 (liftB X.K dk l W0 mi1))
    (hg1 : ∀ (s : Shared) (H : Hp) (C : Addr) (cl : List (Str × Addr)) (fp : List Addr), PG (X.blk s H scope (compEnvC scope cl C X.env) fp) tg1 (gPat X.K p1)) (ht1 : ∀ (s : Shared) (H : Hp) (C : Addr) (cl : List (Str × Addr)) (fp : List Addr), PTs (X.blk s H scope (compEnvC scope cl C X.env) fp) ifs1 (liftT X.K dk l W0 mt1))
    (he : ∀ (s : Shared) (H : Hp) (C : Addr) (cl : List (Str × Addr)) (fp : List Addr), PE (X.blk s H scope (compEnvC scope cl C X.env) fp) elt (lift X.K dk l W0 me)) (hp : ∀ i ∈ p.ix, i ∈ own.map (·.2)) (hp1 : ∀ i ∈ p1.ix, i ∈ vs1)
    (hs : ∀ x, foldedSetIterable iter X.env x = pure x := by intro _; rfl) (hs1 : ∀ env x, foldedSetIterable iter1 env x = pure x := by intro _ _; rfl) :
    PE X (.ListComp elt [⟨tg, iter, ifs, 0⟩, ⟨tg1, iter1, ifs1, 0⟩] scope pos) (liftO X.K dk l W (eLc2 mi p (own.map (·.2)) mt mi1 vs1 p1 mt1 me)) := PE_imp (pe_lc2 hc hN hi ok hvs hg ht hi1 hg1 ht1 he hs hs1) (lc2_read hvs hp hp1)
end
end PV

end

section
set_option maxRecDepth 100000
namespace PV
open PySem PySem.Spec PyProof.Rows L2

/-! ### defs that keep a promise where no repr runs around them -/
structure FnG (P : Program) (w : World) (K : PySem.W.Frag) (mg : Str → Option Value) (base : Heap) (k : Nat) (f : Addr) (fd : FuncData) (ps : List Str) (sp : Sp) : Prop where
  len : ∀ vs H Q E, sp vs H Q E → vs.length = ps.length
  run : ∀ (A : Around) (outer : List Env) (z : Shared) (H : Hp) (args : Args) (us : List Value) (vs : List V) (Q : VK) (E : XK), A.guards = some [] → Room k A → Env0 P w K mg base A outer z H → BindsTo z fd args (ps.zip us) → Vals vs us → sp vs H Q E →
    codeAny (model P w) A (.call (.ref f) args) (CR (L2.CX P w) outer P w H z Q E) z
theorem FnG.mono {P : Program} {w : World} {K : PySem.W.Frag} {mg : Str → Option Value} {base : Heap} {j k : Nat} {f : Addr} {fd : FuncData} {ps : List Str} {sp : Sp} (F : FnG P w K mg base j f fd ps sp) (h : j ≤ k) :
    FnG P w K mg base k f fd ps sp := ⟨F.len, fun A o z H args us vs Q E hg hr => F.run A o z H args us vs Q E hg (hr.mono h)⟩
theorem FnG.imp {P : Program} {w : World} {K : PySem.W.Frag} {mg : Str → Option Value} {base : Heap} {k : Nat} {f : Addr} {fd : FuncData} {ps : List Str} {sp sp' : Sp} (F : FnG P w K mg base k f fd ps sp)
    (h : ∀ vs H Q E, sp' vs H Q E → sp vs H Q E) : FnG P w K mg base k f fd ps sp' :=
  ⟨fun vs H Q E q => F.len vs H Q E (h _ _ _ _ q), fun A o z H args us vs Q E hg hr he hb hv hs => F.run A o z H args us vs Q E hg hr he hb hv (h _ _ _ _ hs)⟩
section
variable {P : Program} {w : World} {K : PySem.W.Frag} {mg : Str → Option Value} {base : Heap}
/-- a def by its body -/
theorem fng_of {x qual : Str} {st : Stmt} {f : Addr} {fd : FuncData} {N ps : List Str} {k : Nat} {sp : Sp} (F : Fun K x qual st f fd) (S : FnScope N ps (defScope st)) (len : ∀ vs H Q E, sp vs H Q E → vs.length = ps.length)
    (body : ∀ (cdv : Value) (A : Around) (outer : List Env) (z : Shared) (H : Hp) (vs : List V) (Q : VK) (E : XK), A.guards = some [] → Room k (A.deeper (envOfC qual (defScope st) z.heap.objs.size f cdv)) → sp vs H Q E →
      ∃ t, PSs (cxOf (L2.CX P w) P w K mg base N qual (defScope st) f cdv A outer z H E) (defBody st) t ∧ t { nx := fun _ H' => Q .non H', rt := Q } (L2.start N vs) H) : FnG P w K mg base (k + 1) f fd ps sp := by
  obtain ⟨oc, od, kV, doc, pm, an, cdv, ct, osl, rfl, lk, hcd⟩ := F.ex
  refine ⟨len, fun A o z H args us vs Q E hg hr e0 hb rv hsp => ?_⟩
  have nl := len _ _ _ _ hsp
  have kin : K.In z.heap := e0.mod.kin.keeps fun b u e => (e0.bs b u e).1
  have nol : z.heap.NoLimit := e0.mod.nolimit.keeps fun b u e => (e0.bs b u e).1
  have kinds : ∀ y ∈ ps.zip us, (defScope st).names.lookup y.1 = some .local ∨ ((defScope st).names.lookup y.1 = some .cell ∧ ((cellsFrom (z.heap.objs.size + 1) (defScope st).names []).lookup y.1).isSome = true) := by
    rintro ⟨n, v⟩ hy
    rcases S.par n (List.of_mem_zip hy).1 with y | y
    · exact .inl y
    · exact .inr ⟨y, PySem.W.cellsFrom_some _ _ _ (.inl y)⟩
  refine codeAny_call_function hr.depth (kin _ _ lk) rfl S.co S.gen rfl (PySem.W.codeRec_of kin hcd) (hb _ _ _ _ ?_)
  refine wpAny_newFunctionEnv_cells S.kind kinds fun env he z1 c => ?_
  subst he
  refine ⟨nol.keeps c.toInCall.keep, codeAny_func ?_⟩
  obtain ⟨t, ht, y⟩ := body cdv A o z H vs Q E hg (hr.deeper _) hsp
  have J := inv_start (CX := L2.CX P w) (K := K) (mg := mg) (base := base) (E := E) S hr.hd e0 nl rv c
  refine wpAny_mono (ht.run [] z1 (L2.start N vs) H _ J y) (fun fl z2 r => ?_) fun e z2 r => r
  cases fl with
  | ret u =>
    obtain ⟨v, σ', H', J', rv', y'⟩ := r
    exact ⟨v, H', J'.os, J'.bare, J'.base, J'.hok, rv', y'⟩
  | next =>
    obtain ⟨σ', H', J', y'⟩ := r
    exact ⟨.non, H', J'.os, J'.bare, J'.base, J'.hok, rfl, y'⟩
  | brk =>
    obtain ⟨_, _, _, y'⟩ := r
    exact y'.elim
  | cont =>
    obtain ⟨_, _, _, y'⟩ := r
    exact y'.elim
end

/-! ### a promise by the mirror -/
def spF (K : PySem.W.Frag) (n : Nat) (F : List D → M D) : Sp := fun vs H Q E => ∃ dk l I s ds, Wo dk l I H s ∧ RepL K I dk ds vs ∧ ds.length = n ∧
  Post (F ds s) (fun d s' => ∀ v I' H', Ext dk l I H I' H' → Wo dk l I' H' s' → Rep K I' dk d v → Q v H') (fun c d s' => ∀ cls dd I' H', Ext dk l I H I' H' → Wo dk l I' H' s' → RepX K dk I' c d cls dd → E cls dd H')
def env0 (n : Nat) (ds : List D) : En := ds.map Slot.val ++ List.replicate (n - ds.length) Slot.no
def endF : Fl → M D
  | .rt d => ret d
  | .nx _ => ret .non
  | _ => bad
def runF (n : Nat) (B : En → M Fl) (ds : List D) : M D := andThen (B (env0 n ds)) endF
theorem env0_no {n : Nat} {ds : List D} (i : Nat) (o : OD) : (env0 n ds)[i]? ≠ some (.own o) := fun h => by
  unfold env0 at h
  by_cases hi : i < ds.length
  · rw [List.getElem?_append_left (by rw [List.length_map]; exact hi), List.getElem?_map] at h
    cases z : ds[i]? with
    | none => rw [z] at h; cases h
    | some d => rw [z] at h; cases h
  · rw [List.getElem?_append_right (by rw [List.length_map]; omega), List.getElem?_replicate] at h
    split at h <;> cases h
theorem env0_ok {K : PySem.W.Frag} {dk l : Addr} {I H : Hp} {ds : List D} {vs : List V} {N : List Str} (r : RepL K I dk ds vs) : EnvOk K dk l I H (env0 N.length ds) (L2.start N vs) := by
  have e := r.length
  refine ⟨by unfold env0 L2.start; simp [e], fun i d h => ?_, fun i o h => absurd h (env0_no i o), fun i j o u p h => absurd h (env0_no i o)⟩
  unfold env0 at h
  by_cases hi : i < ds.length
  · rw [List.getElem?_append_left (by rw [List.length_map]; exact hi), List.getElem?_map] at h
    cases z : ds[i]? with
    | none => rw [z] at h; cases h
    | some d' =>
      rw [z] at h
      have h' := Option.some.inj h
      injection h' with h'
      subst h'
      obtain ⟨v, hv, rv⟩ := r.get z
      refine ⟨v, ?_, rv⟩
      unfold L2.start
      rw [List.getElem?_append_left (by rw [List.length_map]; omega), List.getElem?_map, hv]
      rfl
  · rw [List.getElem?_append_right (by rw [List.length_map]; omega), List.getElem?_replicate] at h
    split at h <;> cases h
/-- what a def's body wants of exceptions -/
abbrev WF (E : XK) : WX := fun cls d _ H => E cls d H
section
variable {P : Program} {w : World} {K : PySem.W.Frag} {mg : Str → Option Value} {base : Heap}
theorem def_rule {x qual : Str} {st : Stmt} {f : Addr} {fd : FuncData} {N ps : List Str} {k : Nat} {B : En → M Fl} (F : Fun K x qual st f fd) (S : FnScope N ps (defScope st))
    (body : ∀ (cdv : Value) (A : Around) (outer : List Env) (z : Shared) (H0 : Hp) (E : XK) (dk l : Addr) (I0 : Hp), A.guards = some [] → Room k (A.deeper (envOfC qual (defScope st) z.heap.objs.size f cdv)) →
      PSs (cxOf (L2.CX P w) P w K mg base N qual (defScope st) f cdv A outer z H0 E) (defBody st) (liftS K dk l (WF E) I0 H0 B)) :
    FnG P w K mg base (k + 1) f fd ps (spF K ps.length (runF N.length B)) := by
  refine fng_of F S (fun vs H Q E h => ?_) fun cdv A outer z H vs Q E hg hr h => ?_
  · obtain ⟨dk, l, I, s, ds, w, r, n, q⟩ := h
    rw [← r.length]
    exact n
  · obtain ⟨dk, l, I, s, ds, w1, r, n, q⟩ := h
    refine ⟨_, body cdv A outer z H E dk l I hg hr, I, env0 N.length ds, s, ⟨env0_ok r, w1, Ext.refl, fun i o p h1 _ => ?_⟩, ?_⟩
    · exact absurd h1 (env0_no i o)
    · refine q.bind.mono (fun f s1 q => ?_) fun c d s1 q σ' cls dd I' H' x2 w2 r2 => q cls dd I' H' x2 w2 r2
      cases f with
      | nx e => exact fun σ' I' H' g k' => q .non I' H' k'.ext k'.wo rfl
      | rt d => exact q
      | bk e => exact q.elim
      | ct e => exact q.elim
end

/-! ### calls of defs -/
def permL {α : Type} (π : List Nat) (xs : List α) : List α := π.filterMap fun i => xs[i]?
def eCallK (F : List D → M D) (π : List Nat) (a : En → M (List D)) : En → M D := fun env => andThen (a env) fun xs => F (permL π xs)
theorem permL_vals {π : List Nat} {xs : List V} {us : List Value} (r : Vals xs us) : Vals (permL π xs) (permL π us) := by
  unfold permL
  induction π with
  | nil => exact .nil
  | cons i π ih =>
    rw [List.filterMap_cons, List.filterMap_cons]
    cases h : xs[i]? with
    | none =>
      rw [r.none_of h]
      exact ih
    | some x =>
      obtain ⟨u, hu, ru⟩ := r.get h
      rw [hu]
      exact .cons ru ih
theorem permL_rep {K : PySem.W.Frag} {I : Hp} {dk : Addr} {π : List Nat} {ds : List D} {xs : List V} (r : RepL K I dk ds xs) : RepL K I dk (permL π ds) (permL π xs) := by
  unfold permL
  induction π with
  | nil => rfl
  | cons i π ih =>
    rw [List.filterMap_cons, List.filterMap_cons]
    cases h : ds[i]? with
    | none =>
      have : xs[i]? = none := List.getElem?_eq_none_iff.mpr (by rw [← r.length]; exact List.getElem?_eq_none_iff.mp h)
      rw [this]
      exact ih
    | some d =>
      obtain ⟨v, hv, rv⟩ := r.get h
      rw [hv]
      exact ⟨v, _, rfl, rv, ih⟩
section
variable {X : Cx} {dk l : Addr} {W : WX} {k n : Nat} {f : Addr} {fd : FuncData} {ps : List Str} {F : List D → M D} {x : Str} {p pos : Pos} {e : Expr} {es : List Expr}
theorem spF_of {I H : Hp} {s : Dk} {σ : L2.St} {ds : List D} {vs : List V} {Q : VK} (w : Wo dk l I H s) (r : RepL X.K I dk ds vs) (hn : ds.length = n)
    (q : Post (F ds s) (fun d s' => ∀ v I' H', Ext dk l I H I' H' → Wo dk l I' H' s' → Rep X.K I' dk d v → Q v H') (exQ X.K dk l W I H σ)) : spF X.K n F vs H Q (fun c d H => W c d σ H) :=
  ⟨dk, l, I, s, ds, w, r, hn, q.mono (fun _ _ h => h) fun _ _ _ h => h⟩
theorem run_def {pins : List (Addr × Obj)} {σ : L2.St} {H : Hp} {z : Shared} {Q : VK} {us : List Value} {vs : List V} {E : XK} {sp : Sp} {args : Args} (G : FnG X.prog X.w X.K X.mg X.base k f fd ps sp) (hG : X.A.guards = some []) (hr : Room k X.A) (hb : BindsTo z fd args (ps.zip us)) (hx : PassesAt (L2.CX X.prog X.w) X σ E)
    (J : Inv X pins σ H z) (r : Vals vs us) (h : sp vs H Q E) : codeAny (model X.prog X.w) X.A (.call (.ref f) args) (fun rr z' => match rr with | .ok (.ret u) => EP X pins σ Q u z' | .ok _ => False | .error e => X.xe e z') z := by
  refine codeAny_mono (G.run X.A X.stack z H args us vs Q E hG hr J.env0 hb r h) fun rr z' y => ?_
  cases rr with
  | error e => exact hx pins H z e z' J y
  | ok fl =>
    cases fl with
    | ret u => exact J.after y
    | next => exact y.elim
    | brk => exact y.elim
    | cont => exact y.elim
/-- f(e, ..) -/
theorem r_call {N : En → M (List D)} (G : FnG X.prog X.w X.K X.mg X.base k f fd ps (spF X.K n F)) (hG : X.A.guards = some []) (hr : Room k X.A) (hg : Gl X x) (hm : X.mg x = some (.ref f)) (hk : PySem.W.keepIn X.K (.ref f) = true) (hb : Binds X.K fd ps []) (hx : ∀ σ, PassesAt (L2.CX X.prog X.w) X σ (fun c d H => W c d σ H))
    (ha : PA X (e :: es) (liftA X.K dk l W N)) (hn : (e :: es).length = n) (hdb : (x == ("__debug__" : Str)) = false := by decide) (he : starEach (e :: es) X.env = (false, eval e X.env) :: starEach es X.env := by rfl) (hpl : (backTo pos (starEach es X.env)).any (·.1) = false := by rfl) :
    PE X (.Call (.Name x p) (e :: es) [] pos) (lift X.K dk l W (eCall (fun ds => if ds.length = n then F ds else bad) N)) := by
  refine ⟨fun pins z σ H Q J h => ?_⟩
  obtain ⟨I, env, s, k1, w1, q⟩ := h
  refine wpAny_Call_Name_kw (ld_glob J hg hm ?_ hdb)
  have rd : liftA X.K dk l W N σ H (fun vs H1 => spF X.K n F vs H1 Q (fun c d H => W c d σ H)) := by
    refine ⟨I, env, s, k1, w1, q.bind.mono (fun ds s1 q vs I1 H1 x1 w2 r1 => ?_) fun _ _ _ h => h⟩
    by_cases hl : ds.length = n
    · simp only [hl, if_true] at q
      exact spF_of w2 r1 hl (q.mono (fun d s2 h v I2 H2 x2 w3 r2 => h v I2 H2 (x1.trans x2 w3) w3 r2) fun _ _ _ h => h.shift x1)
    · simp only [hl, if_false] at q
      exact q.elim
  refine PySem.W.callWith_K (h₀ := X.base) J.ok.mod.kin hk (thn (ha.run pos pins z σ H _ J rd) fun us z1 ⟨vs, H1, J1, r, y⟩ => ⟨J1.kIn, ?_⟩) he hpl
  have hl : us.length = ps.length := by rw [← r.length]; exact G.len _ _ _ _ y
  have b := hb z1 us J1.kIn (by rw [List.append_nil]; exact hl)
  rw [List.append_nil] at b
  show wpAny _ _ (call (.ref f) us) _ _ _
  refine wpAny_call (codeAny_mono (run_def G hG hr b (hx σ) J1 r y) fun rr z2 t => ?_)
  cases rr with
  | error e => exact t
  | ok fl =>
    cases fl with
    | ret u => exact t
    | next => exact t.elim
    | brk => exact t.elim
    | cont => exact t.elim
/-- keywords' values, by the mirror -/
theorem r_knil : PK X [] (liftA X.K dk l W eAnil) := ⟨fun pos pins z σ H Q J ⟨I, env, s, k1, w1, q⟩ => pk_nil.run pos pins z σ H Q J (q [] I H Ext.refl w1 rfl)⟩
theorem r_kcons {a : Expr} {kpos : Pos} {kws : List Keyword} {nm : Option Str} {m : En → M D} {N : En → M (List D)} (h : PE X a (lift X.K dk l W m)) (h2 : PK X kws (liftA X.K dk l W N)) : PK X (⟨nm, a, kpos⟩ :: kws) (liftA X.K dk l W (eAcons m N)) :=
  ⟨fun pos pins z σ H Q J ⟨I, env, s, k1, w1, q⟩ => (pk_cons h h2).run pos pins z σ H Q J (by
    refine ⟨I, env, s, k1, w1, q.bind.mono (fun d s1 q v I1 H1 x1 w2 r1 => ?_) fun _ _ _ h => h⟩
    refine ⟨I1, env, s1, k1.ext x1, w2, q.bind.mono (fun ds s2 q vs I2 H2 x2 w3 r2 => ?_) fun _ _ _ h => h.shift x1⟩
    exact q (v :: vs) I2 H2 (x1.trans x2 w3) w3 ⟨v, vs, rfl, Rep.mono x2.grow d v r1, r2⟩)⟩
/-- f(k = e, ..), by keywords alone -/
theorem r_callK {N : En → M (List D)} {kws : List Keyword} {ks : List Str} (π : List Nat) (G : FnG X.prog X.w X.K X.mg X.base k f fd ps (spF X.K n F)) (hG : X.A.guards = some []) (hr : Room k X.A) (hg : Gl X x) (hm : X.mg x = some (.ref f)) (hk : PySem.W.keepIn X.K (.ref f) = true)
    (hb : ∀ ws : List Value, (permL π ws).length = ps.length → bindArgs fd ⟨[], ks.zip ws⟩ = pure (ps.zip (permL π ws))) (hx : ∀ σ, PassesAt (L2.CX X.prog X.w) X σ (fun c d H => W c d σ H))
    (ha : PK X kws (liftA X.K dk l W N)) (hall : (backToKw pos (keywordEach kws X.env)).all (·.1.isSome) = true := by rfl) (hks : (backToKw pos (keywordEach kws X.env)).filterMap (·.1) = ks := by rfl) (hdb : (x == ("__debug__" : Str)) = false := by decide)
    (hpl : ((backTo pos (starEach [] X.env)).any (·.1) || (backToKw pos (keywordEach kws X.env)).any (·.1.isNone)) = false := by rfl) :
    PE X (.Call (.Name x p) [] kws pos) (lift X.K dk l W (eCallK (fun ds => if ds.length = n then F ds else bad) π N)) := by
  refine ⟨fun pins z σ H Q J h => ?_⟩
  obtain ⟨I, env, s, k1, w1, q⟩ := h
  refine wpAny_Call_Name_kw (ld_glob J hg hm ?_ hdb)
  have rd : liftA X.K dk l W N σ H (fun vs H1 => spF X.K n F (permL π vs) H1 Q (fun c d H => W c d σ H)) := by
    refine ⟨I, env, s, k1, w1, q.bind.mono (fun ds s1 q vs I1 H1 x1 w2 r1 => ?_) fun _ _ _ h => h⟩
    by_cases hl : (permL π ds).length = n
    · simp only [hl, if_true] at q
      exact spF_of w2 (permL_rep r1) hl (q.mono (fun d s2 h v I2 H2 x2 w3 r2 => h v I2 H2 (x1.trans x2 w3) w3 r2) fun _ _ _ h => h.shift x1)
    · simp only [hl, if_false] at q
      exact q.elim
  refine PySem.W.callWith_KW0 (h₀ := X.base) J.ok.mod.kin hk hall (thn (ha.run pos pins z σ H _ J rd) fun ws z1 ⟨vs, H1, J1, r, y⟩ => ⟨J1.kIn, ?_⟩) hpl
  have r2 := permL_vals (π := π) r
  have hl : (permL π ws).length = ps.length := by rw [← r2.length]; exact G.len _ _ _ _ y
  rw [hks]
  show wpAny _ _ (call (.ref f) [] (ks.zip ws)) _ _ _
  refine wpAny_call (codeAny_mono (run_def G hG hr (.of_eq (hb ws hl)) (hx σ) J1 r2 y) fun rr z2 t => ?_)
  cases rr with
  | error e => exact t
  | ok fl =>
    cases fl with
    | ret u => exact t
    | next => exact t.elim
    | brk => exact t.elim
    | cont => exact t.elim
theorem pass0' (σ : L2.St) : PassesAt (L2.CX X.prog X.w) X σ (fun c d H => W0 c d σ H) := fun _ _ _ _ _ _ c => by
  obtain ⟨_, _, _, _, _, _, _, _, _, _, _, _, y⟩ := c
  exact y.elim
end
end PV

end

section
set_option maxRecDepth 100000
namespace PV
open PySem PySem.Spec PyProof.Rows L2

theorem PE_or {X : Cx} {e : Expr} {t t' : TE} (h : PE X e t) (h' : PE X e t') : PE X e (fun σ H Q => t σ H Q ∨ t' σ H Q) := ⟨fun pins s σ H Q J q => q.elim (h.run pins s σ H Q J) (h'.run pins s σ H Q J)⟩
/-! ### subscripts -/
def valD {κ : Type} [DecidableEq κ] (kvs : List (κ × D)) (k : κ) : Option D := (kvs.find? fun kv => decide (kv.1 = k)).map (·.2)
def keyD : D → Option Key
  | .int i => some (.inl i)
  | .str x => some (.inr x)
  | _ => none
def keysD : List D → Option (List Key)
  | [] => some []
  | d :: ds => match keyD d, keysD ds with
    | some k, some ks => some (k :: ks)
    | _, _ => none
def ixD : D → D → Option D
  | .tup ds, .int i => atI ds i
  | .lst ds, .int i => atI ds i
  | .dK kvs, y => (keyD y).bind (valD kvs)
  | .dT kvs, .tup ks => (keysD ks).bind (valD kvs)
  | _, _ => none
section
variable {K : PySem.W.Frag} {I : Hp} {dk : Addr}
theorem atI_rep {ds : List D} {vs : List V} {i : Int} {d : D} (r : RepL K I dk ds vs) (h : atI ds i = some d) : ∃ v, atI vs i = some v ∧ Rep K I dk d v := by
  unfold atI at h ⊢
  rw [← r.length]
  cases e : ixN ds.length i with
  | none => rw [e] at h; cases h
  | some j =>
    rw [e] at h
    exact r.get h
theorem valK_rep : ∀ {kvs : List (Key × D)} {ws : List (Key × V)} {k : Key} {d : D}, RepK K I dk kvs ws → valD kvs k = some d → ∃ v, valV ws k = some v ∧ Rep K I dk d v
  | [], _, k, d, _, h => by cases h
  | (a, d') :: r, _, k, d, ⟨v, ws, e, h1, h2⟩, h => by
    subst e
    unfold valD at h
    unfold valV
    rw [List.find?_cons] at h ⊢
    by_cases hk : a = k
    · simp only [hk, decide_true, Option.map_some] at h ⊢
      cases h
      exact ⟨v, rfl, h1⟩
    · simp only [hk, decide_false] at h ⊢
      exact valK_rep h2 h
theorem valT_rep : ∀ {kvs : List (List Key × D)} {ws : List (List Key × V)} {k : List Key} {d : D}, RepT K I dk kvs ws → valD kvs k = some d → ∃ v, valV ws k = some v ∧ Rep K I dk d v
  | [], _, k, d, _, h => by cases h
  | (a, d') :: r, _, k, d, ⟨v, ws, e, h1, h2⟩, h => by
    subst e
    unfold valD at h
    unfold valV
    rw [List.find?_cons] at h ⊢
    by_cases hk : a = k
    · simp only [hk, decide_true, Option.map_some] at h ⊢
      cases h
      exact ⟨v, rfl, h1⟩
    · simp only [hk, decide_false] at h ⊢
      exact valT_rep h2 h
theorem keyD_rep {d : D} {v : V} {k : Key} (r : Rep K I dk d v) (h : keyD d = some k) : v = kV k := by
  cases d with
  | int i => cases h; exact r
  | str x => cases h; exact r
  | _ => cases h
theorem keysD_rep : ∀ {ds : List D} {vs : List V} {ks : List Key}, RepL K I dk ds vs → keysD ds = some ks → vs = ks.map kV
  | [], vs, ks, r, h => by cases h; exact r
  | d :: ds, _, ks, ⟨v, ws, e, h1, h2⟩, h => by
    subst e
    simp only [keysD] at h
    cases z : keyD d with
    | none => rw [z] at h; cases h
    | some k =>
      cases z2 : keysD ds with
      | none => rw [z, z2] at h; cases h
      | some ks' =>
        rw [z, z2] at h
        cases h
        rw [keyD_rep h1 z, keysD_rep h2 z2]
        rfl
end
section
variable {X : Cx} {dk l : Addr} {W : WX} {pos : Pos}
theorem r_ix {a b : Expr} {ma mb : En → M D} (hu : X.A.units + 1 < cLine) (ha : PE X a (lift X.K dk l W ma)) (hb : PE X b (lift X.K dk l W mb)) (hs : PlainIx b) : PE X (.Subscript a b pos) (lift X.K dk l W (eOp ixD ma mb)) := PE_imp (PE_or (pe_ix ix_seq ha hb hs) (pe_dget hu ha hb hs)) fun σ H Q ⟨I, env, s, k, w, q⟩ => by
  have q1 := q.bind
  cases z : ma env s with
  | bad => rw [z] at q1; exact q1.elim
  | exc c d s1 =>
    rw [z] at q1
    exact .inl ⟨I, env, s, k, w, by rw [z]; exact q1⟩
  | ok x s1 =>
    rw [z] at q1
    have q2 := (show Post (andThen (mb env) (fun y => opt (ixD x y)) s1) _ _ from q1).bind
    have seq : ∀ (t : Bool) (ds : List D), (∀ y d, ixD x y = some d → ∃ i, y = .int i ∧ atI ds i = some d ∧ ∀ I v, Rep X.K I dk x v → ∃ a vs, v = .ref a ∧ SqA X.K t I a vs ∧ RepL X.K I dk ds vs) → tOp (rIx X.K) (lift X.K dk l W ma) (lift X.K dk l W mb) σ H Q := fun t ds e1 => by
      refine ⟨I, env, s, k, w, ?_⟩
      rw [z]
      intro v I1 H1 x1 w1 r1
      refine ⟨I1, env, s1, k.ext x1, w1, q2.mono (fun y s2 q u I2 H2 x2 w2 r2 => ?_) fun _ _ _ h => h.shift x1⟩
      obtain ⟨d, e4, q3⟩ := q.opt
      obtain ⟨i, rfl, e5, e3⟩ := e1 y d e4
      obtain ⟨a', vs, rfl, h1, h2⟩ := e3 I1 v r1
      obtain ⟨v', h3, h4⟩ := atI_rep h2 e5
      have fin := q3 v' I2 H2 (x1.trans x2 w2) w2 (Rep.mono x2.grow d v' h4)
      have h5 := (h1.mono x2.grow).mono w2.sub
      cases t with
      | true => exact .inr (.inl ⟨a', vs, i, v', rfl, r2, h5, h3, fin⟩)
      | false => exact .inl ⟨a', vs, i, v', rfl, r2, h5, h3, fin⟩
    have dict : (∀ I1 H1 s1 v, Wo dk l I1 H1 s1 → Rep X.K I1 dk x v → ∃ a, v = .ref a ∧ ∀ I2 H2 s2 y d u, Sm I1 I2 → Wo dk l I2 H2 s2 → Rep X.K I2 dk y u → ixD x y = some d → ∃ o, DGet H2 a u (some o) ∧ Rep X.K I2 dk d o) → tDGet (lift X.K dk l W ma) (lift X.K dk l W mb) σ H Q := fun e1 => by
      refine ⟨I, env, s, k, w, ?_⟩
      rw [z]
      intro v I1 H1 x1 w1 r1
      obtain ⟨a', ea, e2⟩ := e1 I1 H1 s1 v w1 r1
      refine ⟨I1, env, s1, k.ext x1, w1, q2.mono (fun y s2 q u I2 H2 x2 w2 r2 => ?_) fun _ _ _ h => h.shift x1⟩
      obtain ⟨d, e4, q3⟩ := q.opt
      obtain ⟨o, g, r3⟩ := e2 I2 H2 s2 y d u x2.grow w2 r2 e4
      exact ⟨a', o, ea, g, q3 o I2 H2 (x1.trans x2 w2) w2 r3⟩
    cases x with
    | tup ds => exact .inl (seq true ds fun y d h => by
        cases y <;> first | (simp only [ixD] at h; cases h; done) | exact ⟨_, rfl, h, fun I v ⟨a, vs, e1, e2, e3⟩ => ⟨a, vs, e1, SqT.of e2, e3⟩⟩)
    | lst ds => exact .inl (seq false ds fun y d h => by
        cases y <;> first | (simp only [ixD] at h; cases h; done) | exact ⟨_, rfl, h, fun I v ⟨a, vs, e1, e2, e3⟩ => ⟨a, vs, e1, SqL.of e2, e3⟩⟩)
    | dK kvs => exact .inr (dict fun I1 H1 s1 v w1 r => by
        obtain ⟨a, ws, e1, e2, e3⟩ := r
        refine ⟨a, e1, fun I2 H2 s2 y d u g w2 ry h => ?_⟩
        simp only [ixD] at h
        cases zk : keyD y with
        | none => rw [zk] at h; cases h
        | some ky =>
          rw [zk] at h
          obtain ⟨o, h1, h2⟩ := valK_rep e3 h
          rw [keyD_rep ry zk]
          exact ⟨o, h1 ▸ DGet.k (w2.sub _ _ (g _ _ e2)), Rep.mono g _ _ h2⟩)
    | dT kvs => exact .inr (dict fun I1 H1 s1 v w1 r => by
        obtain ⟨a, ws, e1, e2, e3⟩ := r
        refine ⟨a, e1, fun I2 H2 s2 y d u g w2 ry h => ?_⟩
        cases y with
        | tup ks =>
          simp only [ixD] at h
          cases zk : keysD ks with
          | none => rw [zk] at h; cases h
          | some ky =>
            rw [zk] at h
            obtain ⟨o, h1, h2⟩ := valT_rep e3 h
            obtain ⟨b', vs, rfl, f1, f2⟩ := ry
            rw [keysD_rep f2 zk] at f1
            exact ⟨o, h1 ▸ DGet.t (w2.sub _ _ (g _ _ e2)) (w2.sub _ _ f1), Rep.mono g _ _ h2⟩
        | _ => simp only [ixD] at h; cases h)
    | _ => exact .inl (seq true [] fun y d h => by simp only [ixD] at h; cases h)
/-! ### slices -/
def cutL (xs : List D) (lo hi : Option Int) : List D := (xs.drop (HT.sIx xs.length 0 lo)).take (HT.sIx xs.length xs.length hi - HT.sIx xs.length 0 lo)
theorem cut_rep {K : PySem.W.Frag} {I : Hp} {ds : List D} {vs : List V} (r : RepL K I dk ds vs) (lo hi : Option Int) : RepL K I dk (cutL ds lo hi) (cutV vs lo hi) := by
  unfold cutL cutV
  rw [r.length]
  exact (r.drop _).take _
def cutD : D → Option Int → Option Int → Option D
  | .tup ds, lo, hi => some (.tup (cutL ds lo hi))
  | .lst ds, lo, hi => some (.lst (cutL ds lo hi))
  | _, _, _ => none
def eNoPart : En → M (Option Int) := fun _ => ret none
def ePart (m : En → M D) : En → M (Option Int) := fun env => andThen (m env) fun d => match d with
  | .int i => ret (some i)
  | _ => bad
def eSlice (m : En → M D) (a b : En → M (Option Int)) : En → M D := fun env => andThen (m env) fun d => andThen (a env) fun lo => andThen (b env) fun hi => opt (cutD d lo hi)
def liftP (K : PySem.W.Frag) (dk l : Addr) (W : WX) (m : En → M (Option Int)) : TO := fun σ H Q => ∃ I env s, EnvOk K dk l I H env σ ∧ Wo dk l I H s ∧ Post (m env s) (fun o s' => ∀ I' H', Ext dk l I H I' H' → Wo dk l I' H' s' → Q o H') (exQ K dk l W I H σ)
theorem r_pno : PO X none (liftP X.K dk l W eNoPart) := ⟨fun pins z σ H Q J ⟨I, env, s, k, w, q⟩ => po_none.run pins z σ H Q J (q I H Ext.refl w)⟩
theorem r_psome {e : Expr} {m : En → M D} (h : PE X e (lift X.K dk l W m)) : PO X (some e) (liftP X.K dk l W (ePart m)) := ⟨fun pins z σ H Q J ⟨I, env, s, k, w, q⟩ => (po_some h).run pins z σ H Q J (by
  refine ⟨I, env, s, k, w, q.bind.mono (fun d s1 q v I1 H1 x1 w1 r1 => ?_) fun _ _ _ h => h⟩
  cases d with
  | int i => exact ⟨i, r1, q I1 H1 x1 w1⟩
  | _ => exact q.elim)⟩
theorem r_slice {e : Expr} {lo hi : Option Expr} {p2 : Pos} {m : En → M D} {ma mb : En → M (Option Int)} (he : PE X e (lift X.K dk l W m)) (hl : PO X lo (liftP X.K dk l W ma)) (hh : PO X hi (liftP X.K dk l W mb)) : PE X (.Subscript e (.Slice lo hi none p2) pos) (lift X.K dk l W (eSlice m ma mb)) := PE_imp (pe_slice (SlR.or sl_tupA sl_list) he hl hh) fun σ H Q ⟨I, env, s, k, w, q⟩ => by
  refine ⟨I, env, s, k, w, q.bind.mono (fun d s1 q v I1 H1 x1 w1 r1 => ?_) fun _ _ _ h => h⟩
  refine ⟨I1, env, s1, k.ext x1, w1, q.bind.mono (fun a s2 q I2 H2 x2 w2 => ?_) fun _ _ _ h => h.shift x1⟩
  refine ⟨I2, env, s2, (k.ext x1).ext x2, w2, q.bind.mono (fun b s3 q I3 H3 x3 w3 => ?_) fun _ _ _ h => h.shift (x1.trans x2 w2)⟩
  obtain ⟨d', e1, q⟩ := q.opt
  have x13 := (x1.trans x2 w2).trans x3 w3
  have r3 := Rep.mono (x2.grow.trans x3.grow) d v r1
  cases d with
  | tup ds =>
    cases e1
    obtain ⟨p, vs, rfl, h1, h2⟩ := r3
    refine .inl ⟨p, vs, rfl, SqT.of (w3.sub _ _ h1), fun z => q _ I3 H3 x13 w3 ⟨p, vs, rfl, h1, ?_⟩, fun z t ht => q _ _ _ (x13.trans (Ext.new w3 ht) (w3.new ht)) (w3.new ht) ⟨t, _, rfl, upd_same, RepL.mono (Sm.upd (w3.sub.none ht)) _ _ (cut_rep h2 a b)⟩⟩
    have e : cutL ds a b = ds := by
      unfold cutL
      rw [h2.length, z.1, z.2]
      simp [← h2.length]
    rw [e]
    exact h2
  | lst ds =>
    cases e1
    obtain ⟨p, vs, rfl, h1, h2⟩ := r3
    exact .inr ⟨p, vs, rfl, SqL.of (w3.sub _ _ h1), fun t ht => q _ _ _ (x13.trans (Ext.new w3 ht) (w3.new ht)) (w3.new ht) ⟨t, _, rfl, upd_same, RepL.mono (Sm.upd (w3.sub.none ht)) _ _ (cut_rep h2 a b)⟩⟩
  | _ => cases e1
/-! ### stars -/
def eAstar (a : En → M D) (r : En → M (List D)) : En → M (List D) := fun env => andThen (a env) fun x => andThen (opt (seqOf x)) fun ds => andThen (r env) fun xs => ret (ds ++ xs)
theorem r_astar {a : Expr} {es : List Expr} {p : Pos} {m : En → M D} {n : En → M (List D)} (h : PE X a (lift X.K dk l W m)) (h2 : PA X es (liftA X.K dk l W n)) (hs : starEach (.Starred a p :: es) X.env = (true, eval a X.env) :: starEach es X.env := by rfl) : PA X (.Starred a p :: es) (liftA X.K dk l W (eAstar m n)) := PA_imp (StX.pa_star h h2 hs) fun σ H Q ⟨I, env, s, k, w, q⟩ => by
  refine ⟨I, env, s, k, w, q.bind.mono (fun x s1 q v I1 H1 x1 w1 r1 => ?_) fun _ _ _ h => h⟩
  obtain ⟨ds, zs, q⟩ := q.bind.opt
  obtain ⟨t, a', vs, rfl, h3, h4⟩ := seq_at w1 r1 zs
  refine ⟨a', vs, rfl, ?_, I1, env, s1, k.ext x1, w1, q.bind.mono (fun xs s2 q ws I2 H2 x2 w2 r2 => ?_) fun _ _ _ h => h.shift x1⟩
  · cases t with
    | true => exact .inl (h3.mono w1.sub)
    | false => exact .inr (h3.mono w1.sub)
  · exact q _ I2 H2 (x1.trans x2 w2) w2 ((RepL.mono x2.grow _ _ h4).append r2)
end
end PV

end

section
set_option maxRecDepth 100000
namespace PV
open PySem PySem.Spec PyProof.Rows L2

/-! ### built-ins -/
def CallD (X : Cx) (dk l : Addr) (f : Value) (g : List D → Option D) : Prop := ∃ r, CallR X f r ∧ ∀ I H s ds vs d Q, Wo dk l I H s → RepL X.K I dk ds vs → g ds = some d → (∀ w I' H', Ext dk l I H I' H' → Wo dk l I' H' s → Rep X.K I' dk d w → Q w H') → r vs H Q
def CallO (X : Cx) (dk l : Addr) (f : Value) (g : List D → Option OD) : Prop := ∃ r, CallR X f r ∧ ∀ I H s ds vs d Q, Wo dk l I H s → RepL X.K I dk ds vs → g ds = some d → (∀ p I' H', Ext dk l I H I' H' → Wo dk l I' H' s → H p = none → OwnAt X.K I' H' dk p d → p ≠ dk → p ≠ l → I' p = none → Q (.ref p) H') → r vs H Q
section
variable {X : Cx} {dk l : Addr} {W : WX} {pos : Pos}
theorem r_callB {x : Str} {p : Pos} {e : Expr} {es : List Expr} {id : String} {g : List D → Option D} {n : En → M (List D)} (c : CallD X dk l (.builtin id) g) (hg : Gl X x) (hm : X.mg x = none) (hv : bootBuiltins x = some (.builtin id)) (ha : PA X (e :: es) (liftA X.K dk l W n))
    (hn : x ≠ "__name__" := by decide) (hdb : (x == ("__debug__" : Str)) = false := by decide) (he : starEach (e :: es) X.env = (false, eval e X.env) :: starEach es X.env := by rfl) (hpl : (backTo pos (starEach es X.env)).any (·.1) = false := by rfl) :
    PE X (.Call (.Name x p) (e :: es) [] pos) (lift X.K dk l W (eMapA g n)) := by
  obtain ⟨r, hr, h⟩ := c
  exact PE_imp (pe_callB hr hg hm hv ha hn hdb he hpl) fun σ H Q ⟨I, env, s, k, w, q⟩ => by
    refine ⟨I, env, s, k, w, q.bind.mono (fun ds s1 q vs I1 H1 x1 w1 r1 => ?_) fun _ _ _ h => h⟩
    obtain ⟨d, e2, q⟩ := q.opt
    exact h I1 H1 s1 ds vs d Q w1 r1 e2 fun v I2 H2 x2 w2 r2 => q v I2 H2 (x1.trans x2 w2) w2 r2
theorem r_callT {x : Str} {p : Pos} {e : Expr} {es : List Expr} {T : String} {g : List D → Option D} {n : En → M (List D)} (c : CallD X dk l (.type T) g) (hg : Gl X x) (hm : X.mg x = none) (hv : bootBuiltins x = some (.type T)) (ha : PA X (e :: es) (liftA X.K dk l W n))
    (hn : x ≠ "__name__" := by decide) (hdb : (x == ("__debug__" : Str)) = false := by decide) (he : starEach (e :: es) X.env = (false, eval e X.env) :: starEach es X.env := by rfl) (hpl : (backTo pos (starEach es X.env)).any (·.1) = false := by rfl) :
    PE X (.Call (.Name x p) (e :: es) [] pos) (lift X.K dk l W (eMapA g n)) := by
  obtain ⟨r, hr, h⟩ := c
  exact PE_imp (pe_callTy hr hg hm hv ha hn hdb he hpl) fun σ H Q ⟨I, env, s, k, w, q⟩ => by
    refine ⟨I, env, s, k, w, q.bind.mono (fun ds s1 q vs I1 H1 x1 w1 r1 => ?_) fun _ _ _ h => h⟩
    obtain ⟨d, e2, q⟩ := q.opt
    exact h I1 H1 s1 ds vs d Q w1 r1 e2 fun v I2 H2 x2 w2 r2 => q v I2 H2 (x1.trans x2 w2) w2 r2
theorem own_back {I H I1 H1 I2 H2 : Hp} {s1 : Dk} {p : Addr} (x1 : Ext dk l I H I1 H1) (hp : H1 p = none) (n1 : p ≠ dk) (n2 : p ≠ l) : H p = none := by
  cases r : H p with
  | none => rfl
  | some u => rw [x1.keep p u r n1 n2] at hp; cases hp
theorem r_callBO {x : Str} {p : Pos} {e : Expr} {es : List Expr} {id : String} {g : List D → Option OD} {n : En → M (List D)} (c : CallO X dk l (.builtin id) g) (hg : Gl X x) (hm : X.mg x = none) (hv : bootBuiltins x = some (.builtin id)) (ha : PA X (e :: es) (liftA X.K dk l W n))
    (hn : x ≠ "__name__" := by decide) (hdb : (x == ("__debug__" : Str)) = false := by decide) (he : starEach (e :: es) X.env = (false, eval e X.env) :: starEach es X.env := by rfl) (hpl : (backTo pos (starEach es X.env)).any (·.1) = false := by rfl) :
    PE X (.Call (.Name x p) (e :: es) [] pos) (liftO X.K dk l W (eMapO g n)) := by
  obtain ⟨r, hr, h⟩ := c
  exact PE_imp (pe_callB hr hg hm hv ha hn hdb he hpl) fun σ H Q ⟨I, env, s, k, w, q⟩ => by
    refine ⟨I, env, s, k, w, q.bind.mono (fun ds s1 q vs I1 H1 x1 w1 r1 => ?_) fun _ _ _ h => h⟩
    obtain ⟨d, e2, q⟩ := q.opt
    exact h I1 H1 s1 ds vs d Q w1 r1 e2 fun v I2 H2 x2 w2 hp ho n1 n2 n3 => q v I2 H2 (x1.trans x2 w2) w2 (own_back (I2 := I2) (H2 := H2) (s1 := s1) x1 hp n1 n2) ho n1 n2 n3
theorem r_callTO {x : Str} {p : Pos} {e : Expr} {es : List Expr} {T : String} {g : List D → Option OD} {n : En → M (List D)} (c : CallO X dk l (.type T) g) (hg : Gl X x) (hm : X.mg x = none) (hv : bootBuiltins x = some (.type T)) (ha : PA X (e :: es) (liftA X.K dk l W n))
    (hn : x ≠ "__name__" := by decide) (hdb : (x == ("__debug__" : Str)) = false := by decide) (he : starEach (e :: es) X.env = (false, eval e X.env) :: starEach es X.env := by rfl) (hpl : (backTo pos (starEach es X.env)).any (·.1) = false := by rfl) :
    PE X (.Call (.Name x p) (e :: es) [] pos) (liftO X.K dk l W (eMapO g n)) := by
  obtain ⟨r, hr, h⟩ := c
  exact PE_imp (pe_callTy hr hg hm hv ha hn hdb he hpl) fun σ H Q ⟨I, env, s, k, w, q⟩ => by
    refine ⟨I, env, s, k, w, q.bind.mono (fun ds s1 q vs I1 H1 x1 w1 r1 => ?_) fun _ _ _ h => h⟩
    obtain ⟨d, e2, q⟩ := q.opt
    exact h I1 H1 s1 ds vs d Q w1 r1 e2 fun v I2 H2 x2 w2 hp ho n1 n2 n3 => q v I2 H2 (x1.trans x2 w2) w2 (own_back (I2 := I2) (H2 := H2) (s1 := s1) x1 hp n1 n2) ho n1 n2 n3
/-! one argument -/
def g1 (f : D → Option D) : List D → Option D
  | [d] => f d
  | _ => none
def g1O (f : D → Option OD) : List D → Option OD
  | [d] => f d
  | _ => none
theorem callD1 {f : Value} {r : List V → Hp → VK → Prop} {g : D → Option D} (hr : CallR X f r) (h : ∀ I H s x v d Q, Wo dk l I H s → Rep X.K I dk x v → g x = some d → (∀ w I' H', Ext dk l I H I' H' → Wo dk l I' H' s → Rep X.K I' dk d w → Q w H') → r [v] H Q) : CallD X dk l f (g1 g) := by
  refine ⟨r, hr, fun I H s ds vs d Q w rs e q => ?_⟩
  rcases ds with _ | ⟨x, _ | ⟨y, t⟩⟩
  · cases e
  · obtain ⟨v, r', rfl, h1, h2⟩ := rs
    have h3 : r' = [] := h2
    subst h3
    exact h I H s x v d Q w h1 e q
  · cases e
theorem callO1 {f : Value} {r : List V → Hp → VK → Prop} {g : D → Option OD} (hr : CallR X f r) (h : ∀ I H s x v d Q, Wo dk l I H s → Rep X.K I dk x v → g x = some d → (∀ p I' H', Ext dk l I H I' H' → Wo dk l I' H' s → H p = none → OwnAt X.K I' H' dk p d → p ≠ dk → p ≠ l → I' p = none → Q (.ref p) H') → r [v] H Q) : CallO X dk l f (g1O g) := by
  refine ⟨r, hr, fun I H s ds vs d Q w rs e q => ?_⟩
  rcases ds with _ | ⟨x, _ | ⟨y, t⟩⟩
  · cases e
  · obtain ⟨v, r', rfl, h1, h2⟩ := rs
    have h3 : r' = [] := h2
    subst h3
    exact h I H s x v d Q w h1 e q
  · cases e
/-- a new list of one's own -/
theorem own_new {I H : Hp} {s : Dk} {ds : List D} {vs : List V} {Q : VK} (w : Wo dk l I H s) (r : RepL X.K I dk ds vs) (q : ∀ p I' H', Ext dk l I H I' H' → Wo dk l I' H' s → H p = none → OwnAt X.K I' H' dk p (.lst ds) → p ≠ dk → p ≠ l → I' p = none → Q (.ref p) H') : ∀ t, H t = none → Q (.ref t) (upd H t (.lst vs)) := fun t ht => by
  have n1 : t ≠ dk := (ne_of_none w.dko ht).symm
  have n2 : t ≠ l := (ne_of_none w.lft ht).symm
  have n3 : I t = none := w.sub.none ht
  exact q t I _ (Ext.off w ht) (w.off n3 n1 n2) ht ⟨vs, upd_same, r⟩ n1 n2 n3
theorem tup_new {I H : Hp} {s : Dk} {ds : List D} {vs : List V} {Q : VK} (w : Wo dk l I H s) (r : RepL X.K I dk ds vs) (q : ∀ v I' H', Ext dk l I H I' H' → Wo dk l I' H' s → Rep X.K I' dk (.tup ds) v → Q v H') : ∀ t, H t = none → Q (.ref t) (upd H t (.tup vs)) := fun t ht =>
  q _ _ _ (Ext.new w ht) (w.new ht) ⟨t, vs, rfl, upd_same, RepL.mono (Sm.upd (w.sub.none ht)) _ _ r⟩
def lenD : D → Option D
  | .tup ds => some (.int ds.length)
  | .lst ds => some (.int ds.length)
  | _ => none
theorem c_len : CallD X dk l (.builtin "len") (g1 lenD) := callD1 call_len_seq fun I H s x v d Q w r e q => by
  cases x with
  | tup ds =>
    cases e
    obtain ⟨a, vs, rfl, h1, h2⟩ := r
    exact ⟨a, vs, rfl, .inr (.of (w.sub _ _ h1)), by rw [← h2.length]; exact q _ I H Ext.refl w rfl⟩
  | lst ds =>
    cases e
    obtain ⟨a, vs, rfl, h1, h2⟩ := r
    exact ⟨a, vs, rfl, .inl (.of (w.sub _ _ h1)), by rw [← h2.length]; exact q _ I H Ext.refl w rfl⟩
  | _ => cases e
def tupleD : D → Option D
  | .tup ds => some (.tup ds)
  | .lst ds => some (.tup ds)
  | _ => none
theorem c_tuple : CallD X dk l (.type "tuple") (g1 tupleD) := callD1 call_tuple_of fun I H s x v d Q w r e q => by
  cases x with
  | tup ds =>
    cases e
    obtain ⟨a, vs, rfl, h1, h2⟩ := r
    exact ⟨a, vs, rfl, .inr ⟨.of (w.sub _ _ h1), q _ I H Ext.refl w ⟨a, vs, rfl, h1, h2⟩⟩⟩
  | lst ds =>
    cases e
    obtain ⟨a, vs, rfl, h1, h2⟩ := r
    exact ⟨a, vs, rfl, .inl ⟨.of (w.sub _ _ h1), tup_new w h2 q⟩⟩
  | _ => cases e
def listD : D → Option OD := fun d => (seqOf d).map OD.lst
theorem c_list : CallO X dk l (.type "list") (g1O listD) := callO1 call_list_of fun I H s x v d Q w r e q => by
  cases x with
  | tup ds =>
    cases e
    obtain ⟨a, vs, rfl, h1, h2⟩ := r
    exact ⟨a, vs, rfl, .inr (.of (w.sub _ _ h1)), own_new w h2 q⟩
  | lst ds =>
    cases e
    obtain ⟨a, vs, rfl, h1, h2⟩ := r
    exact ⟨a, vs, rfl, .inl (.of (w.sub _ _ h1)), own_new w h2 q⟩
  | _ => cases e
def intD : D → Option D
  | .int i => some (.int i)
  | .bl b => some (.int (if b then 1 else 0))
  | _ => none
theorem c_int : CallD X dk l (.type "int") (g1 intD) := callD1 call_int1 fun I H s x v d Q w r e q => by
  cases x with
  | int i =>
    cases e
    exact .inl ⟨i, by rw [show v = _ from r], q _ I H Ext.refl w rfl⟩
  | bl b =>
    cases e
    exact .inr ⟨b, by rw [show v = _ from r], q _ I H Ext.refl w rfl⟩
  | _ => cases e
def bls? : List D → Option (List Bool)
  | [] => some []
  | .bl b :: r => (bls? r).map (b :: ·)
  | _ :: _ => none
theorem bls_of {I : Hp} : ∀ {ds : List D} {bs : List Bool} {vs : List V}, bls? ds = some bs → RepL X.K I dk ds vs → vs = bs.map V.bl
  | [], bs, vs, h, r => by cases h; exact r
  | d :: ds, bs, vs, h, r => by
    obtain ⟨v, t, rfl, h1, h2⟩ := r
    cases d with
    | bl b =>
      simp only [bls?] at h
      cases z : bls? ds with
      | none => rw [z] at h; cases h
      | some cs =>
        rw [z] at h
        cases h
        rw [show v = _ from h1, bls_of z h2]
        rfl
    | _ => simp only [bls?] at h; cases h
def allD : D → Option D
  | .lst ds => (bls? ds).map fun bs => .bl (bs.all id)
  | _ => none
def anyD : D → Option D
  | .lst ds => (bls? ds).map fun bs => .bl (bs.any id)
  | _ => none
theorem c_all (hc : X.calm = true) : CallD X dk l (.builtin "all") (g1 allD) := callD1 (cr_all hc) fun I H s x v d Q w r e q => by
  cases x with
  | lst ds =>
    simp only [allD] at e
    cases z : bls? ds with
    | none => rw [z] at e; cases e
    | some bs =>
      rw [z] at e
      cases e
      obtain ⟨a, vs, rfl, h1, h2⟩ := r
      rw [bls_of z h2] at h1
      exact ⟨a, bs, rfl, .of (w.sub _ _ h1), q _ I H Ext.refl w rfl⟩
  | _ => cases e
theorem c_any (hc : X.calm = true) : CallD X dk l (.builtin "any") (g1 anyD) := callD1 (cr_any hc) fun I H s x v d Q w r e q => by
  cases x with
  | lst ds =>
    simp only [anyD] at e
    cases z : bls? ds with
    | none => rw [z] at e; cases e
    | some bs =>
      rw [z] at e
      cases e
      obtain ⟨a, vs, rfl, h1, h2⟩ := r
      rw [bls_of z h2] at h1
      exact ⟨a, bs, rfl, .of (w.sub _ _ h1), q _ I H Ext.refl w rfl⟩
  | _ => cases e
def sumD : D → Option D
  | .lst ds => (ints? ds).map fun ns => .int ns.sum
  | _ => none
theorem c_sum (hc : X.calm = true) : CallD X dk l (.builtin "sum") (g1 sumD) := callD1 (cr_sum hc) fun I H s x v d Q w r e q => by
  cases x with
  | lst ds =>
    simp only [sumD] at e
    cases z : ints? ds with
    | none => rw [z] at e; cases e
    | some ns =>
      rw [z] at e
      cases e
      obtain ⟨a, vs, rfl, h1, h2⟩ := r
      rw [ints?_eq z] at h2
      rw [h2.ints_of] at h1
      exact ⟨a, ns, rfl, .of (w.sub _ _ h1), q _ I H Ext.refl w rfl⟩
  | _ => cases e
/-- sorted(..) of ints -/
def sortI (ns : List Int) : List Int := ns.mergeSort fun a b => decide (a ≤ b)
theorem sortI_perm (ns : List Int) : (sortI ns).Perm ns := List.mergeSort_perm ..
theorem sortI_sorted (ns : List Int) : (sortI ns).Pairwise (· ≤ ·) := by
  have h := List.pairwise_mergeSort (le := fun a b : Int => decide (a ≤ b)) (fun a b c h1 h2 => by
    have := of_decide_eq_true h1
    have := of_decide_eq_true h2
    exact decide_eq_true (by omega)) (fun a b => by
    by_cases h : a ≤ b
    · simp [h]
    · simp [h]; omega) ns
  exact h.imp fun h => of_decide_eq_true h
def sortedD : D → Option OD
  | .lst ds => (ints? ds).map fun ns => .lst ((sortI ns).map D.int)
  | _ => none
theorem c_sortedI : CallO X dk l (.builtin "sorted") (g1O sortedD) := callO1 cr_sortedI fun I H s x v d Q w r e q => by
  cases x with
  | lst ds =>
    simp only [sortedD] at e
    cases z : ints? ds with
    | none => rw [z] at e; cases e
    | some ns =>
      rw [z] at e
      cases e
      obtain ⟨a, vs, rfl, h1, h2⟩ := r
      rw [ints?_eq z] at h2
      rw [h2.ints_of] at h1
      refine ⟨a, ns, rfl, .of (w.sub _ _ h1), fun ns' p hp hs hn => ?_⟩
      have e2 : ns' = sortI ns := PySem.W.ksm_same (hp.trans (sortI_perm ns).symm) hs (sortI_sorted ns)
      rw [e2]
      exact own_new w (RepL.ints _) q p hn
  | _ => cases e
/-- max(a, b) -/
def gMax : List D → Option D
  | [.int i, .int j] => some (.int (if j > i then j else i))
  | _ => none
theorem c_max (hc : X.calm = true) : CallD X dk l (.builtin "max") gMax := by
  refine ⟨_, call_max2 hc, fun I H s ds vs d Q w rs e q => ?_⟩
  rcases ds with _ | ⟨x, _ | ⟨y, _ | ⟨z, t⟩⟩⟩
  · cases e
  · cases x <;> cases e
  · cases x <;> cases y <;> first | cases e | skip
    obtain ⟨v, r', rfl, h1, v2, r2, rfl, h2, h3⟩ := rs
    have h4 : r2 = [] := h3
    subst h4
    exact ⟨_, _, by rw [show v = _ from h1, show v2 = _ from h2], q _ I H Ext.refl w rfl⟩
  · cases x <;> cases y <;> cases e
/-! repr -/
def reprD (d : D) : Option D := d.toP.bind fun p => if p.showable && SeqAt.shaped p && decide (p.shown.length ≤ size7) then some (.str p.shown) else none
theorem call_reprD (hG : X.A.guards = some []) (hu : X.A.units + 128 < cLine) : CallR X (.builtin "repr") (fun xs H Q => ∃ (x : V) (p : PyData), xs = [x] ∧ Dp X.K H x p ∧ p.showable = true ∧ SeqAt.shaped p = true ∧ p.shown.length ≤ size7 ∧ Q (.str p.shown) H) := by
  intro pins z σ H xs us Q J r h
  obtain ⟨x, p, rfl, hd, hs, hsh, hz, q⟩ := h
  obtain ⟨u, rfl, ru⟩ := vals1 r
  obtain ⟨as, rd⟩ := Dp.reads J p x u hd ru
  have hnd : p.hasDict = false := PyData.hasDict_of_canLay p (SeqAt.canLay_of_shaped hsh)
  have hdep := SeqAt.depth_of_shaped hsh
  cases hd with
  | non =>
    cases (show u = Value.none from ru)
    exact PySem.P.repr_of_none ⟨.str _, H, J.tok _, ⟨_, rfl⟩, by simpa only [PyData.shown] using q⟩
  | bl b =>
    cases (show u = Value.bool b from ru)
    exact PySem.P.repr_of_bool ⟨.str _, H, J.tok _, ⟨_, rfl⟩, by simpa only [PyData.shown] using q⟩
  | int i =>
    obtain ⟨t, rfl⟩ := (show ∃ t, u = Value.int i t from ru)
    simp only [PyData.showable] at hs
    exact PySem.P.repr_of_int (of_decide_eq_true hs) ⟨.str _, H, J.tok _, ⟨_, rfl⟩, by simpa only [PyData.shown] using q⟩
  | str y =>
    obtain ⟨t, rfl⟩ := (show ∃ t, u = Value.str y t from ru)
    simp only [PyData.shown] at hz q
    exact PySem.P.repr_of_str ⟨.str _, H, J.tok _, ⟨_, rfl⟩, q⟩ (size7_le hz)
  | @lst a ys ds h1 h2 =>
    cases (show u = Value.ref a from ru)
    exact repr_of_reads' rd hs (fun h => by rw [hnd] at h; cases h) hG (by omega) (fun _ _ e => e) (fun h' t tk kp => ⟨.str _, H, J.kept kp, ⟨t, rfl⟩, q⟩) (size7_le hz)
  | @tup a ys ds h1 h2 =>
    cases (show u = Value.ref a from ru)
    exact repr_of_reads' rd hs (fun h => by rw [hnd] at h; cases h) hG (by omega) (fun _ _ e => e) (fun h' t tk kp => ⟨.str _, H, J.kept kp, ⟨t, rfl⟩, q⟩) (size7_le hz)
theorem c_repr (hG : X.A.guards = some []) (hu : X.A.units + 128 < cLine) : CallD X dk l (.builtin "repr") (g1 reprD) := callD1 (call_reprD hG hu) fun I H s x v d Q w r e q => by
  unfold reprD at e
  cases z : x.toP with
  | none => rw [z] at e; cases e
  | some p =>
    rw [z] at e
    by_cases h : (p.showable && SeqAt.shaped p && decide (p.shown.length ≤ size7)) = true
    · have e2 : some (D.str p.shown) = some d := by rw [← e]; exact (if_pos h).symm
      cases e2
      rw [Bool.and_eq_true, Bool.and_eq_true] at h
      exact ⟨v, p, rfl, dp_of w.sub x v p r z, h.1.1, h.1.2, of_decide_eq_true h.2, q _ I H Ext.refl w rfl⟩
    · have e2 : none = some d := by rw [← e]; exact (if_neg h).symm
      cases e2
/-! tuple(range(..)), list(range(..)) -/
def gTupR (g : List D → Option (List D)) : List D → Option D := fun ds => (g ds).bind fun es => if es.length ≤ size7 then some (.tup es) else none
def gLstR (g : List D → Option (List D)) : List D → Option OD := fun ds => (g ds).bind fun es => if es.length ≤ size7 then some (.lst es) else none
theorem rg_rep {I : Hp} (a b : Int) : RepL X.K I dk (rangeD a b) (rgV a b) := by
  unfold rangeD rgV
  generalize List.range (b - a).toNat = L
  induction L with
  | nil => rfl
  | cons i L ih => exact ⟨_, _, rfl, rfl, ih⟩
theorem rg_ok {a b : Int} (h1 : small62 a = true) (h2 : small62 b = true) (h : (rangeD a b).length ≤ size7) : RgOk a b := by
  obtain ⟨a1, a2⟩ := small62_ok h1
  obtain ⟨b1, b2⟩ := small62_ok h2
  refine ⟨a1, a2, b1, b2, ?_⟩
  have : (rangeD a b).length = (b - a).toNat := by simp [rangeD]
  rw [this] at h
  exact Nat.le_trans h (by decide)
theorem r_tupRange1 {a : Expr} {m : En → M D} {p p2 pos2 : Pos} (hc : X.calm = true) (hg : Gl X "tuple") (hm : X.mg "tuple" = none) (hg2 : Gl X "range") (hm2 : X.mg "range" = none) (ha : PE X a (lift X.K dk l W m))
    (na : starEach [a] X.env = (false, eval a X.env) :: starEach [] X.env := by rfl) (nb : starEach [Expr.Call (.Name "range" p2) [a] [] pos2] X.env = (false, eval (Expr.Call (.Name "range" p2) [a] [] pos2) X.env) :: starEach [] X.env := by rfl) :
    PE X (.Call (.Name "tuple" p) [.Call (.Name "range" p2) [a] [] pos2] [] pos) (lift X.K dk l W (eMapA (gTupR gRange1) (eAcons m eAnil))) := PE_imp (pe_tupRg hc hg hm (prg_1 hg2 hm2 ha na) nb) fun σ H Q ⟨I, env, s, k, w, q⟩ => by
  have q0 : Post (m env s) (fun x s1 => Post (opt (gTupR gRange1 [x]) s1) (fun d s' => ∀ v I' H', Ext dk l I H I' H' → Wo dk l I' H' s' → Rep X.K I' dk d v → Q v H') (exQ X.K dk l W I H σ)) (exQ X.K dk l W I H σ) := by
    have h := q.bind
    exact (Post.bind (m := m env) h).mono (fun x s1 h => h) fun _ _ _ h => h
  refine ⟨I, env, s, k, w, q0.mono (fun x s1 q v I1 H1 x1 w1 r1 => ?_) fun _ _ _ h => h⟩
  obtain ⟨d, e, q9⟩ := q.opt
  unfold gTupR at e
  cases z : gRange1 [x] with
  | none => rw [z] at e; cases e
  | some es =>
    rw [z] at e
    by_cases hl : es.length ≤ size7
    · have e2 : some (D.tup es) = some d := by rw [← e]; exact (if_pos hl).symm
      cases e2
      obtain ⟨j, ej, z9⟩ := gRange1_inv z
      cases ej
      by_cases hj : small62 j = true
      · rw [if_pos hj] at z9
        cases z9
        exact ⟨j, r1, rg_ok (by decide) hj hl, tup_new w1 (rg_rep 0 j) fun v I' H' x2 w2 r2 => q9 v I' H' (x1.trans x2 w2) w2 r2⟩
      · rw [if_neg hj] at z9; cases z9
    · have e2 : none = some d := by rw [← e]; exact (if_neg hl).symm
      cases e2
theorem r_lstRange1 {a : Expr} {m : En → M D} {p p2 pos2 : Pos} (hc : X.calm = true) (hg : Gl X "list") (hm : X.mg "list" = none) (hg2 : Gl X "range") (hm2 : X.mg "range" = none) (ha : PE X a (lift X.K dk l W m))
    (na : starEach [a] X.env = (false, eval a X.env) :: starEach [] X.env := by rfl) (nb : starEach [Expr.Call (.Name "range" p2) [a] [] pos2] X.env = (false, eval (Expr.Call (.Name "range" p2) [a] [] pos2) X.env) :: starEach [] X.env := by rfl) :
    PE X (.Call (.Name "list" p) [.Call (.Name "range" p2) [a] [] pos2] [] pos) (liftO X.K dk l W (eMapO (gLstR gRange1) (eAcons m eAnil))) := PE_imp (pe_listRg hc hg hm (prg_1 hg2 hm2 ha na) nb) fun σ H Q ⟨I, env, s, k, w, q⟩ => by
  have q0 : Post (m env s) (fun x s1 => Post (opt (gLstR gRange1 [x]) s1) (fun o s' => ∀ p I' H', Ext dk l I H I' H' → Wo dk l I' H' s' → H p = none → OwnAt X.K I' H' dk p o → p ≠ dk → p ≠ l → I' p = none → Q (.ref p) H') (exQ X.K dk l W I H σ)) (exQ X.K dk l W I H σ) := by
    have h := q.bind
    exact (Post.bind (m := m env) h).mono (fun x s1 h => h) fun _ _ _ h => h
  refine ⟨I, env, s, k, w, q0.mono (fun x s1 q v I1 H1 x1 w1 r1 => ?_) fun _ _ _ h => h⟩
  obtain ⟨d, e, q9⟩ := q.opt
  unfold gLstR at e
  cases z : gRange1 [x] with
  | none => rw [z] at e; cases e
  | some es =>
    rw [z] at e
    by_cases hl : es.length ≤ size7
    · have e2 : some (OD.lst es) = some d := by rw [← e]; exact (if_pos hl).symm
      cases e2
      obtain ⟨j, ej, z9⟩ := gRange1_inv z
      cases ej
      by_cases hj : small62 j = true
      · rw [if_pos hj] at z9
        cases z9
        exact ⟨j, r1, rg_ok (by decide) hj hl, own_new w1 (rg_rep 0 j) fun p I' H' x2 w2 hp ho n1 n2 n3 => q9 p I' H' (x1.trans x2 w2) w2 (own_back (I2 := I') (H2 := H') (s1 := s1) x1 hp n1 n2) ho n1 n2 n3⟩
      · rw [if_neg hj] at z9; cases z9
    · have e2 : none = some d := by rw [← e]; exact (if_neg hl).symm
      cases e2
end
end PV

end

section
set_option maxRecDepth 100000
namespace PV
open PySem PySem.Spec PyProof.Rows L2

/-! ### objects of one's own are written -/
section
variable {K : PySem.W.Frag} {dk l : Addr} {I H I0 H0 : Hp} {env : En} {σ : L2.St} {s : Dk}
theorem EnvOk.put {i : Nat} {p : Addr} {o u : OD} {w : HO} (e : EnvOk K dk l I H env σ) (hi : env[i]? = some (.own o)) (hp : σ[i]? = some (some (.ref p))) (n1 : p ≠ dk) (n2 : p ≠ l) (n3 : I p = none) (ho : OwnAt K I (upd H p w) dk p u) : EnvOk K dk l I (upd H p w) (env.set i (.own u)) σ := by
  have hil : i < env.length := (List.getElem?_eq_some_iff.mp hi).1
  refine ⟨by rw [List.length_set]; exact e.len, fun j d h => ?_, fun j u' h => ?_, fun j m u1 u2 q h1 h2 h3 h4 => ?_⟩
  · by_cases hj : i = j
    · subst hj
      rw [List.getElem?_set_self hil] at h; cases h
    · rw [List.getElem?_set_ne hj] at h
      exact e.val j d h
  · by_cases hj : i = j
    · subst hj
      rw [List.getElem?_set_self hil] at h
      cases h
      exact ⟨p, hp, ho, n1, n2, n3⟩
    · rw [List.getElem?_set_ne hj] at h
      obtain ⟨q, a1, a2, a3, a4, a5⟩ := e.own j u' h
      have hq : q ≠ p := fun z => by
        subst z
        exact hj (e.sep i j o u' q hi h hp a1)
      exact ⟨q, a1, a2.move (Sm.refl I) fun w z => by rw [upd_ne hq]; exact z, a3, a4, a5⟩
  · have old : ∀ (j : Nat) (v : OD), (env.set i (.own u))[j]? = some (.own v) → ∃ v', env[j]? = some (.own v') := fun j v h => by
      by_cases hj : i = j
      · subst hj; exact ⟨o, hi⟩
      · rw [List.getElem?_set_ne hj] at h; exact ⟨v, h⟩
    obtain ⟨v1, b1⟩ := old j u1 h1
    obtain ⟨v2, b2⟩ := old m u2 h2
    exact e.sep j m v1 v2 q b1 b2 h3 h4
theorem SOk.put {i : Nat} {p : Addr} {o u : OD} {w : HO} (k : SOk K dk l I0 H0 I H env σ s) (hi : env[i]? = some (.own o)) (hp : σ[i]? = some (some (.ref p))) (n1 : p ≠ dk) (n2 : p ≠ l) (n3 : I p = none) (ho : OwnAt K I (upd H p w) dk p u) : SOk K dk l I0 H0 I (upd H p w) (env.set i (.own u)) σ s := by
  have hil : i < env.length := (List.getElem?_eq_some_iff.mp hi).1
  have hn := k.new i o p hi hp
  refine ⟨k.eok.put hi hp n1 n2 n3 ho, k.wo.off n3 n1 n2, ⟨k.ext.grow, fun a x h m1 m2 => ?_, k.ext.fresh⟩, fun j v q h1 h2 => ?_⟩
  · rw [upd_ne (ne_of_none h hn)]
    exact k.ext.keep a x h m1 m2
  · by_cases hj : i = j
    · subst hj
      exact k.new i o q hi h2
    · rw [List.getElem?_set_ne hj] at h1
      exact k.new j v q h1 h2
end
/-! ### append, extend, stores -/
def ownL (env : En) (i : Nat) : Option (List D) := match env[i]? with
  | some (.own (.lst ds)) => some ds
  | _ => none
theorem ownL_eq {env : En} {i : Nat} {ds : List D} (h : ownL env i = some ds) : env[i]? = some (.own (.lst ds)) := by
  unfold ownL at h
  cases z : env[i]? with
  | none => rw [z] at h; cases h
  | some y =>
    rw [z] at h
    cases y with
    | no => cases h
    | val d => cases h
    | own o => cases o with
      | lst es => cases h; rfl
      | dK _ => cases h
      | dT _ => cases h
def sAppend (i : Nat) (m : En → M D) : En → M Fl := fun env => andThen (opt (ownL env i)) fun ds => andThen (m env) fun d => if ds.length < size7 then ret (.nx (env.set i (.own (.lst (ds ++ [d]))))) else bad
def sExtend (i : Nat) (m : En → M OD) : En → M Fl := fun env => andThen (opt (ownL env i)) fun ds => andThen (m env) fun o => match o with
  | .lst es => if ds.length + es.length ≤ size7 then ret (.nx (env.set i (.own (.lst (ds ++ es))))) else bad
  | _ => bad
def sStore (i : Nat) (mi mv : En → M D) : En → M Fl := fun env => andThen (opt (ownL env i)) fun ds => andThen (mv env) fun d => andThen (mi env) fun x => match x with
  | .int k => match ixN ds.length k with
    | some j => ret (.nx (env.set i (.own (.lst (ds.set j d)))))
    | none => bad
  | _ => bad
/-- x.append(y.pop(e)) -/
def sAppendPop (i j : Nat) (m : En → M D) : En → M Fl := fun env => andThen (opt (ownL env i)) fun ds => andThen (opt (ownL env j)) fun es => andThen (m env) fun x => match x with
  | .int k => match ixN es.length k with
    | some n => match es[n]? with
      | some d => if ds.length < size7 ∧ i ≠ j ∧ es.length ≤ size7 then ret (.nx ((env.set j (.own (.lst (es.eraseIdx n)))).set i (.own (.lst (ds ++ [d]))))) else bad
      | none => bad
    | none => bad
  | _ => bad
theorem RepL.eraseIdx {K : PySem.W.Frag} {I : Hp} {dk : Addr} : ∀ {ds : List D} {vs : List V} (i : Nat), RepL K I dk ds vs → RepL K I dk (ds.eraseIdx i) (vs.eraseIdx i)
  | [], _, i, h => by rw [show _ = [] from h]; rfl
  | d :: ds, _, 0, h => by
    obtain ⟨v, r, rfl, e2, e3⟩ := h
    exact e3
  | d :: ds, _, i + 1, h => by
    obtain ⟨v, r, rfl, e2, e3⟩ := h
    exact ⟨v, _, rfl, e2, RepL.eraseIdx i e3⟩
section
variable {X : Cx} {dk l : Addr} {W : WX} {pos : Pos} {I0 H0 : Hp} {o e : Expr} {apos cpos : Pos} {i : Nat}
theorem p_append {m : En → M D} (ho : PE X o (tVar i)) (he : PE X e (lift X.K dk l W m))
    (hbase : attributeBase o "append" X.env (eval o X.env) = eval o X.env := by rfl)
    (hfew : ((backTo cpos (starEach [e] X.env)).all (fun x => !x.1) && (backToKw cpos (keywordEach [] X.env)).all (fun x => x.1.isSome)
      && decide ([e].length + ([] : List Keyword).length + (if ([] : List Keyword).isEmpty then 0 else 1) < 30)) = true := by rfl)
    (hline : (apos.endLine == cpos.line) = true := by rfl) (hs : starEach [e] X.env = (false, eval e X.env) :: starEach [] X.env := by rfl) (hplain : (backTo cpos (starEach [] X.env)).any (·.1) = false := by rfl)
    (hsw : swapsWith (.Call (.Attribute o "append" apos) [e] [] cpos) none pos.line X.env = pure false := by rfl) :
    PS X (.Expr (.Call (.Attribute o "append" apos) [e] [] cpos) pos) (liftS X.K dk l W I0 H0 (sAppend i m)) := PS_imp (ps_expr (pe_bm PySem.F.plainAttrs_list PySem.F.slot_list_append PySem.F.type_list_append mt_append ho (pa_cons he pa_nil hs) hbase hfew hline hs hplain) hsw) fun D σ H ⟨I, env, s, k, q⟩ => by
  obtain ⟨ds, hd, q⟩ := q.bind.opt
  have hd := ownL_eq hd
  obtain ⟨p, h1, ⟨vs, h2, h3⟩, n1, n2, n3⟩ := k.eok.own i _ hd
  refine ⟨.ref p, h1, .inl ⟨rfl, vs, .of h2⟩, I, env, s, k.eok, k.wo, q.bind.mono (fun d s1 q v I1 H1 x1 w1 r1 => ?_) fun _ _ _ h => k.exq h⟩
  by_cases hz : ds.length < size7
  · simp only [hz, if_true] at q
    have k1 := k.grow x1 w1
    obtain ⟨p', g1, ⟨ws, g2, g3⟩, m1, m2, m3⟩ := k1.eok.own i _ hd
    rw [h1] at g1
    cases g1
    refine ⟨p, ws, v, rfl, rfl, g2, by rw [← g3.length]; exact Nat.lt_of_lt_of_le hz (by decide), ?_⟩
    exact q σ I1 _ x1.grow (k1.put hd h1 m1 m2 m3 ⟨_, upd_same, g3.append (RepL.one r1)⟩)
  · simp only [hz, if_false] at q
    exact q.elim
theorem p_extend {m : En → M OD} (ho : PE X o (tVar i)) (he : PE X e (liftO X.K dk l W m))
    (hbase : attributeBase o "extend" X.env (eval o X.env) = eval o X.env := by rfl)
    (hfew : ((backTo cpos (starEach [e] X.env)).all (fun x => !x.1) && (backToKw cpos (keywordEach [] X.env)).all (fun x => x.1.isSome)
      && decide ([e].length + ([] : List Keyword).length + (if ([] : List Keyword).isEmpty then 0 else 1) < 30)) = true := by rfl)
    (hline : (apos.endLine == cpos.line) = true := by rfl) (hs : starEach [e] X.env = (false, eval e X.env) :: starEach [] X.env := by rfl) (hplain : (backTo cpos (starEach [] X.env)).any (·.1) = false := by rfl)
    (hsw : swapsWith (.Call (.Attribute o "extend" apos) [e] [] cpos) none pos.line X.env = pure false := by rfl) :
    PS X (.Expr (.Call (.Attribute o "extend" apos) [e] [] cpos) pos) (liftS X.K dk l W I0 H0 (sExtend i m)) := PS_imp (ps_expr (pe_bm PySem.F.plainAttrs_list PySem.F.slot_list_extend PySem.F.type_list_extend mt_extend ho (pa_cons he pa_nil hs) hbase hfew hline hs hplain) hsw) fun D σ H ⟨I, env, s, k, q⟩ => by
  obtain ⟨ds, hd, q⟩ := q.bind.opt
  have hd := ownL_eq hd
  obtain ⟨p, h1, ⟨vs, h2, h3⟩, n1, n2, n3⟩ := k.eok.own i _ hd
  refine ⟨.ref p, h1, .inl ⟨rfl, vs, .of h2⟩, I, env, s, k.eok, k.wo, q.bind.mono (fun o s1 q b I1 H1 x1 w1 hb hob b1 b2 b3 => ?_) fun _ _ _ h => k.exq h⟩
  cases o with
  | lst es =>
    by_cases hz : ds.length + es.length ≤ size7
    · simp only [hz, if_true] at q
      have k1 := k.grow x1 w1
      obtain ⟨p', g1, ⟨ws, g2, g3⟩, m1, m2, m3⟩ := k1.eok.own i _ hd
      rw [h1] at g1
      cases g1
      obtain ⟨us, f1, f2⟩ := hob
      refine ⟨p, b, ws, us, rfl, rfl, g2, f1, by rw [← g3.length, ← f2.length]; exact Nat.le_trans hz (by decide), ?_⟩
      exact q σ I1 _ x1.grow (k1.put hd h1 m1 m2 m3 ⟨_, upd_same, g3.append f2⟩)
    · simp only [hz, if_false] at q
      exact q.elim
  | dK _ => exact q.elim
  | dT _ => exact q.elim
theorem p_store {ie : Expr} {spos : Pos} {mi mv : En → M D} (ho : PE X o (tVar i)) (hi : PE X ie (lift X.K dk l W mi)) (he : PE X e (lift X.K dk l W mv))
    (hg : PG X (.Subscript o ie spos) (gSub (tVar i) (lift X.K dk l W mi) rSetL)) (hs : swapsWithSole [.Subscript o ie spos] e pos.line X.env = pure false := by rfl) (hw : swappedStores [.Subscript o ie spos] e X.env = pure none := by rfl)
    (h1 : (assignEach [.Subscript o ie spos] X.env).map (·.2) = [assign (.Subscript o ie spos) X.env] := by rfl) :
    PS X (.Assign [.Subscript o ie spos] e pos) (liftS X.K dk l W I0 H0 (sStore i mi mv)) := PS_imp (ps_asg he hg hs hw h1) fun D σ H ⟨I, env, s, k, q⟩ => by
  obtain ⟨ds, hd, q⟩ := q.bind.opt
  have hd := ownL_eq hd
  refine ⟨I, env, s, k.eok, k.wo, q.bind.mono (fun d s1 q v I1 H1 x1 w1 r1 => ?_) fun _ _ _ h => k.exq h⟩
  have k1 := k.grow x1 w1
  obtain ⟨p, g1, ⟨ws, g2, g3⟩, m1, m2, m3⟩ := k1.eok.own i _ hd
  refine ⟨.ref p, g1, I1, env, s1, k1.eok, w1, q.bind.mono (fun x s2 q u I2 H2 x2 w2 r2 => ?_) fun _ _ _ h => k1.exq h⟩
  have k2 := k1.grow x2 w2
  cases x with
  | int j =>
    simp only at q
    cases hz : ixN ds.length j with
    | none => rw [hz] at q; exact q.elim
    | some n =>
      rw [hz] at q
      obtain ⟨p', g1', ⟨us, f1, f2⟩, c1, c2, c3⟩ := k2.eok.own i _ hd
      rw [g1] at g1'
      cases g1'
      refine ⟨p, us, j, n, rfl, r2, f1, by rw [← f2.length]; exact hz, ?_⟩
      exact q σ I2 _ (x1.grow.trans x2.grow) (k2.put hd g1 c1 c2 c3 ⟨_, upd_same, f2.set n (Rep.mono x2.grow _ _ r1)⟩)
  | _ => exact q.elim
end
end PV

end

section
set_option maxRecDepth 100000
namespace PV
open PySem PySem.Spec PyProof.Rows L2
section
variable {X : Cx} {dk l : Addr} {W : WX} {pos : Pos} {I0 H0 : Hp} {o e : Expr} {apos cpos : Pos} {i : Nat}
/-! ### x.append(y.pop(e)) -/
theorem p_appendPop {o2 : Expr} {j : Nat} {apos2 cpos2 : Pos} {m : En → M D} (ho : PE X o (tVar i)) (ho2 : PE X o2 (tVar j)) (he : PE X e (lift X.K dk l W m))
    (hbase : attributeBase o "append" X.env (eval o X.env) = eval o X.env := by rfl)
    (hfew : ((backTo cpos (starEach [Expr.Call (.Attribute o2 "pop" apos2) [e] [] cpos2] X.env)).all (fun x => !x.1) && (backToKw cpos (keywordEach [] X.env)).all (fun x => x.1.isSome)
      && decide ([Expr.Call (.Attribute o2 "pop" apos2) [e] [] cpos2].length + ([] : List Keyword).length + (if ([] : List Keyword).isEmpty then 0 else 1) < 30)) = true := by rfl)
    (hline : (apos.endLine == cpos.line) = true := by rfl) (hs : starEach [Expr.Call (.Attribute o2 "pop" apos2) [e] [] cpos2] X.env = (false, eval (Expr.Call (.Attribute o2 "pop" apos2) [e] [] cpos2) X.env) :: starEach [] X.env := by rfl) (hplain : (backTo cpos (starEach [] X.env)).any (·.1) = false := by rfl)
    (hbase2 : attributeBase o2 "pop" X.env (eval o2 X.env) = eval o2 X.env := by rfl)
    (hfew2 : ((backTo cpos2 (starEach [e] X.env)).all (fun x => !x.1) && (backToKw cpos2 (keywordEach [] X.env)).all (fun x => x.1.isSome)
      && decide ([e].length + ([] : List Keyword).length + (if ([] : List Keyword).isEmpty then 0 else 1) < 30)) = true := by rfl)
    (hline2 : (apos2.endLine == cpos2.line) = true := by rfl) (hs2 : starEach [e] X.env = (false, eval e X.env) :: starEach [] X.env := by rfl) (hplain2 : (backTo cpos2 (starEach [] X.env)).any (·.1) = false := by rfl)
    (hsw : swapsWith (.Call (.Attribute o "append" apos) [.Call (.Attribute o2 "pop" apos2) [e] [] cpos2] [] cpos) none pos.line X.env = pure false := by rfl) :
    PS X (.Expr (.Call (.Attribute o "append" apos) [.Call (.Attribute o2 "pop" apos2) [e] [] cpos2] [] cpos) pos) (liftS X.K dk l W I0 H0 (sAppendPop i j m)) :=
  PS_imp (ps_expr (pe_bm PySem.F.plainAttrs_list PySem.F.slot_list_append PySem.F.type_list_append mt_append ho (pa_cons (pe_bm PySem.F.plainAttrs_list PySem.F.slot_list_pop PySem.F.type_list_pop mt_popAt ho2 (pa_cons he pa_nil hs2) hbase2 hfew2 hline2 hs2 hplain2) pa_nil hs) hbase hfew hline hs hplain) hsw) fun D σ H ⟨I, env, s, k, q⟩ => by
  obtain ⟨ds, hd, q⟩ := q.bind.opt
  obtain ⟨es, hd2, q⟩ := q.bind.opt
  have hd := ownL_eq hd
  have hd2 := ownL_eq hd2
  obtain ⟨p, h1, ⟨vs, h2, h3⟩, n1, n2, n3⟩ := k.eok.own i _ hd
  obtain ⟨p2, h12, ⟨vs2, h22, h32⟩, n12, n22, n32⟩ := k.eok.own j _ hd2
  refine ⟨.ref p, h1, .inl ⟨rfl, vs, .of h2⟩, .ref p2, h12, .inl ⟨rfl, vs2, .of h22⟩, I, env, s, k.eok, k.wo, q.bind.mono (fun x s1 q v I1 H1 x1 w1 r1 => ?_) fun _ _ _ h => k.exq h⟩
  cases x with
  | int z =>
    simp only at q
    cases hz : ixN es.length z with
    | none => rw [hz] at q; exact q.elim
    | some n =>
      rw [hz] at q
      simp only at q
      cases hg : es[n]? with
      | none => rw [hg] at q; exact q.elim
      | some d =>
        rw [hg] at q
        simp only at q
        by_cases hc : ds.length < size7 ∧ i ≠ j ∧ es.length ≤ size7
        · rw [if_pos hc] at q
          have k1 := k.grow x1 w1
          obtain ⟨p', g1, ⟨ws, g2, g3⟩, m1, m2, m3⟩ := k1.eok.own i _ hd
          rw [h1] at g1
          cases g1
          obtain ⟨p2', g12, ⟨ws2, g22, g32⟩, m12, m22, m32⟩ := k1.eok.own j _ hd2
          rw [h12] at g12
          cases g12
          obtain ⟨y, hy, ry⟩ := g32.get hg
          obtain ⟨b1, b2, b3, b4⟩ := ixN_seq (n := es.length) hz
          have hzl : ws2.length = es.length := g32.length.symm
          have k2 := k1.put (w := .lst (ws2.eraseIdx n)) hd2 h12 m12 m22 m32 (u := .lst (es.eraseIdx n)) ⟨_, upd_same, g32.eraseIdx n⟩
          have hd' : (env.set j (.own (.lst (es.eraseIdx n))))[i]? = some (.own (.lst ds)) := by rw [List.getElem?_set_ne (Ne.symm hc.2.1)]; exact hd
          obtain ⟨p', g1', ⟨ws', g2', g3'⟩, m1', m2', m3'⟩ := k2.eok.own i _ hd'
          rw [h1] at g1'
          cases g1'
          have hpp : p ≠ p2 := fun z => by
            subst z
            exact hc.2.1 (k.eok.sep i j _ _ p hd hd2 h1 h12)
          have gp : upd H1 p2 (.lst (ws2.eraseIdx n)) p = some (.lst ws) := by rw [upd_ne hpp]; exact g2
          have e5 : ws = ws' := by
            rw [gp] at g2'
            cases g2'
            rfl
          subst e5
          refine ⟨p2, ws2, z, n, y, rfl, by rw [show v = _ from r1], g22, ?_, ?_, ?_, hy, ?_⟩
          · have : size7 = 10000000 := rfl
            omega
          · have : size7 = 10000000 := rfl
            omega
          · rw [hzl]; exact b1
          · refine ⟨p, ws, y, rfl, rfl, gp, by rw [← g3.length]; exact Nat.lt_of_lt_of_le hc.1 (by decide), ?_⟩
            exact q σ I1 _ x1.grow (k2.put hd' h1 m1' m2' m3' ⟨_, upd_same, g3'.append (RepL.one ry)⟩)
        · rw [if_neg hc] at q; exact q.elim
  | _ => exact q.elim

/-! ### a, b = e1, e2: values and objects of one's own -/
inductive It2 where
  | val (d : PV.D) | own (o : OD)
def Rep2 (K : PySem.W.Frag) (dk l : Addr) (I H : Hp) : List It2 → List V → Prop
  | [], vs => vs = []
  | .val d :: r, vs => ∃ v ws, vs = v :: ws ∧ Rep K I dk d v ∧ Rep2 K dk l I H r ws
  | .own o :: r, vs => ∃ p ws, vs = .ref p :: ws ∧ OwnAt K I H dk p o ∧ p ≠ dk ∧ p ≠ l ∧ I p = none ∧ V.ref p ∉ ws ∧ Rep2 K dk l I H r ws
def New2 (H : Hp) : List It2 → List V → Prop
  | .own _ :: r, .ref p :: ws => H p = none ∧ New2 H r ws
  | .val _ :: r, _ :: ws => New2 H r ws
  | _, _ => True
def lift2 (K : PySem.W.Frag) (dk l : Addr) (W : WX) (m : En → M (List It2)) : TA := fun σ H Q => ∃ I env s, EnvOk K dk l I H env σ ∧ Wo dk l I H s ∧ Post (m env s) (fun xs s' => ∀ vs I' H', Ext dk l I H I' H' → Wo dk l I' H' s' → Rep2 K dk l I' H' xs vs → New2 H xs vs → Q vs H') (exQ K dk l W I H σ)
def e2nil : En → M (List It2) := fun _ => ret []
def e2val (m : En → M PV.D) (r : En → M (List It2)) : En → M (List It2) := fun env => andThen (m env) fun d => andThen (r env) fun xs => ret (.val d :: xs)
def e2own (m : En → M OD) (r : En → M (List It2)) : En → M (List It2) := fun env => andThen (m env) fun o => andThen (r env) fun xs => ret (.own o :: xs)
theorem r_2nil : PA X [] (lift2 X.K dk l W e2nil) := PA_imp pa_nil fun σ H Q ⟨I, env, s, e, w, q⟩ => q [] I H Ext.refl w rfl trivial
theorem New2.back {I H I1 H1 : Hp} (x : Ext dk l I H I1 H1) {K : PySem.W.Frag} {I2 H2 : Hp} : ∀ {xs : List It2} {vs : List V}, Rep2 K dk l I2 H2 xs vs → New2 H1 xs vs → New2 H xs vs
  | [], vs, _, _ => by cases vs <;> trivial
  | .val d :: r, _, ⟨v, ws, rfl, _, h2⟩, n => by
    show New2 H r ws
    exact New2.back x h2 (show New2 H1 r ws from n)
  | .own o :: r, _, ⟨p, ws, rfl, h1, n1, n2, h3, h4, h5⟩, n => by
    refine ⟨?_, New2.back x h5 n.2⟩
    cases z : H p with
    | none => rfl
    | some u => have := x.keep p u z n1 n2; rw [n.1] at this; cases this
theorem r_2val {a : Expr} {es : List Expr} {m : En → M PV.D} {r : En → M (List It2)} (h : PE X a (lift X.K dk l W m)) (h2 : PA X es (lift2 X.K dk l W r)) (hs : starEach (a :: es) X.env = (false, eval a X.env) :: starEach es X.env := by rfl) : PA X (a :: es) (lift2 X.K dk l W (e2val m r)) := PA_imp (pa_cons h h2 hs) fun σ H Q ⟨I, env, s, e, w, q⟩ => by
  refine ⟨I, env, s, e, w, q.bind.mono (fun d s1 q v I1 H1 x1 w1 r1 => ?_) fun _ _ _ h => h⟩
  refine ⟨I1, env, s1, e.ext x1, w1, q.bind.mono (fun ds s2 q vs I2 H2 x2 w2 r2 n2 => ?_) fun _ _ _ h => h.shift x1⟩
  exact q (v :: vs) I2 H2 (x1.trans x2 w2) w2 ⟨v, vs, rfl, Rep.mono x2.grow d v r1, r2⟩ (show New2 H ds vs from New2.back x1 r2 n2)
theorem New2.mem {K : PySem.W.Frag} {H1 I2 H2 : Hp} : ∀ {xs : List It2} {vs : List V} {p : Addr} {u : HO}, Rep2 K dk l I2 H2 xs vs → New2 H1 xs vs → H1 p = some u → I2 p = none → p ≠ dk → V.ref p ∉ vs
  | [], _, p, u, h, _, _, _, _, z => by rw [show _ = [] from h] at z; cases z
  | .val d :: r, _, p, u, ⟨v, ws, e, h1, h2⟩, n, hu, hi, hk, z => by
    subst e
    rcases List.mem_cons.mp z with z | z
    · subst z
      cases d with
      | tup ds => obtain ⟨a, vs, e1, e2, _⟩ := h1; cases e1; rw [hi] at e2; cases e2
      | lst ds => obtain ⟨a, vs, e1, e2, _⟩ := h1; cases e1; rw [hi] at e2; cases e2
      | dK ds => obtain ⟨a, vs, e1, e2, _⟩ := h1; cases e1; rw [hi] at e2; cases e2
      | dT ds => obtain ⟨a, vs, e1, e2, _⟩ := h1; cases e1; rw [hi] at e2; cases e2
      | deck => exact hk (by injection h1)
      | exc c d => exact h1
      | _ => cases h1
    · exact New2.mem h2 n hu hi hk z
  | .own o :: r, _, p, u, ⟨q, ws, e, h1, n1, n2, h3, h4, h5⟩, n, hu, hi, hk, z => by
    subst e
    rcases List.mem_cons.mp z with z | z
    · cases z
      rw [n.1] at hu; cases hu
    · exact New2.mem h5 n.2 hu hi hk z
theorem r_2own {a : Expr} {es : List Expr} {m : En → M OD} {r : En → M (List It2)} (h : PE X a (liftO X.K dk l W m)) (h2 : PA X es (lift2 X.K dk l W r)) (hs : starEach (a :: es) X.env = (false, eval a X.env) :: starEach es X.env := by rfl) : PA X (a :: es) (lift2 X.K dk l W (e2own m r)) := PA_imp (pa_cons h h2 hs) fun σ H Q ⟨I, env, s, e, w, q⟩ => by
  refine ⟨I, env, s, e, w, q.bind.mono (fun o s1 q p I1 H1 x1 w1 hp ho b1 b2 b3 => ?_) fun _ _ _ h => h⟩
  refine ⟨I1, env, s1, e.ext x1, w1, q.bind.mono (fun ds s2 q vs I2 H2 x2 w2 r2 n2 => ?_) fun _ _ _ h => h.shift x1⟩
  obtain ⟨u, hu⟩ := ho.ho
  have hi2 : I2 p = none := by
    cases z : I2 p with
    | none => rfl
    | some y => exact (ho.noT (x2.fresh p y z b3)).elim
  exact q (.ref p :: vs) I2 H2 (x1.trans x2 w2) w2 ⟨p, vs, rfl, ho.move x2.grow fun w z => x2.keep p w z b1 b2, b1, b2, hi2, New2.mem r2 n2 hu hi2 b1, r2⟩ ⟨hp, New2.back x1 r2 n2⟩
/-- the names take what is told -/
def bind2 : List Nat → List It2 → En → Option En
  | [], [], env => some env
  | i :: is, .val d :: r, env => bind2 is r (env.set i (.val d))
  | i :: is, .own o :: r, env => bind2 is r (env.set i (.own o))
  | _, _, _ => none
def gNms (K : PySem.W.Frag) : List Nat → TGs
  | [] => gNil
  | i :: is => gCons (gName i) (gNms K is)
def sAsg2 (is : List Nat) (m : En → M (List It2)) : En → M Fl := fun env => andThen (m env) fun xs => if xs.length ≤ 1000 then andThen (opt (bind2 is xs env)) fun e => ret (.nx e) else bad
theorem bind2_len : ∀ {is : List Nat} {xs : List It2} {env env' : En}, bind2 is xs env = some env' → is.length = xs.length
  | [], [], _, _, _ => rfl
  | i :: is, .val d :: r, _, _, h => by simp only [bind2] at h; simp [bind2_len h]
  | i :: is, .own d :: r, _, _, h => by simp only [bind2] at h; simp [bind2_len h]
  | [], _ :: _, _, _, h => by simp [bind2] at h
  | _ :: _, [], _, _, h => by simp [bind2] at h
theorem Rep2.len {K : PySem.W.Frag} {I H : Hp} : ∀ {xs : List It2} {vs : List V}, Rep2 K dk l I H xs vs → xs.length = vs.length
  | [], _, h => by rw [show _ = [] from h]; rfl
  | .val d :: r, _, ⟨v, ws, e, h1, h2⟩ => by subst e; simp [Rep2.len h2]
  | .own d :: r, _, ⟨p, ws, e, _, _, _, _, _, h2⟩ => by subst e; simp [Rep2.len h2]
theorem Rep2.off {K : PySem.W.Frag} {I H : Hp} {T : Addr} {u : HO} (hT : H T = none) : ∀ {xs : List It2} {vs : List V}, Rep2 K dk l I H xs vs → Rep2 K dk l I (upd H T u) xs vs
  | [], _, h => h
  | .val d :: r, _, ⟨v, ws, e, h1, h2⟩ => ⟨v, ws, e, h1, Rep2.off hT h2⟩
  | .own o :: r, _, ⟨p, ws, e, h1, n1, n2, n3, n4, h2⟩ => ⟨p, ws, e, h1.move (Sm.refl I) fun w z => by rw [upd_ne (ne_of_none z hT)]; exact z, n1, n2, n3, n4, Rep2.off hT h2⟩
theorem bind2_ok {I H : Hp} {s : Dk} : ∀ (is : List Nat) (xs : List It2) (vs : List V) (env env' : En) (σ : L2.St) (Q : L2.St → Hp → Prop), SOk X.K dk l I0 H0 I H env σ s → Rep2 X.K dk l I H xs vs → New2 H0 xs vs → bind2 is xs env = some env' →
    (∀ p, V.ref p ∈ vs → I p = none → ∀ (j : Nat) (u : OD), env[j]? = some (.own u) → σ[j]? ≠ some (some (.ref p))) → (∀ σ', SOk X.K dk l I0 H0 I H env' σ' s → Q σ' H) → gNms X.K is vs σ H Q
  | [], xs, vs, env, env', σ, Q, k, r, n, b, ap, q => by
    cases xs with
    | nil =>
      simp only [bind2] at b
      cases b
      exact ⟨r, q σ k⟩
    | cons _ _ => simp [bind2] at b
  | i :: is, [], vs, env, env', σ, Q, k, r, n, b, ap, q => by simp [bind2] at b
  | i :: is, .val d :: xs, _, env, env', σ, Q, k, ⟨v, ws, e, h1, h2⟩, n, b, ap, q => by
    subst e
    simp only [bind2] at b
    refine ⟨v, ws, rfl, ?_⟩
    have c := Chg.one (i := i) (d := d) (v := v) k.eok.len
    refine bind2_ok is xs ws _ env' _ Q (k.chg (k.eok.set h1) c) h2 n b (fun p hp hi j u h3 => ?_) q
    obtain ⟨h4, h5⟩ := c.own j u h3
    rw [c.out j h5]
    exact ap p (List.mem_cons_of_mem _ hp) hi j u h4
  | i :: is, .own o :: xs, _, env, env', σ, Q, k, ⟨p, ws, e, h1, n1, n2, n3, n4, h2⟩, n, b, ap, q => by
    subst e
    simp only [bind2] at b
    refine ⟨.ref p, ws, rfl, ?_⟩
    have ke := k.eok.setOwn (i := i) h1 n1 n2 n3 (fun _ _ _ h => h) fun j u _ h => ap p List.mem_cons_self n3 j u h
    refine bind2_ok is xs ws _ env' _ Q ⟨ke, k.wo, k.ext, fun j u q' h3 h4 => ?_⟩ h2 n.2 b (fun p' hp hi j u h3 => ?_) q
    · by_cases hj : i = j
      · subst hj
        by_cases hl : i < σ.length
        · rw [List.getElem?_set_self hl] at h4
          injection h4 with z
          injection z with z
          injection z with z
          subst z
          exact n.1
        · rw [List.getElem?_eq_none (by rw [List.length_set]; omega)] at h4; cases h4
      · rw [List.getElem?_set_ne hj] at h3 h4
        exact k.new j u q' h3 h4
    · by_cases hj : i = j
      · subst hj
        intro h4
        by_cases hl : i < σ.length
        · rw [List.getElem?_set_self hl] at h4
          injection h4 with z
          injection z with z
          injection z with z
          subst z
          exact n4 hp
        · rw [List.getElem?_eq_none (by rw [List.length_set]; omega)] at h4; cases h4
      · rw [List.getElem?_set_ne hj] at h3 ⊢
        exact ap p' (List.mem_cons_of_mem _ hp) hi j u h3
theorem New2.ap {I H I1 H1 : Hp} {env : En} {σ : L2.St} (k : EnvOk X.K dk l I H env σ) : ∀ {xs : List It2} {vs : List V}, Rep2 X.K dk l I1 H1 xs vs → New2 H xs vs → ∀ p, V.ref p ∈ vs → I1 p = none → p ≠ dk → ∀ (j : Nat) (u : OD), env[j]? = some (.own u) → σ[j]? ≠ some (some (.ref p)) := fun r n p hp hi hk j u h z => by
  obtain ⟨p', h1, h2, _⟩ := k.own j u h
  rw [z] at h1
  cases h1
  obtain ⟨w, hw⟩ := h2.ho
  exact New2.mem r n hw hi hk hp
theorem New2.old {H H0 : Hp} {I : Hp} {K : PySem.W.Frag} {I1 H1 : Hp} (x : Ext dk l I H0 I1 H) {I2 H2 : Hp} {xs : List It2} {vs : List V} (r : Rep2 K dk l I2 H2 xs vs) (n : New2 H xs vs) : New2 H0 xs vs := New2.back x r n
/-- names = (e1, ..) -/
theorem p_asg2 {ts es : List Expr} {x1 x2 : Nat} {pt pv : Pos} {is : List Nat} {m : En → M (List It2)} (h : PA X es (lift2 X.K dk l W m)) (hg : PG X (.Tuple ts x1 pt) (gTup X.K is.length (gNms X.K is))) (hs : swapsWithSole [.Tuple ts x1 pt] (.Tuple es x2 pv) pos.line X.env = pure false := by rfl) (hw : swappedStores [.Tuple ts x1 pt] (.Tuple es x2 pv) X.env = pure none := by rfl)
    (h1 : (assignEach [.Tuple ts x1 pt] X.env).map (·.2) = [assign (.Tuple ts x1 pt) X.env] := by rfl) : PS X (.Assign [.Tuple ts x1 pt] (.Tuple es x2 pv) pos) (liftS X.K dk l W I0 H0 (sAsg2 is m)) := PS_imp (ps_asg (pe_tup h) hg hs hw h1) fun D σ H ⟨I, env, s, k, q⟩ => by
  refine ⟨I, env, s, k.eok, k.wo, q.bind.mono (fun xs s1 q vs I1 H1 x1 w1 r1 nw => ?_) fun _ _ _ h => k.exq h⟩
  by_cases hl : xs.length ≤ 1000
  · simp only [hl, if_true] at q
    obtain ⟨e2, e3, q⟩ := q.bind.opt
    refine ⟨by rw [← r1.len]; exact Nat.le_trans hl (by decide), fun T hT => ?_⟩
    have t1 : T ≠ dk := (ne_of_none w1.dko hT).symm
    have t2 : T ≠ l := (ne_of_none w1.lft hT).symm
    have t3 : I1 T = none := w1.sub.none hT
    have xT := Ext.off (o := .tup vs) w1 hT
    have wT := w1.off (o := .tup vs) t3 t1 t2
    have kT := (k.grow x1 w1).grow xT wT
    refine ⟨T, vs, rfl, SqT.of upd_same, by rw [← r1.len]; exact (bind2_len e3).symm, ?_⟩
    refine bind2_ok is xs vs env e2 σ _ kT (Rep2.off hT r1) (New2.back k.ext r1 nw) e3 (fun p hp hi j u h => ?_) fun σ' k' => q σ' I1 _ x1.grow k'
    by_cases hk : p = dk
    · intro z
      obtain ⟨p', g1, g2, g3, _⟩ := k.eok.own j u h
      rw [z] at g1
      cases g1
      exact g3 hk
    · exact New2.ap k.eok r1 nw p hp hi hk j u h
  · simp only [hl, if_false] at q
    exact q.elim
end
end PV

end

section
set_option maxRecDepth 100000
namespace PV
open PySem PySem.Spec PyProof.Rows L2
section
variable {X : Cx} {dk l : Addr} {W : WX} {pos : Pos} {I0 H0 : Hp}
/-! ### while -/
theorem p_while {c : Expr} {body : List Stmt} {t : En → M Bool} {b : En → M Fl} (n : Nat) (hp : PassesOwn (model X.prog X.w) X.A X.env X.xe) (hc : PT X c (liftT X.K dk l W t)) (hb : PSs X body (liftS X.K dk l W I0 H0 b)) : PS X (.While c body [] pos) (liftS X.K dk l W I0 H0 (sWhile n t b)) := PS_imp (ps_while hp hc hb) fun D σ H ⟨I, env, s, k, q⟩ => by
  refine ⟨fun m σ H => ∃ I' env s, SOk X.K dk l I0 H0 I' H env σ s ∧ Sm I I' ∧ Post (whileM t b m env s) (flP X.K dk l I0 H0 I' D) (exS X.K dk l W I0 H0), ⟨n, I, env, s, k, Sm.refl I, q⟩, ?_⟩
  rintro m σ2 H2 ⟨I2, env2, s2, k2, g2, q2⟩
  cases m with
  | zero => exact q2.elim
  | succ m =>
    refine ⟨I2, env2, s2, k2.eok, k2.wo, q2.bind.mono (fun c s3 q3 I3 H3 x3 w3 => ?_) fun _ _ _ h => k2.exq h⟩
    cases c with
    | true =>
      rw [if_pos rfl]
      refine ⟨fun σ' H' => ∃ I' env s, SOk X.K dk l I0 H0 I' H' env σ' s ∧ Sm I I' ∧ Post (whileM t b m env s) (flP X.K dk l I0 H0 I' D) (exS X.K dk l W I0 H0), fun σ' H' h => ⟨m, Nat.lt_succ_self m, h⟩, I3, env2, s3, k2.grow x3 w3, ?_⟩
      refine (show Post (andThen (b env2) _ s3) _ _ from q3).bind.mono (fun f s4 q4 => ?_) fun _ _ _ h => h
      cases f with
      | nx e => exact fun σ' I' H' g' k' => ⟨I', e, s4, k', (g2.trans x3.grow).trans g', q4.mono (fun _ _ h => h.shift (x3.grow.trans g')) fun _ _ _ h => h⟩
      | ct e => exact fun σ' I' H' g' k' => ⟨I', e, s4, k', (g2.trans x3.grow).trans g', q4.mono (fun _ _ h => h.shift (x3.grow.trans g')) fun _ _ _ h => h⟩
      | bk e => exact fun σ' I' H' g' k' => q4 σ' I' H' (x3.grow.trans g') k'
      | rt d => exact q4
    | false =>
      rw [if_neg Bool.false_ne_true]
      exact (show Post (ret (Fl.nx env2) s3) _ _ from q3) σ2 I3 H3 x3.grow (k2.grow x3 w3)
/-! ### what is one's own, lent -/
def tBor (is : List Nat) (t : En → M Bool) : En → M Bool := fun env => noX (t (frzAll is env))
def flatD : PV.D → Bool
  | .non => true
  | .bl _ => true
  | .int _ => true
  | .str _ => true
  | _ => false
def eBor (is : List Nat) (m : En → M PV.D) : En → M PV.D := fun env => andThen (noX (m (frzAll is env))) fun d => if flatD d = true then ret d else bad
theorem lend {I H : Hp} {env : En} {σ : L2.St} {s : Dk} (is : List Nat) (e : EnvOk X.K dk l I H env σ) (w : Wo dk l I H s) : ∃ I1, EnvOk X.K dk l I1 H (frzAll is env) σ ∧ Wo dk l I1 H s ∧ Sm I I1 := by
  have k : SOk X.K dk l (fun _ => none) (fun _ => none) I H env σ s := ⟨e, w, ⟨fun _ _ h => (by cases h), fun _ _ h => (by cases h), fun _ _ _ _ => .inl rfl⟩, fun _ _ _ _ _ => rfl⟩
  obtain ⟨I1, k1, g⟩ := frzAll_ok is k
  exact ⟨I1, k1.eok, k1.wo, g⟩
theorem lend_back {I I1 H I2 H2 : Hp} {s s2 : Dk} (w : Wo dk l I H s) (x : Ext dk l I1 H I2 H2) (w2 : Wo dk l I2 H2 s2) : Ext dk l I H I H2 ∧ Wo dk l I H2 s2 :=
  ⟨⟨Sm.refl I, x.keep, fun a o h n => by rw [h] at n; cases n⟩, ⟨fun a o h => x.keep a o (w.sub a o h) (fun z => by rw [z, w.idk] at h; cases h) (fun z => by rw [z, w.il] at h; cases h), w2.dko, w2.lft, w.idk, w.il⟩⟩
theorem r_tbor {c : Expr} {t : En → M Bool} (is : List Nat) (h : PT X c (liftT X.K dk l W t)) : PT X c (liftT X.K dk l W (tBor is t)) := PT_imp h fun σ H Q ⟨I, env, s, e, w, q⟩ => by
  obtain ⟨I1, e1, w1, g⟩ := lend is e w
  refine ⟨I1, _, s, e1, w1, noX_post (Post.mono (show Post (noX (t (frzAll is env)) s) _ _ from q) (fun b s2 q I2 H2 x2 w2 => ?_) fun _ _ _ h => h)⟩
  obtain ⟨x3, w3⟩ := lend_back w x2 w2
  exact q I H2 x3 w3
theorem r_ebor {c : Expr} {m : En → M PV.D} (is : List Nat) (h : PE X c (lift X.K dk l W m)) : PE X c (lift X.K dk l W (eBor is m)) := PE_imp h fun σ H Q ⟨I, env, s, e, w, q⟩ => by
  obtain ⟨I1, e1, w1, g⟩ := lend is e w
  refine ⟨I1, _, s, e1, w1, noX_post (q.bind.mono (fun d s2 q v I2 H2 x2 w2 r => ?_) fun _ _ _ h => h)⟩
  obtain ⟨x3, w3⟩ := lend_back w x2 w2
  by_cases hf : flatD d = true
  · rw [if_pos hf] at q
    refine q v I H2 x3 w3 ?_
    cases d <;> first | exact r | cases hf
  · rw [if_neg hf] at q; exact q.elim
def eOwnLen (i : Nat) : En → M PV.D := fun env => andThen (opt (ownL env i)) fun ds => ret (.int ds.length)
theorem r_ownLen {x y : Str} {p p2 : Pos} (i : Nat) (hg : Gl X "len") (hm : X.mg "len" = none) (h : PE X (.Name y p2) (tVar i)) (he : starEach [.Name y p2] X.env = (false, eval (.Name y p2) X.env) :: starEach [] X.env := by rfl) (hpl : (backTo pos (starEach [] X.env)).any (·.1) = false := by rfl) :
    PE X (.Call (.Name "len" p) [.Name y p2] [] pos) (lift X.K dk l W (eOwnLen i)) := PE_imp (pe_callB call_len_seq hg hm PySem.boot_len (pa_cons h pa_nil he) (by decide) (by decide) he hpl) fun σ H Q ⟨I, env, s, e, w, q⟩ => by
  obtain ⟨ds, hd, q⟩ := q.bind.opt
  have hd := ownL_eq hd
  obtain ⟨p, h1, ⟨vs, h2, h3⟩, _⟩ := e.own i _ hd
  exact ⟨_, h1, p, vs, rfl, .inl (.of h2), by rw [← h3.length]; exact q _ I H Ext.refl w rfl⟩
/-! ### and, or, not as values; chains -/
def eAndV (a b : En → M PV.D) : En → M PV.D := fun env => andThen (a env) fun x => match x with
  | .bl true => b env
  | .bl false => ret (.bl false)
  | _ => bad
def eOrV (a b : En → M PV.D) : En → M PV.D := fun env => andThen (a env) fun x => match x with
  | .bl true => ret (.bl true)
  | .bl false => b env
  | _ => bad
def eNotV (a : En → M PV.D) : En → M PV.D := fun env => andThen (a env) fun x => match x with
  | .bl b => ret (.bl (!b))
  | _ => bad
theorem r_one {op} {a : Expr} {m : En → M PV.D} (h : PE X a (lift X.K dk l W m)) : PE X (.BoolOp op [a] pos) (lift X.K dk l W m) := pe_one h
theorem r_andV {a b : Expr} {rest : List Expr} {m n : En → M PV.D} (h : PE X a (lift X.K dk l W m)) (h2 : PE X (.BoolOp .And (b :: rest) pos) (lift X.K dk l W n)) : PE X (.BoolOp .And (a :: b :: rest) pos) (lift X.K dk l W (eAndV m n)) := PE_imp (pe_and h h2) fun σ H Q ⟨I, env, s, e, w, q⟩ => by
  refine ⟨I, env, s, e, w, q.bind.mono (fun x s1 q v I1 H1 x1 w1 r1 => ?_) fun _ _ _ h => h⟩
  cases x with
  | bl c =>
    refine ⟨c, r1, ?_⟩
    cases c with
    | true =>
      rw [if_pos rfl]
      exact ⟨I1, env, s1, e.ext x1, w1, (show Post (n env s1) _ _ from q).mono (fun b s2 q v I2 H2 x2 w2 => q v I2 H2 (x1.trans x2 w2) w2) fun _ _ _ h => h.shift x1⟩
    | false =>
      rw [if_neg Bool.false_ne_true]
      exact (show Post (ret _ s1) _ _ from q) _ I1 H1 x1 w1 rfl
  | _ => exact q.elim
theorem r_orV {a b : Expr} {rest : List Expr} {m n : En → M PV.D} (h : PE X a (lift X.K dk l W m)) (h2 : PE X (.BoolOp .Or (b :: rest) pos) (lift X.K dk l W n)) : PE X (.BoolOp .Or (a :: b :: rest) pos) (lift X.K dk l W (eOrV m n)) := PE_imp (pe_or h h2) fun σ H Q ⟨I, env, s, e, w, q⟩ => by
  refine ⟨I, env, s, e, w, q.bind.mono (fun x s1 q v I1 H1 x1 w1 r1 => ?_) fun _ _ _ h => h⟩
  cases x with
  | bl c =>
    refine ⟨c, r1, ?_⟩
    cases c with
    | false =>
      rw [if_neg Bool.false_ne_true]
      exact ⟨I1, env, s1, e.ext x1, w1, (show Post (n env s1) _ _ from q).mono (fun b s2 q v I2 H2 x2 w2 => q v I2 H2 (x1.trans x2 w2) w2) fun _ _ _ h => h.shift x1⟩
    | true =>
      rw [if_pos rfl]
      exact (show Post (ret _ s1) _ _ from q) _ I1 H1 x1 w1 rfl
  | _ => exact q.elim
theorem r_notV {a : Expr} {m : En → M PV.D} (h : PE X a (lift X.K dk l W m)) : PE X (.UnaryOp .Not a pos) (lift X.K dk l W (eNotV m)) := PE_imp (pe_not h) fun σ H Q ⟨I, env, s, e, w, q⟩ => by
  refine ⟨I, env, s, e, w, q.bind.mono (fun x s1 q v I1 H1 x1 w1 r1 => ?_) fun _ _ _ h => h⟩
  cases x with
  | bl c => exact ⟨c, r1, (show Post (ret _ s1) _ _ from q) _ I1 H1 x1 w1 rfl⟩
  | _ => exact q.elim
def eChain (g g' : PV.D → PV.D → Option PV.D) (a b c : En → M PV.D) : En → M PV.D := fun env => andThen (a env) fun x => andThen (b env) fun y => andThen (opt (g x y)) fun z => match z with
  | .bl true => andThen (c env) fun w => opt (g' y w)
  | .bl false => ret (.bl false)
  | _ => bad
theorem chain_lift {ma mb mc : En → M PV.D} {g g' : PV.D → PV.D → Option PV.D} {r r' : R2} (hr : ∀ I H s x y v u d Q, Wo dk l I H s → Rep X.K I dk x v → Rep X.K I dk y u → g x y = some d → (∀ w I' H', Ext dk l I H I' H' → Wo dk l I' H' s → Rep X.K I' dk d w → Q w H') → r v u H Q)
    (hr' : ∀ I H s x y v u d Q, Wo dk l I H s → Rep X.K I dk x v → Rep X.K I dk y u → g' x y = some d → (∀ w I' H', Ext dk l I H I' H' → Wo dk l I' H' s → Rep X.K I' dk d w → Q w H') → r' v u H Q)
    (σ : L2.St) (H : Hp) (Q : VK) (h : lift X.K dk l W (eChain g g' ma mb mc) σ H Q) : tChain r r' (lift X.K dk l W ma) (lift X.K dk l W mb) (lift X.K dk l W mc) σ H Q := by
  obtain ⟨I, env, s, e, w, q⟩ := h
  refine ⟨I, env, s, e, w, q.bind.mono (fun x s1 q v I1 H1 x1 w1 r1 => ?_) fun _ _ _ h => h⟩
  refine ⟨I1, env, s1, e.ext x1, w1, q.bind.mono (fun y s2 q u I2 H2 x2 w2 r2 => ?_) fun _ _ _ h => h.shift x1⟩
  obtain ⟨z, e3, q⟩ := q.bind.opt
  have x12 := x1.trans x2 w2
  refine hr I2 H2 s2 x y v u z _ w2 (Rep.mono x2.grow x v r1) r2 e3 fun t I3 H3 x3 w3 r3 => ?_
  cases z with
  | bl c =>
    refine ⟨c, r3, ?_⟩
    cases c with
    | true =>
      rw [if_pos rfl]
      refine ⟨I3, env, s2, (e.ext x12).ext x3, w3, (show Post (andThen (mc env) _ s2) _ _ from q).bind.mono (fun w' s4 q v' I4 H4 x4 w4 r4 => ?_) fun _ _ _ h => h.shift (x12.trans x3 w3)⟩
      obtain ⟨d, e5, q⟩ := q.opt
      exact hr' I4 H4 s4 y w' u v' d Q w4 (Rep.mono (x3.grow.trans x4.grow) y u r2) r4 e5 fun z I5 H5 x5 w5 r5 => q z I5 H5 (((x12.trans x3 w3).trans x4 w4).trans x5 w5) w5 r5
    | false =>
      rw [if_neg Bool.false_ne_true]
      exact (show Post (ret _ s2) _ _ from q) _ I3 H3 (x12.trans x3 w3) w3 rfl
  | _ => exact q.elim
theorem r_chain {a b c : Expr} {op op' : CmpOp} {ma mb mc : En → M PV.D} {g g' : PV.D → PV.D → Option PV.D} (o : OpD X dk l (compareOp op) g) (o' : OpD X dk l (compareOp op') g') (ha : PE X a (lift X.K dk l W ma)) (hb : PE X b (lift X.K dk l W mb)) (hc : PE X c (lift X.K dk l W mc))
    (hm : lastMarks [op, op'] [b, c] = false := by with_unfolding_all rfl) : PE X (.Compare a [op, op'] [b, c] pos) (lift X.K dk l W (eChain g g' ma mb mc)) := by
  obtain ⟨r, ho, hr⟩ := o
  obtain ⟨r', ho', hr'⟩ := o'
  exact PE_imp (pe_chain ho ho' ha hb hc hm) (chain_lift hr hr')
theorem r_tchain {a b c : Expr} {op op' : CmpOp} {ma mb mc : En → M PV.D} {g g' : PV.D → PV.D → Option PV.D} (o : OpD X dk l (compareOp op) g) (o' : OpD X dk l (compareOp op') g') (ha : PE X a (lift X.K dk l W ma)) (hb : PE X b (lift X.K dk l W mb)) (hc : PE X c (lift X.K dk l W mc))
    (hm : lastMarks [op, op'] [b, c] = false := by with_unfolding_all rfl) : PT X (.Compare a [op, op'] [b, c] pos) (liftT X.K dk l W (tVal (eChain g g' ma mb mc))) := by
  obtain ⟨r, ho, hr⟩ := o
  obtain ⟨r', ho', hr'⟩ := o'
  refine PT_imp (pt_chain ho ho' ha hb hc hm) fun σ H Q ⟨I, env, s, e, w, q⟩ => ?_
  refine chain_lift (W := W) (ma := ma) (mb := mb) (mc := mc) hr hr' σ H (fun x H1 => ∃ k, x = .bl k ∧ Q k H1) ⟨I, env, s, e, w, q.bind.mono (fun x s1 q v I1 H1 x1 w1 r1 => ?_) fun _ _ _ h => h⟩
  obtain ⟨b, e2, q⟩ := q.opt
  cases x with
  | bl c =>
    have e3 : c = b := Option.some.inj e2
    subst e3
    exact ⟨c, r1, q I1 H1 x1 w1⟩
  | _ => cases e2
/-! ### isinstance -/
inductive Ty where
  | int | bool | str | tuple | list | dict
def Ty.nm : Ty → String
  | .int => "int"
  | .bool => "bool"
  | .str => "str"
  | .tuple => "tuple"
  | .list => "list"
  | .dict => "dict"
def isT : Ty → PV.D → Option PV.D
  | _, .deck => none
  | _, .exc _ _ => none
  | .int, .int _ => some (.bl true)
  | .int, .bl _ => some (.bl true)
  | .bool, .bl _ => some (.bl true)
  | .str, .str _ => some (.bl true)
  | .tuple, .tup _ => some (.bl true)
  | .list, .lst _ => some (.bl true)
  | .dict, .dK _ => some (.bl true)
  | .dict, .dT _ => some (.bl true)
  | _, _ => some (.bl false)
theorem r_isi {a : Expr} {x : Str} {p p2 : Pos} {m : En → M PV.D} (T : Ty) (hg : Gl X "isinstance") (hm : X.mg "isinstance" = none) (hgT : Gl X x) (hmT : X.mg x = none) (hv : bootBuiltins x = some (.type T.nm)) (ha : PE X a (lift X.K dk l W m)) (hb : bootBuiltins "isinstance" = some (.builtin "isinstance"))
    (hn : x ≠ "__name__" := by decide) (hd : (x == ("__debug__" : Str)) = false := by decide) (he : starEach [a, .Name x p2] X.env = (false, eval a X.env) :: starEach [.Name x p2] X.env := by rfl) (he2 : starEach [.Name x p2] X.env = (false, eval (.Name x p2) X.env) :: starEach [] X.env := by rfl) (hpl : (backTo pos (starEach [.Name x p2] X.env)).any (·.1) = false := by rfl) :
    PE X (.Call (.Name "isinstance" p) [a, .Name x p2] [] pos) (lift X.K dk l W (eUn (isT T) m)) := PE_imp (pe_callB call_isi hg hm hb (pa_cons ha (pa_cons (pe_bltn (v := .ty T.nm) hgT hmT hv rfl hn hd) pa_nil he2) he) (by decide) (by decide) he hpl) fun σ H Q ⟨I, env, s, e, w, q⟩ => by
  refine ⟨I, env, s, e, w, q.bind.mono (fun d s1 q v I1 H1 x1 w1 r1 => ?_) fun _ _ _ h => h⟩
  obtain ⟨y, e2, q⟩ := q.opt
  have fin : ∀ (c : String) (b : Bool), TyX X.K H1 v (.type c) → kitB c T.nm = some b → y = .bl b → rIsi X.K [v, .ty T.nm] H1 Q := fun c b t1 t2 t3 => ⟨v, .ty T.nm, .type c, .type T.nm, b, rfl, .ty _, t1, kit_ty t2, q _ I1 H1 x1 w1 (by rw [t3]; rfl)⟩
  cases d with
  | non =>
    have r2 : v = .non := r1
    subst r2
    cases T <;> (cases e2; exact fin "NoneType" false (.base .non) (by decide +kernel) rfl)
  | bl b =>
    have r2 : v = .bl b := r1
    subst r2
    cases T <;> (cases e2; first | exact fin "bool" false (.base (.bl _)) (by decide +kernel) rfl | exact fin "bool" true (.base (.bl _)) (by decide +kernel) rfl)
  | int b =>
    have r2 : v = .int b := r1
    subst r2
    cases T <;> (cases e2; first | exact fin "int" false (.base (.int _)) (by decide +kernel) rfl | exact fin "int" true (.base (.int _)) (by decide +kernel) rfl)
  | str b =>
    have r2 : v = .str b := r1
    subst r2
    cases T <;> (cases e2; first | exact fin "str" false (.base (.str _)) (by decide +kernel) rfl | exact fin "str" true (.base (.str _)) (by decide +kernel) rfl)
  | tup ds =>
    obtain ⟨a', vs, rfl, h1, _⟩ := r1
    cases T <;> (cases e2; first | exact fin "tuple" false (.base (.tup (w1.sub _ _ h1))) (by decide +kernel) rfl | exact fin "tuple" true (.base (.tup (w1.sub _ _ h1))) (by decide +kernel) rfl)
  | lst ds =>
    obtain ⟨a', vs, rfl, h1, _⟩ := r1
    cases T <;> (cases e2; first | exact fin "list" false (.base (.lst (w1.sub _ _ h1))) (by decide +kernel) rfl | exact fin "list" true (.base (.lst (w1.sub _ _ h1))) (by decide +kernel) rfl)
  | dK ds =>
    obtain ⟨a', vs, rfl, h1, _⟩ := r1
    cases T <;> (cases e2; first | exact fin "dict" false (.base (.dK (w1.sub _ _ h1))) (by decide +kernel) rfl | exact fin "dict" true (.base (.dK (w1.sub _ _ h1))) (by decide +kernel) rfl)
  | dT ds =>
    obtain ⟨a', vs, rfl, h1, _⟩ := r1
    cases T <;> (cases e2; first | exact fin "dict" false (.base (.dT (w1.sub _ _ h1))) (by decide +kernel) rfl | exact fin "dict" true (.base (.dT (w1.sub _ _ h1))) (by decide +kernel) rfl)
  | deck => cases T <;> cases e2
  | exc c d => cases T <;> cases e2
end
end PV

end

section
set_option maxRecDepth 100000
namespace PV
open PySem PySem.Spec PyProof.Rows L2

/-! ### zip's next while its last tuple is still out -/
section
variable {prog : Program} {w : World} {A : Around} {E : Value → Shared → Prop} {s : Shared} {z TI TO i1 i2 T : Addr} {f : Bool} {fp1 fp2 : List Addr} {n1 n2 i : Nat} {P1 P2 : Nat → Value → Prop} {St1 St2 : Nat → Heap → Prop}
theorem held_item {oT : Obj} {Q : Value → Shared → Prop} (S : ZipSep2 z TI TO i1 i2 fp1 fp2) (D1 : Draws prog w A i1 fp1 n1 P1 St1) (D2 : Draws prog w A i2 fp2 n2 P2 St2)
    (hz : IsZipHeld s.heap z TI TO T f) (hT : s.heap.get? T = some oT) (hTI : IsTupOf2 s.heap TI (.ref i1) (.ref i2)) (st1 : St1 i s.heap) (st2 : St2 i s.heap) (l1 : i < n1) (l2 : i < n2)
    (hQ : ∀ x1 x2 h' tk, P1 i x1 → P2 i x2 → IsZipHeld h' z TI TO T true → St1 (i + 1) h' → St2 (i + 1) h' → IsTupOf2 h' s.heap.objs.size x1 x2 → h'.objs.size = s.heap.objs.size + 1 →
      (∀ c o, c ≠ z → c ≠ i1 → c ≠ i2 → s.heap.get? c = some o → h'.get? c = some o) → Q (.ref s.heap.objs.size) { s with heap := h', toks := tk }) :
    wpAny (model prog w) A (Builtin.«zip.__next__» ⟨[.ref z], []⟩) (fun fin s' => ∃ v, fin = .done (.ret v) ∧ Q v s') E s := by
  obtain ⟨hp, g, d, tk0, os⟩ := s
  show wpAny _ _ (field (.ref z) 2 >>= _) _ _ _
  refine wpAny_bind (wpAny_field hz rfl (x := .bool false) rfl ?_)
  show wpAny _ _ (field (.ref z) 3 >>= _) _ _ _
  refine wpAny_bind (wpAny_field hz rfl (x := .ref TI) rfl ?_)
  refine wpAny_bind (wpAny_seqItems hTI rfl ?_)
  show wpAny _ _ (Builtin.SmallTypes.ownedTupleIsFree (.ref z) >>= _) _ _ _
  refine wpAny_bind (wpAny_tupleHeld_zip hz hT fun g0 hz0 hs0 => ?_)
  simp only [Bool.false_eq_true, if_false]
  replace hs0 : Heap.SameBut z hp g0 := hs0
  refine wpAny_bind ?_
  rw [← Array.forIn_toList]
  simp only [List.forIn_cons, List.forIn_nil]
  refine wpAny_bind (wpAny_bind (wpAny_holding ?_))
  show wpAny _ _ (Builtin.SmallTypes.nextOf (.ref i1) >>= _) _ _ ⟨g0, g, d, tk0, os⟩
  refine wpAny_bind (D1.item i _ _ _ l1 (D1.over st1 hs0 S.zf1) fun x1 p1 tk1 hx1 sn1 hp1 => wpAny_pure ?_)
  replace hp1 : Heap.SameBut i1 g0 p1 := hp1
  refine wpAny_pure ?_
  refine wpAny_bind (wpAny_bind (wpAny_holding ?_))
  show wpAny _ _ (Builtin.SmallTypes.nextOf (.ref i2) >>= _) _ _ ⟨p1, g, d, tk1, os⟩
  refine wpAny_bind (D2.item i _ _ _ l2 (D2.over (D2.over st2 hs0 S.zf2) hp1 S.sep1_2) fun x2 p2 tk2 hx2 sn2 hp2 => wpAny_pure ?_)
  replace hp2 : Heap.SameBut i2 p1 p2 := hp2
  refine wpAny_pure (wpAny_pure ?_)
  show wpAny _ _ (newTuple [x1, x2] >>= _) _ _ _
  refine wpAny_bind (wpAny_newTuple ?_)
  have hsz : p2.objs.size = hp.objs.size := by rw [hp2.1, hp1.1, hs0.1]
  have hz3 : IsZipHeld p2 z TI TO T true := hp2.extBut _ _ S.zi2 (hp1.extBut _ _ S.zi1 hz0)
  have hk : ∀ c o, c ≠ z → c ≠ i1 → c ≠ i2 → hp.get? c = some o → p2.get? c = some o := fun c o c1 c2 c3 e => hp2.extBut _ _ c3 (hp1.extBut _ _ c2 (hs0.extBut _ _ c1 e))
  have hj1 : St1 (i + 1) p2 := D1.over sn1 hp2 S.sep2_1
  refine wpAny_pure ⟨_, rfl, ?_⟩
  show Q (.ref p2.objs.size) _
  have hp3 : IsTupOf2 (p2.push { cls := .type "tuple", data := .seq #[x1, x2] }) p2.objs.size x1 x2 := Heap.get?_push_size _ rfl
  have hz4 : (p2.push { cls := .type "tuple", data := .seq #[x1, x2] }).objs.size = p2.objs.size + 1 := Heap.size_push ..
  rw [hsz] at hp3 hz4 ⊢
  exact hQ x1 x2 _ tk2 hx1 hx2 (Heap.get?_push_of_some _ hz3) (D1.frame _ _ _ hj1 fun b _ o e => Heap.get?_push_of_some _ e) (D2.frame _ _ _ sn2 fun b _ o e => Heap.get?_push_of_some _ e) hp3 hz4 fun c o c1 c2 c3 e => Heap.get?_push_of_some _ (hk c o c1 c2 c3 e)
theorem held_end {oT : Obj} {Q : Fin → Shared → Prop} (S : ZipSep2 z TI TO i1 i2 fp1 fp2) (D1 : Draws prog w A i1 fp1 n1 P1 St1) (D2 : Draws prog w A i2 fp2 n2 P2 St2)
    (hz : IsZipHeld s.heap z TI TO T f) (hT : s.heap.get? T = some oT) (hTI : IsTupOf2 s.heap TI (.ref i1) (.ref i2)) (st1 : St1 i s.heap) (st2 : St2 i s.heap) (l1 : i ≤ n1) (l2 : i ≤ n2) (hend : i = n1 ∨ i = n2)
    (hE : ∀ h' tk e, (∀ c o, c ≠ z → c ≠ i1 → c ≠ i2 → s.heap.get? c = some o → h'.get? c = some o) → (∃ o, h'.get? e = some o ∧ o.cls = .type "StopIteration") → E (.ref e) { s with heap := h', toks := tk }) :
    wpAny (model prog w) A (Builtin.«zip.__next__» ⟨[.ref z], []⟩) Q E s := by
  obtain ⟨hp, g, d, tk0, os⟩ := s
  show wpAny _ _ (field (.ref z) 2 >>= _) _ _ _
  refine wpAny_bind (wpAny_field hz rfl (x := .bool false) rfl ?_)
  show wpAny _ _ (field (.ref z) 3 >>= _) _ _ _
  refine wpAny_bind (wpAny_field hz rfl (x := .ref TI) rfl ?_)
  refine wpAny_bind (wpAny_seqItems hTI rfl ?_)
  show wpAny _ _ (Builtin.SmallTypes.ownedTupleIsFree (.ref z) >>= _) _ _ _
  refine wpAny_bind (wpAny_tupleHeld_zip hz hT fun g0 hz0 hs0 => ?_)
  simp only [Bool.false_eq_true, if_false]
  replace hs0 : Heap.SameBut z hp g0 := hs0
  refine wpAny_bind ?_
  rw [← Array.forIn_toList]
  simp only [List.forIn_cons, List.forIn_nil]
  refine wpAny_bind (wpAny_bind (wpAny_holding ?_))
  show wpAny _ _ (Builtin.SmallTypes.nextOf (.ref i1) >>= _) _ _ ⟨g0, g, d, tk0, os⟩
  by_cases c1 : i < n1
  · refine wpAny_bind (D1.item i _ _ _ c1 (D1.over st1 hs0 S.zf1) fun x1 p1 tk1 hx1 sn1 hp1 => wpAny_pure ?_)
    replace hp1 : Heap.SameBut i1 g0 p1 := hp1
    refine wpAny_pure ?_
    refine wpAny_bind (wpAny_bind (wpAny_holding ?_))
    show wpAny _ _ (Builtin.SmallTypes.nextOf (.ref i2) >>= _) _ _ ⟨p1, g, d, tk1, os⟩
    have hi2 : i = n2 := by omega
    refine wpAny_bind (D2.done ⟨p1, g, d, tk1, os⟩ _ _ (by rw [← hi2]; exact D2.over (D2.over st2 hs0 S.zf2) hp1 S.sep1_2) fun q e hq he => ?_)
    replace hq : Heap.ExtBut i2 p1 q := hq
    exact hE q tk1 e (fun c o c1 c2 c3 x => hq _ _ c3 (hp1.extBut _ _ c2 (hs0.extBut _ _ c1 x))) he
  · have hi1 : i = n1 := by omega
    refine wpAny_bind (D1.done ⟨g0, g, d, tk0, os⟩ _ _ (by rw [← hi1]; exact D1.over st1 hs0 S.zf1) fun q e hq he => ?_)
    replace hq : Heap.ExtBut i1 g0 q := hq
    exact hE q tk0 e (fun c o c1 c2 c3 x => hq _ _ c2 (hs0.extBut _ _ c1 x)) he
theorem heldN_item {oT : Obj} {Q : Option Value → Shared → Prop} (S : ZipSep2 z TI TO i1 i2 fp1 fp2) (D1 : Draws prog w A.in1 i1 fp1 n1 P1 St1) (D2 : Draws prog w A.in1 i2 fp2 n2 P2 St2)
    (hz : IsZipHeld s.heap z TI TO T f) (hT : s.heap.get? T = some oT) (hTI : IsTupOf2 s.heap TI (.ref i1) (.ref i2)) (st1 : St1 i s.heap) (st2 : St2 i s.heap) (l1 : i < n1) (l2 : i < n2)
    (hQ : ∀ x1 x2 h' tk, P1 i x1 → P2 i x2 → IsZipHeld h' z TI TO T true → St1 (i + 1) h' → St2 (i + 1) h' → IsTupOf2 h' s.heap.objs.size x1 x2 → h'.objs.size = s.heap.objs.size + 1 →
      (∀ c o, c ≠ z → c ≠ i1 → c ≠ i2 → s.heap.get? c = some o → h'.get? c = some o) → Q (some (.ref s.heap.objs.size)) { s with heap := h', toks := tk }) :
    wpAny (model prog w) A (pyNext (.ref z)) Q E s := by
  have hTy : s.TypeIs (.ref z) "zip" := ⟨_, hz, rfl⟩
  unfold pyNext
  exact wpAny_bind (wpAny_attempt (wpAny_callSpecial?_slot (name := Str.ofString "__next__") hTy PySem.F.slot_zip_next
    (wpAny_call_entry PySem.F.slot_zip_next hTy PySem.F.entry_zip_next
      (held_item S D1 D2 hz hT hTI st1 st2 l1 l2 fun x1 x2 h' tk y1 y2 b1 d1 d2 b5 b6 b7 => wpAny_pure (hQ x1 x2 h' tk y1 y2 b1 d1 d2 b5 b6 b7)) (PySem.F.args_zip_next_1 _))))
theorem heldN_end {oT : Obj} {Q : Option Value → Shared → Prop} (S : ZipSep2 z TI TO i1 i2 fp1 fp2) (D1 : Draws prog w A.in1 i1 fp1 n1 P1 St1) (D2 : Draws prog w A.in1 i2 fp2 n2 P2 St2)
    (hz : IsZipHeld s.heap z TI TO T f) (hT : s.heap.get? T = some oT) (hTI : IsTupOf2 s.heap TI (.ref i1) (.ref i2)) (st1 : St1 i s.heap) (st2 : St2 i s.heap) (l1 : i ≤ n1) (l2 : i ≤ n2) (hend : i = n1 ∨ i = n2)
    (hQ : ∀ h' tk, (∀ c o, c ≠ z → c ≠ i1 → c ≠ i2 → s.heap.get? c = some o → h'.get? c = some o) → Q none { s with heap := h', toks := tk }) : wpAny (model prog w) A (pyNext (.ref z)) Q E s := by
  have hTy : s.TypeIs (.ref z) "zip" := ⟨_, hz, rfl⟩
  unfold pyNext
  refine wpAny_bind (wpAny_attempt (wpAny_callSpecial?_slot (name := Str.ofString "__next__") hTy PySem.F.slot_zip_next
    (wpAny_call_entry PySem.F.slot_zip_next hTy PySem.F.entry_zip_next (held_end S D1 D2 hz hT hTI st1 st2 l1 l2 hend fun h' tk e hk he => ?_) (PySem.F.args_zip_next_1 _))))
  obtain ⟨o, ho, hc⟩ := he
  refine wpAny_bind (wpAny_isInstance (T := "StopIteration") (b := true) ⟨o, ho, hc⟩ isSubtype_stop ?_)
  exact wpAny_pure (hQ _ _ hk)
end
theorem zip_no_len : typeLookup (.type "zip") "__len__" = pure none := am_miss_of_fast (by decide +kernel)
theorem zip_no_hint : typeLookup (.type "zip") "__length_hint__" = pure none := am_miss_of_fast (by decide +kernel)
end PV

end

section
set_option maxRecDepth 100000
namespace PV
open PySem PySem.Spec PyProof.Rows L2
/-- a zip's cells between two turns -/
structure ZSt (t u : Bool) (z TI TO i1 i2 a b : Addr) (i : Nat) (H : Hp) (h : Heap) : Prop where
  st : (IsZip h z TI TO .none ∧ ∃ x y, IsTupOf2 h TO x y) ∨ ∃ T f ps, IsZipHeld h z TI TO T f ∧ H T = some (.tup ps)
  ti : IsTupOf2 h TI (.ref i1) (.ref i2)
  to : ∃ o, h.get? TO = some o
  s1 : ItA t h i1 a i
  s2 : ItA u h i2 b i
theorem ZSt.keep {t u : Bool} {z TI TO i1 i2 a b : Addr} {i : Nat} {H H' : Hp} {h h' : Heap} (x : ZSt t u z TI TO i1 i2 a b i H h) (kH : ∀ c ps, H c = some (.tup ps) → H' c = some (.tup ps)) (k : ∀ c ∈ [z, TI, TO, i1, i2], ∀ o, h.get? c = some o → h'.get? c = some o) : ZSt t u z TI TO i1 i2 a b i H' h' where
  st := by
    rcases x.st with ⟨h1, y1, y2, h2⟩ | ⟨T, f, ps, h1, h2⟩
    · exact .inl ⟨k z (by simp) _ h1, y1, y2, k TO (by simp) _ h2⟩
    · exact .inr ⟨T, f, ps, k z (by simp) _ h1, kH _ _ h2⟩
  ti := k TI (by simp) _ x.ti
  to := let ⟨o, e⟩ := x.to; ⟨o, k TO (by simp) o e⟩
  s1 := x.s1.at fun o q => k i1 (by simp) o q
  s2 := x.s2.at fun o q => k i2 (by simp) o q
section
variable {X : Cx} {pins : List (Addr × Obj)} {σ : L2.St}
theorem obj_of {H : Hp} {s : Shared} {T : Addr} {ps : List V} (I : Inv X pins σ H s) (h : H T = some (.tup ps)) : ∃ o, s.heap.get? T = some o := by
  obtain ⟨_, its, _, o, e, _⟩ := (show ObjOk X.prog X.w H s.heap T (.tup ps) from I.hok T _ h)
  exact ⟨o, e⟩
theorem zipAll_next {t u : Bool} {z TI TO i1 i2 a b : Addr} {i : Nat} {H : Hp} {s : Shared} {A : Around} {E : Value → Shared → Prop} {Q : Option Value → Shared → Prop} {xs ys : List V} {x y : V} (hh : A.in1.handled = none) (D : ZipSep2 z TI TO i1 i2 [i1, a] [i2, b]) (n1 : a ≠ i1) (n2 : b ≠ i2)
    (I : Inv X pins σ H s) (hf : ∀ c ∈ [z, TI, TO, i1, i2], FpOk X pins H c) (st : ZSt t u z TI TO i1 i2 a b i H s.heap) (hqx : SqA X.K t H a xs) (hqy : SqA X.K u H b ys) (hx : xs[i]? = some x) (hy : ys[i]? = some y)
    (q : ∀ T s', H T = none → Inv X pins σ (upd H T (.tup [x, y])) s' → (∀ c ∈ [z, TI, TO, i1, i2], FpOk X pins (upd H T (.tup [x, y])) c) → ZSt t u z TI TO i1 i2 a b (i + 1) (upd H T (.tup [x, y])) s'.heap → Q (some (.ref T)) s') :
    wpAny (model X.prog X.w) A (pyNext (.ref z)) Q E s := by
  obtain ⟨its, rv, p, _⟩ := invA I hqx
  obtain ⟨its2, rv2, p2, _⟩ := invA I hqy
  obtain ⟨v1, hv1, r1⟩ := rv.get hx
  obtain ⟨v2, hv2, r2⟩ := rv2.get hy
  have l1 : i < its.toArray.size := by
    have := (List.getElem?_eq_some_iff.mp hv1).1
    simpa using this
  have l2 : i < its2.toArray.size := by
    have := (List.getElem?_eq_some_iff.mp hv2).1
    simpa using this
  have D1 := drawsA (prog := X.prog) (w := X.w) (A := A.in1) t hh i1 a n1 its.toArray
  have D2 := drawsA (prog := X.prog) (w := X.w) (A := A.in1) u hh i2 b n2 its2.toArray
  have fin : ∀ (h' : Heap) (tk : Nat) (w1 w2 : Value), its.toArray[i]? = some w1 → its2.toArray[i]? = some w2 → IsTupOf2 h' s.heap.objs.size w1 w2 → (∀ c o, c ∉ [z, TI, TO, i1, i2] → s.heap.get? c = some o → h'.get? c = some o) →
      (∀ H', H' s.heap.objs.size = some (.tup [x, y]) → (∀ c ps, H c = some (.tup ps) → H' c = some (.tup ps)) → ZSt t u z TI TO i1 i2 a b (i + 1) H' h') → Q (some (.ref s.heap.objs.size)) { s with heap := h', toks := tk } := fun h' tk w1 w2 hw1 hw2 hT kp zs => by
    have e1 : w1 = v1 := by
      have : its[i]? = some w1 := by simpa using hw1
      rw [hv1] at this
      exact (Option.some.inj this).symm
    have e2 : w2 = v2 := by
      have : its2[i]? = some w2 := by simpa using hw2
      rw [hv2] at this
      exact (Option.some.inj this).symm
    subst e1 e2
    have hn : H s.heap.objs.size = none := I.fresh
    have new : ObjOk X.prog X.w (upd H s.heap.objs.size (.tup [x, y])) h' s.heap.objs.size (.tup [x, y]) :=
      ⟨by show 2 ≤ sizeLine; decide, [w1, w2], .cons r1 (.cons r2 .nil), ⟨_, hT, rfl, _, rfl⟩⟩
    have I1 : Inv X pins σ (upd H s.heap.objs.size (.tup [x, y])) { s with heap := h', toks := tk } := I.turnedNew (ch := [z, TI, TO, i1, i2]) (fun c ob hb e => kp c ob hb e) hf (Nat.le_refl _) new
    have lt : ∀ c ∈ [z, TI, TO, i1, i2], c ≠ s.heap.objs.size := fun c hc e => by
      have obj : ∃ o, s.heap.get? c = some o := by
        have e' : c = z ∨ c = TI ∨ c = TO ∨ c = i1 ∨ c = i2 := by simpa using hc
        rcases e' with q | q | q | q | q
        · subst q
          rcases st.st with ⟨h1, _⟩ | ⟨T, f, ps, h1, _⟩
          · exact ⟨_, h1⟩
          · exact ⟨_, h1⟩
        · subst q; exact ⟨_, st.ti⟩
        · subst q; exact st.to
        · subst q; obtain ⟨o, h, _⟩ := st.s1.obj; exact ⟨o, h⟩
        · subst q; obtain ⟨o, h, _⟩ := st.s2.obj; exact ⟨o, h⟩
      obtain ⟨o, ho⟩ := obj
      rw [e] at ho
      exact absurd (Heap.lt_size ho) (Nat.lt_irrefl _)
    refine q _ _ hn I1 (fun c hc => ?_) (zs _ upd_same fun c ps e => by rw [upd_ne (ne_of_none e hn)]; exact e)
    have h := hf c hc
    exact ⟨by rw [upd_ne (lt c hc)]; exact h.1, h.2⟩
  rcases st.st with ⟨hz, y1, y2, hTO⟩ | ⟨T, f, ps, hz, hT⟩
  · refine wpAny_pyNext_zipD2_item D D1 D2 hz st.ti hTO ⟨st.s1, p⟩ ⟨st.s2, p2⟩ l1 l2 fun x1 x2 h' tk g1 g2 b1 b2 d1 d2 b5 b6 hk => ?_
    refine fin h' tk x1 x2 g1 g2 b5 (fun c o hc e => hk c o (fun q => hc (by simp [q])) (fun q => hc (by simp [q])) (fun q => hc (by simp [q])) (fun q => hc (by simp [q])) e) fun H' e1 e2 => ⟨.inr ⟨s.heap.objs.size, false, [x, y], b1, e1⟩, hk _ _ D.TIz D.TITO D.TIi1 D.TIi2 st.ti, ⟨_, b2⟩, d1.1, d2.1⟩
  · obtain ⟨oT, hoT⟩ := obj_of I hT
    refine heldN_item D D1 D2 hz hoT st.ti ⟨st.s1, p⟩ ⟨st.s2, p2⟩ l1 l2 fun x1 x2 h' tk g1 g2 b1 d1 d2 b5 b6 hk => ?_
    refine fin h' tk x1 x2 g1 g2 b5 (fun c o hc e => hk c o (fun q => hc (by simp [q])) (fun q => hc (by simp [q])) (fun q => hc (by simp [q])) e) fun H' e1 e2 => ⟨.inr ⟨T, true, ps, b1, e2 T ps hT⟩, hk _ _ D.TIz D.TIi1 D.TIi2 st.ti, (let ⟨o, e⟩ := st.to; ⟨o, hk _ _ D.TOz D.Ti1 D.Ti2 e⟩), d1.1, d2.1⟩
theorem zipAll_end {t u : Bool} {z TI TO i1 i2 a b : Addr} {i : Nat} {H : Hp} {s : Shared} {A : Around} {E : Value → Shared → Prop} {Q : Option Value → Shared → Prop} {xs ys : List V} (hh : A.in1.handled = none) (D : ZipSep2 z TI TO i1 i2 [i1, a] [i2, b]) (n1 : a ≠ i1) (n2 : b ≠ i2)
    (I : Inv X pins σ H s) (hf : ∀ c ∈ [z, TI, TO, i1, i2], FpOk X pins H c) (st : ZSt t u z TI TO i1 i2 a b i H s.heap) (hqx : SqA X.K t H a xs) (hqy : SqA X.K u H b ys) (hl : min xs.length ys.length = i) (q : ∀ s', Inv X pins σ H s' → Q none s') :
    wpAny (model X.prog X.w) A (pyNext (.ref z)) Q E s := by
  obtain ⟨its, rv, p, _⟩ := invA I hqx
  obtain ⟨its2, rv2, p2, _⟩ := invA I hqy
  have D1 := drawsA (prog := X.prog) (w := X.w) (A := A.in1) t hh i1 a n1 its.toArray
  have D2 := drawsA (prog := X.prog) (w := X.w) (A := A.in1) u hh i2 b n2 its2.toArray
  have e1 : its.toArray.size = xs.length := by rw [List.size_toArray, ← rv.length]
  have e2 : its2.toArray.size = ys.length := by rw [List.size_toArray, ← rv2.length]
  have fin : ∀ (h' : Heap) (tk : Nat), (∀ c o, c ∉ [z, TI, TO, i1, i2] → s.heap.get? c = some o → h'.get? c = some o) → Q none { s with heap := h', toks := tk } := fun h' tk kp => q _ (I.turnedL (ch := [z, TI, TO, i1, i2]) (fun c o hb e => kp c o hb e) hf)
  rcases st.st with ⟨hz, y1, y2, hTO⟩ | ⟨T, f, ps, hz, hT⟩
  · exact wpAny_pyNext_zipD2_end D D1 D2 hz st.ti hTO ⟨st.s1, p⟩ ⟨st.s2, p2⟩ (by omega) (by omega) (by omega) fun h' tk hk => fin h' tk fun c o hc e => hk c o (fun q => hc (by simp [q])) (fun q => hc (by simp [q])) (fun q => hc (by simp [q])) (fun q => hc (by simp [q])) e
  · obtain ⟨oT, hoT⟩ := obj_of I hT
    exact heldN_end D D1 D2 hz hoT st.ti ⟨st.s1, p⟩ ⟨st.s2, p2⟩ (by omega) (by omega) (by omega) fun h' tk hk => fin h' tk fun c o hc e => hk c o (fun q => hc (by simp [q])) (fun q => hc (by simp [q])) (fun q => hc (by simp [q])) e
theorem zip_loop {t u : Bool} {q z TI TO i1 i2 a b : Addr} {xs ys : List V} {A1 : Around} {Rs : Result → Shared → Prop} (hh : A1.in1.in1.handled = none) (D : ZipSep2 z TI TO i1 i2 [i1, a] [i2, b]) (n1 : a ≠ i1) (n2 : b ≠ i2) (hqn : ∀ c ∈ [z, TI, TO, i1, i2], c ≠ q)
    (hz : min xs.length ys.length < sizeLine) (G : List Addr → Hp → Prop) (hdone : ∀ as H s, Inv X pins σ H s → as.length = min xs.length ys.length → H q = some (.lst (as.map V.ref)) → G as H → Rs (.ok (.ret .none)) s)
    (hG : ∀ as H T x y, G as H → H T = none → xs[as.length]? = some x → ys[as.length]? = some y → H q = some (.lst (as.map V.ref)) → G (as ++ [T]) (upd (upd H T (.tup [x, y])) q (.lst ((as ++ [T]).map V.ref))))
    (hsq : ∀ as H, G as H → SqA X.K t H a xs ∧ SqA X.K u H b ys) :
    ∀ (m : Nat) (as : List Addr) (H : Hp) (s : Shared), as.length + m = min xs.length ys.length → Inv X pins σ H s → (∀ c ∈ [z, TI, TO, i1, i2], FpOk X pins H c) → ZSt t u z TI TO i1 i2 a b as.length H s.heap → H q = some (.lst (as.map V.ref)) → G as H →
      codeAny (model X.prog X.w) A1 (.builtin "list.extend.loop" ⟨[.ref q, .ref z, .none], []⟩) Rs s := by
  intro m
  induction m with
  | zero =>
    intro as H s hl I hf st hq g
    refine codeAny_builtin PySem.F.entry_extend_loop ?_
    rw [Around.under_plainId PySem.F.plain_extend_loop _]
    show wpAny _ A1.in1 (pyNext (.ref z) >>= _) _ _ s
    obtain ⟨h1, h2⟩ := hsq as H g
    exact wpAny_bind (zipAll_end hh D n1 n2 I hf st h1 h2 (by omega) fun s' I' => wpAny_pure (hdone as H s' I' (by omega) hq g))
  | succ m ih =>
    intro as H s hl I hf st hq g
    refine codeAny_builtin PySem.F.entry_extend_loop ?_
    rw [Around.under_plainId PySem.F.plain_extend_loop _]
    show wpAny _ A1.in1 (pyNext (.ref z) >>= _) _ _ s
    obtain ⟨h1, h2⟩ := hsq as H g
    obtain ⟨x, hx⟩ : ∃ x, xs[as.length]? = some x := ⟨xs[as.length]'(by omega), by simp [show as.length < xs.length by omega]⟩
    obtain ⟨y, hy⟩ : ∃ y, ys[as.length]? = some y := ⟨ys[as.length]'(by omega), by simp [show as.length < ys.length by omega]⟩
    refine wpAny_bind (zipAll_next hh D n1 n2 I hf st h1 h2 hx hy fun T s' hT I' hf' st' => ?_)
    show wpAny _ A1.in1 (updateSeq q (·.push (.ref T)) >>= _) _ _ _
    have hqT : q ≠ T := ne_of_none hq hT
    have hq' : upd H T (.tup [x, y]) q = some (.lst (as.map V.ref)) := by rw [upd_ne hqT]; exact hq
    obtain ⟨zz, its, k, r2, hl2, e⟩ := I'.lstM hq'
    have hal : its.length = as.length := by rw [← r2.length, List.length_map]
    refine wpAny_bind (wpAny_updateSeq e rfl (wpAny_pure ⟨plainId_quiet PySem.F.plain_extend_loop _, ?_⟩) (by rw [List.size_toArray]; omega) (by show (its.toArray.push (.ref T)).size ≤ sizeLine + 1; rw [Array.size_push, List.size_toArray]; omega))
    have I2 := I'.lset (its' := its ++ [.ref T]) (ys := (as ++ [T]).map V.ref) (f := (·.push (.ref T))) (t' := s'.toks) hq' e (by simp) (by rw [List.map_append]; exact r2.append (.cons rfl .nil)) (by rw [List.length_map, List.length_append, List.length_singleton]; omega)
    refine ih (as ++ [T]) _ _ (by rw [List.length_append, List.length_singleton]; omega) I2 (fun c hc => ?_) ?_ upd_same (hG as H T x y g hT hx hy hq)
    · have h := hf' c hc
      exact ⟨by rw [upd_ne (hqn c hc)]; exact h.1, h.2⟩
    · rw [List.length_append, List.length_singleton]
      refine st'.keep (fun c ps e9 => ?_) fun c hc o e9 => ?_
      · by_cases hc : c = q
        · subst hc
          rw [hq'] at e9; cases e9
        · rw [upd_ne hc]; exact e9
      · exact (Heap.get?_update_other _ _ (Ne.symm (hqn c hc))).trans e9
/-- list(z) of a zip as it is made -/
theorem call_listZ {t u : Bool} {z TI TO i1 i2 a b : Addr} {xs ys : List V} {H : Hp} {s : Shared} {Q : VK} (hh : X.A.handled = none) (D : ZipSep2 z TI TO i1 i2 [i1, a] [i2, b]) (n1 : a ≠ i1) (n2 : b ≠ i2) (hz : min xs.length ys.length < sizeLine)
    (I : Inv X pins σ H s) (hf : ∀ c ∈ [z, TI, TO, i1, i2], FpOk X pins H c) (lt : ∀ c ∈ [z, TI, TO, i1, i2], c < s.heap.objs.size) (hzz : IsZip s.heap z TI TO .none) (st : ZSt t u z TI TO i1 i2 a b 0 H s.heap)
    (go : ∀ q, H q = none → ∃ G : List Addr → Hp → Prop, G [] (upd H q (.lst [])) ∧ (∀ as H T x y, G as H → H T = none → xs[as.length]? = some x → ys[as.length]? = some y → H q = some (.lst (as.map V.ref)) → G (as ++ [T]) (upd (upd H T (.tup [x, y])) q (.lst ((as ++ [T]).map V.ref)))) ∧
      (∀ as H, G as H → SqA X.K t H a xs ∧ SqA X.K u H b ys) ∧ ∀ as H', as.length = min xs.length ys.length → H' q = some (.lst (as.map V.ref)) → G as H' → Q (.ref q) H') :
    wpAny (model X.prog X.w) X.A (call (.type "list") [.ref z]) (EP X pins σ Q) X.xe s := by
  have hT : ∀ {h : Heap}, IsZip h z TI TO .none → ∀ {s' : Shared}, s'.heap = h → s'.TypeIs (.ref z) "zip" := fun e _ e2 => ⟨_, by rw [e2]; exact e, rfl⟩
  refine callType_codes (Q₁ := fun obj s₁ => obj = .ref s.heap.objs.size ∧ s₁ = { s with heap := s.heap.push { cls := .type "list", data := .seq #[] } }) PySem.F.called_list (PySem.F.typeCall_list_1 _) PySem.F.entry_list_init
    (code_list_new _ ⟨rfl, rfl⟩) fun obj s₁ h₁ => ?_
  obtain ⟨rfl, rfl⟩ := h₁
  have hS : (s.heap.push { cls := .type "list", data := .seq #[] }).get? s.heap.objs.size = some { cls := .type "list", data := .seq #[] } := Heap.get?_push_size _ rfl
  refine ⟨⟨_, hS, rfl⟩, PySem.F.args_list_init_2 _ _, ?_⟩
  have fr : H s.heap.objs.size = none := I.fresh
  obtain ⟨G, g0, gs, gq, gd⟩ := go _ fr
  have hqn : ∀ c ∈ [z, TI, TO, i1, i2], c ≠ s.heap.objs.size := fun c hc => Nat.ne_of_lt (lt c hc)
  have hqz : s.heap.objs.size ≠ z := Ne.symm (hqn z (by simp))
  have I1 : Inv X pins σ (upd H s.heap.objs.size (.lst [])) { s with heap := s.heap.push { cls := .type "list", data := .seq #[] } } := I.lnew (its := []) (t' := s.toks) .nil (Nat.zero_le _)
  show wpAny _ _ (do let old ← Builtin.List.listItems (.ref s.heap.objs.size); Builtin.List.listUpdate (.ref s.heap.objs.size) (fun _ => #[]); letGo old.toList.reverse; Builtin.List.listExtendWith (.ref s.heap.objs.size) (.ref z) .none) _ _ _
  refine wpAny_bind ?_
  unfold Builtin.List.listItems
  refine wpAny_bind (wpAny_seqItems hS rfl (wpAny_pure ?_))
  show wpAny _ _ (updateSeq s.heap.objs.size (fun _ => #[]) >>= fun _ => letGo (#[] : Array Value).toList.reverse >>= fun _ => Builtin.List.listExtendWith (.ref s.heap.objs.size) (.ref z) .none) _ _ _
  refine wpAny_bind (wpAny_updateSeq hS rfl ?_)
  have I2 := I1.lset (f := fun _ => #[]) (its := []) (its' := []) (ys := []) (t' := s.toks) upd_same hS rfl .nil (Nat.zero_le _)
  rw [upd_upd] at I2
  refine wpAny_bind (wpAny_letGo ?_)
  have kp2 : ∀ c o, c ≠ s.heap.objs.size → s.heap.get? c = some o → ((s.heap.push { cls := .type "list", data := .seq #[] }).update s.heap.objs.size (Obj.mapSeq fun _ => #[])).get? c = some o := fun c o hc e => (Heap.get?_update_other _ _ (Ne.symm hc)).trans (Heap.get?_push_of_some _ e)
  have hz2 := kp2 z _ (Ne.symm hqz) hzz
  unfold Builtin.List.listExtendWith
  refine wpAny_bind (wpAny_typeOf (T := "zip") ⟨_, hz2, rfl⟩ ?_)
  have h1 : Builtin.List.listSameRef (.ref s.heap.objs.size) (.ref z) = false := by simp [Builtin.List.listSameRef, hqz]
  have h2 : (Value.type "zip" == Value.type "list") = false := by decide
  have h3 : (Value.type "zip" == Value.type "tuple") = false := by decide
  simp only [h1, h2, h3, Bool.or_false, Bool.false_eq_true, if_false]
  refine wpAny_bind (wpAny_pyIter_zip hz2 ?_)
  refine wpAny_bind (wpAny_holding ?_)
  unfold Builtin.List.listLengthHint
  refine wpAny_bind (wpAny_specialOf (T := "zip") ⟨_, hz2, rfl⟩ zip_no_len ?_)
  show wpAny _ _ (specialOf (Value.ref z) (Str.ofString "__length_hint__") >>= _) _ _ _
  refine wpAny_bind (wpAny_specialOf (T := "zip") ⟨_, hz2, rfl⟩ zip_no_hint ?_)
  refine wpAny_pure ?_
  show wpAny _ _ (rule "list.extend.makes-room" >>= fun _ => Builtin.List.listTouch (.ref s.heap.objs.size) >>= fun _ =>
    again (.builtin "list.extend.loop" ⟨[.ref s.heap.objs.size, .ref z, .none], []⟩)) _ _ _
  refine wpAny_bind (wpAny_rule ?_)
  refine wpAny_bind ?_
  show wpAny _ _ (updateSeq s.heap.objs.size (·.push .none) >>= fun _ => updateSeq s.heap.objs.size (·.pop)) _ _ _
  obtain ⟨zz, its, k, r3, hl3, e3⟩ := I2.lstM upd_same
  cases r3
  refine wpAny_bind (wpAny_updateSeq e3 rfl ?_)
  have I3 := I2.lset (f := (·.push Value.none)) (its' := [Value.none]) (ys := [.non]) (t' := s.toks) upd_same e3 (by simp) (.cons rfl .nil) (by rw [List.length_singleton, sizeLine_eq]; decide)
  obtain ⟨z4, its4, k4, r4, hl4, e4⟩ := I3.lstM upd_same
  obtain ⟨u4, rfl, ru4⟩ := r4.one
  refine wpAny_updateSeq e4 rfl ?_ (by show 1 ≤ sizeLine; rw [sizeLine_eq]; decide) (by show 0 ≤ sizeLine + 1; exact Nat.zero_le _)
  have I4 := I3.lset (f := (·.pop)) (its := [u4]) (its' := []) (ys := []) (t' := s.toks) upd_same e4 (by rfl) .nil (Nat.zero_le _)
  rw [upd_upd, upd_upd] at I4
  refine wpAny_pure ⟨plainId_quiet PySem.F.plain_extend_loop _, zip_loop (A1 := X.A.in1) (Rs := wants (fun r s₂ => r = .none ∧ EP X pins σ Q (.ref s.heap.objs.size) s₂) X.xe) (t := t) (u := u) (TI := TI) (TO := TO) (i1 := i1) (i2 := i2) (a := a) (b := b) (xs := xs) (ys := ys) hh D n1 n2 hqn hz G
    (fun as H' s' I' hl hq g => ⟨rfl, .ref s.heap.objs.size, H', I', rfl, gd as H' hl hq g⟩) gs gq (min xs.length ys.length) [] _ _ (by simp) I4 (fun c hc => ?_) ?_ upd_same g0⟩
  · have h := hf c hc
    exact ⟨by rw [upd_ne (hqn c hc)]; exact h.1, h.2⟩
  · refine st.keep (fun c ps e9 => by rw [upd_ne (ne_of_none e9 fr)]; exact e9) fun c hc o e9 => ?_
    exact (Heap.get?_update_other _ _ (Ne.symm (hqn c hc))).trans ((Heap.get?_update_other _ _ (Ne.symm (hqn c hc))).trans (kp2 c o (hqn c hc) e9))
end
end PV

end

section
set_option maxRecDepth 100000
namespace PV
open PySem PySem.Spec PyProof.Rows L2
def tListZip (K : PySem.W.Frag) (ta : TA) : TE := fun σ H Q => ta σ H fun vs H1 => ∃ t u a b xs ys, vs = [.ref a, .ref b] ∧ SqA K t H1 a xs ∧ SqA K u H1 b ys ∧ min xs.length ys.length < sizeLine ∧
  ∀ q, H1 q = none → ∃ G : List Addr → Hp → Prop, G [] (upd H1 q (.lst [])) ∧ (∀ as H T x y, G as H → H T = none → xs[as.length]? = some x → ys[as.length]? = some y → H q = some (.lst (as.map V.ref)) → G (as ++ [T]) (upd (upd H T (.tup [x, y])) q (.lst ((as ++ [T]).map V.ref)))) ∧
      (∀ as H, G as H → SqA K t H a xs ∧ SqA K u H b ys) ∧ ∀ as H', as.length = min xs.length ys.length → H' q = some (.lst (as.map V.ref)) → G as H' → Q (.ref q) H'
section
variable {X : Cx} {pos p p2 pos2 : Pos} {e e2 : Expr} {ta : TA}
theorem pe_listZip (hc : X.calm = true) (hg : Gl X "list") (hm : X.mg "list" = none) (hg2 : Gl X "zip") (hm2 : X.mg "zip" = none) (ha : PA X [e, e2] ta)
    (hs : starEach [.Call (.Name "zip" p2) [e, e2] [] pos2] X.env = (false, eval (.Call (.Name "zip" p2) [e, e2] [] pos2) X.env) :: starEach [] X.env := by rfl)
    (hs2 : starEach [e, e2] X.env = (false, eval e X.env) :: starEach [e2] X.env := by rfl) (hpl : (backTo pos2 (starEach [e2] X.env)).any (·.1) = false := by rfl) :
    PE X (.Call (.Name "list" p) [.Call (.Name "zip" p2) [e, e2] [] pos2] [] pos) (tListZip X.K ta) := by
  refine ⟨fun pins s σ H Q J h => ?_⟩
  refine wpAny_Call_Name_kw (ld_blt J hg hm PyProof.Rows.boot_list ?_)
  refine PyProof.Rows.callWith_type1 ?_ hs rfl
  rw [hs]
  show wpAny _ _ (spliced ((false, eval (.Call (.Name "zip" p2) [e, e2] [] pos2) X.env) :: backTo pos (starEach [] X.env))) _ _ s
  refine Calls.spliced_cons ?_
  refine Call_ (ld_blt J hg2 hm2 PyProof.Rows.boot_zip (PyProof.Rows.callWith_type1 (thn (ha.run pos2 pins s σ H _ J h) fun us s1 ⟨vs, H1, I1, r1, q1⟩ => ?_) hs2 hpl))
  obtain ⟨t, u, a, b, xs, ys, ex, hqx, hqy, hz, q⟩ := q1
  subst ex
  cases r1 with
  | cons r rr =>
    cases rr with
    | cons r' rr =>
      cases rr
      cases r
      cases r'
      obtain ⟨its, rv, p1, la⟩ := invA I1 hqx
      obtain ⟨its2, rv2, p2, lb⟩ := invA I1 hqy
      refine zip_begins2 (beginsA t a its.toArray) (beginsA u b its2.toArray) p1 p2 fun h' hz' hTI hTO h1 h2 hsz hk => ?_
      refine Calls.spliced_nil ?_
      have I2 : Inv X pins σ H1 { s1 with heap := h' } := I1.kept (t' := s1.toks) hk
      have mem : ∀ c ∈ [s1.heap.objs.size + 4, s1.heap.objs.size + 2, s1.heap.objs.size + 3, s1.heap.objs.size, s1.heap.objs.size + 1], s1.heap.objs.size ≤ c ∧ c < h'.objs.size := fun c hcm => by
        have e' : c = s1.heap.objs.size + 4 ∨ c = s1.heap.objs.size + 2 ∨ c = s1.heap.objs.size + 3 ∨ c = s1.heap.objs.size ∨ c = s1.heap.objs.size + 1 := by simpa using hcm
        have hsz' : h'.objs.size = s1.heap.objs.size + 5 := hsz
        omega
      exact call_listZ (s := { s1 with heap := h' }) (J.ok.hd hc) (zip_sep2 (fp1 := [a]) (fp2 := [b]) (by simpa using la) (by simpa using lb)) (Nat.ne_of_lt la) (Nat.ne_of_lt (Nat.lt_succ_of_lt lb)) hz I2
        (fun c hcm => I1.fpOk (mem c hcm).1 (I1.hok.fresh (mem c hcm).1)) (fun c hcm => (mem c hcm).2) hz' ⟨.inl ⟨hz', _, _, hTO⟩, hTI, ⟨_, hTO⟩, ItA.new h1, ItA.new h2⟩ q
end
/-! ### by the mirror -/
def gLstZip : List PV.D → Option OD
  | [d, e] => (seqOf d).bind fun xs => (seqOf e).bind fun ys => if xs.length ≤ size7 then some (.lst (zipD xs ys)) else none
  | _ => none
theorem gLstZip_inv {ds : List PV.D} {o : OD} (h : gLstZip ds = some o) : ∃ d e xs ys, ds = [d, e] ∧ seqOf d = some xs ∧ seqOf e = some ys ∧ xs.length ≤ size7 ∧ o = .lst (zipD xs ys) := by
  rcases ds with _ | ⟨d, _ | ⟨e, _ | ⟨f, r⟩⟩⟩
  · cases h
  · cases h
  · simp only [gLstZip] at h
    cases z1 : seqOf d with
    | none => rw [z1] at h; cases h
    | some xs =>
      cases z2 : seqOf e with
      | none => rw [z1, z2] at h; cases h
      | some ys =>
        rw [z1, z2] at h
        by_cases hl : xs.length ≤ size7
        · have e2 : some (OD.lst (zipD xs ys)) = some o := by rw [← h]; exact (if_pos hl).symm
          cases e2
          exact ⟨d, e, xs, ys, rfl, z1, z2, hl, rfl⟩
        · have e2 : none = some o := by rw [← h]; exact (if_neg hl).symm
          cases e2
  · cases h
theorem zipD_take_succ : ∀ (xs ys : List PV.D) (i : Nat) {x y : PV.D}, xs[i]? = some x → ys[i]? = some y → (zipD xs ys).take (i + 1) = (zipD xs ys).take i ++ [.tup [x, y]]
  | [], ys, i, x, y, h, _ => by simp at h
  | x :: xs, [], i, _, _, _, h => by simp at h
  | x :: xs, y :: ys, 0, _, _, h, h' => by
    simp at h h'
    subst h h'
    simp [zipD]
  | x :: xs, y :: ys, i + 1, _, _, h, h' => by
    simp at h h'
    simp only [zipD, List.take_succ_cons, List.cons_append]
    rw [zipD_take_succ xs ys i h h']
section
variable {X : Cx} {dk l : Addr} {W : WX} {pos p p2 pos2 : Pos} {e e2 : Expr}
theorem r_listZip {n : En → M (List PV.D)} (hc : X.calm = true) (hg : Gl X "list") (hm : X.mg "list" = none) (hg2 : Gl X "zip") (hm2 : X.mg "zip" = none) (ha : PA X [e, e2] (liftA X.K dk l W n))
    (hs : starEach [.Call (.Name "zip" p2) [e, e2] [] pos2] X.env = (false, eval (.Call (.Name "zip" p2) [e, e2] [] pos2) X.env) :: starEach [] X.env := by rfl)
    (hs2 : starEach [e, e2] X.env = (false, eval e X.env) :: starEach [e2] X.env := by rfl) (hpl : (backTo pos2 (starEach [e2] X.env)).any (·.1) = false := by rfl) :
    PE X (.Call (.Name "list" p) [.Call (.Name "zip" p2) [e, e2] [] pos2] [] pos) (liftO X.K dk l W (eMapO gLstZip n)) := PE_imp (pe_listZip hc hg hm hg2 hm2 ha hs hs2 hpl) fun σ H Q ⟨I, env, s, k, w, q⟩ => by
  refine ⟨I, env, s, k, w, q.bind.mono (fun ds s1 q vs I1 H1 x1 w1 r1 => ?_) fun _ _ _ h => h⟩
  obtain ⟨o, e1, q⟩ := q.opt
  obtain ⟨d, e, xs, ys, rfl, z1, z2, hl, rfl⟩ := gLstZip_inv e1
  obtain ⟨v, r', rfl, f1, v2, r2, rfl, f2, f3⟩ := r1
  have f4 : r2 = [] := f3
  subst f4
  obtain ⟨t, a, vs, rfl, g1, g2⟩ := seq_at w1 f1 z1
  obtain ⟨u, b, ws, rfl, g3, g4⟩ := seq_at w1 f2 z2
  refine ⟨t, u, a, b, vs, ws, rfl, g1.mono w1.sub, g3.mono w1.sub, ?_, fun D hD => ?_⟩
  · have h1 := g2.length
    exact Nat.lt_of_le_of_lt (Nat.min_le_left _ _) (by rw [← h1]; exact Nat.lt_of_le_of_lt hl (by decide))
  have n1 : D ≠ dk := (ne_of_none w1.dko hD).symm
  have n2 : D ≠ l := (ne_of_none w1.lft hD).symm
  have hHD : H D = none := by
    cases r : H D with
    | none => rfl
    | some u => rw [x1.keep D u r n1 n2] at hD; cases hD
  refine ⟨fun as H2 => as.length ≤ min vs.length ws.length ∧ ∃ I2, Ext dk l I1 H1 I2 H2 ∧ Wo dk l I2 H2 s1 ∧ I2 D = none ∧ H2 D = some (.lst (as.map V.ref)) ∧ RepL X.K I2 dk ((zipD xs ys).take as.length) (as.map V.ref), ?_, ?_, ?_, ?_⟩
  · exact ⟨Nat.zero_le _, I1, Ext.off w1 hD, w1.off (w1.sub.none hD) n1 n2, w1.sub.none hD, upd_same, by simp; rfl⟩
  · rintro as H2 T x y ⟨hle, I2, x2, w2, hI, hv, hr⟩ hT hx hy hq
    have hxl := (List.getElem?_eq_some_iff.mp hx).1
    have hyl := (List.getElem?_eq_some_iff.mp hy).1
    have hxs : as.length < xs.length := by rw [g2.length]; exact hxl
    have hys : as.length < ys.length := by rw [g4.length]; exact hyl
    obtain ⟨x', hx'⟩ : ∃ x, xs[as.length]? = some x := ⟨xs[as.length], by simp [hxs]⟩
    obtain ⟨y', hy'⟩ : ∃ y, ys[as.length]? = some y := ⟨ys[as.length], by simp [hys]⟩
    obtain ⟨xv, hxv, rx⟩ := g2.get hx'
    obtain ⟨yv, hyv, ry⟩ := g4.get hy'
    rw [hx] at hxv
    cases hxv
    rw [hy] at hyv
    cases hyv
    have xT : Ext dk l I2 H2 (upd I2 T (.tup [x, y])) (upd H2 T (.tup [x, y])) := Ext.new w2 hT
    have wT : Wo dk l (upd I2 T (.tup [x, y])) (upd H2 T (.tup [x, y])) s1 := w2.new hT
    have hTD : D ≠ T := ne_of_none hv hT
    have hI' : upd I2 T (.tup [x, y]) D = none := by rw [upd_ne hTD]; exact hI
    obtain ⟨x5, w5⟩ := fresh_off (x2.trans xT wT) wT hD n1 n2 (vs := as.map V.ref) hI' (by rw [upd_ne hTD]; exact hv) ((as ++ [T]).map V.ref)
    refine ⟨by rw [List.length_append, List.length_singleton]; omega, _, x5, w5, hI', upd_same, ?_⟩
    rw [List.length_append, List.length_singleton, zipD_take_succ xs ys as.length hx' hy', List.map_append]
    refine (RepL.mono xT.grow _ _ hr).append (RepL.one ⟨T, [x, y], rfl, upd_same, x, [y], rfl, Rep.mono (x2.grow.trans xT.grow) _ _ rx, y, [], rfl, Rep.mono (x2.grow.trans xT.grow) _ _ ry, rfl⟩)
  · rintro as H2 ⟨_, I2, x2, w2, _⟩
    exact ⟨(g1.mono x2.grow).mono w2.sub, (g3.mono x2.grow).mono w2.sub⟩
  · rintro as H2 hl2 hq ⟨_, I2, x2, w2, hI, hv, hr⟩
    have e9 : (zipD xs ys).take as.length = zipD xs ys := List.take_of_length_le (by rw [zipD_len, hl2, g2.length, g4.length]; exact Nat.le_refl _)
    rw [e9] at hr
    exact q D I2 H2 (x1.trans x2 w2) w2 hHD ⟨_, hv, hr⟩ n1 n2 hI
end
end PV

end

section
set_option maxRecDepth 100000
namespace PV
open PySem PySem.Spec PyProof.Rows L2

/-! ### dict(pairs) with tuple keys -/
def mergeT (kvs more : List (List Key × V)) : List (List Key × V) := more.foldl (fun acc kv => putK acc kv.1 kv.2) kvs
theorem length_mergeT : ∀ (more kvs : List (List Key × V)), (mergeT kvs more).length ≤ kvs.length + more.length
  | [], kvs => by show kvs.length ≤ kvs.length + 0; omega
  | p :: r, kvs => by
    have h1 := length_mergeT r (putK kvs p.1 p.2)
    have h2 := length_putK kvs p.1 p.2
    show (mergeT (putK kvs p.1 p.2) r).length ≤ _
    rw [List.length_cons]; omega
theorem KT.merge {H : Hp} : ∀ {more : List (List Key × V)} {ps : List (List Key × Addr × Value)} {kvs : List (List Key × V)} {xs : List (List Key × Addr × Value)}, KT H more ps → KT H kvs xs → KT H (mergeT kvs more) (storedAllH xs ps) := by
  intro more ps kvs xs r
  unfold KT at r
  induction r generalizing kvs xs with
  | nil => intro q; exact q
  | @cons p q ps qs h t ih =>
    intro r0
    have e : KT H (putK kvs p.1 p.2) (storedH xs q.1 q.2.1 q.2.2) := by
      rw [← h.1]
      exact r0.put p.1 h.2.1 h.2.2
    exact ih e
section
variable {X : Cx}
/-- the pairs of a list, as they stand in the heap -/
theorem pairsT_of {pins : List (Addr × Obj)} {σ : L2.St} {H : Hp} {s : Shared} (I : Inv X pins σ H s) : ∀ {ps : List Addr} {ts : List (List Key × Addr × V)}, Paired (fun p t => SqT X.K H p [.ref t.2.1, t.2.2] ∧ H t.2.1 = some (.tup (t.1.map kV))) ps ts →
    ∃ prs : List (List Key × Addr × Value), KT H (ts.map fun t => (t.1, t.2.2)) prs ∧ prs.length = ps.length ∧ (∀ (j : Nat) (q : List Key × Addr × Value), prs[j]? = some q → ∃ b : Addr, ps[j]? = some b ∧ PairAt s.heap b (.ref q.2.1) q.2.2) ∧ ∀ x ∈ prs, H x.2.1 = some (.tup (x.1.map kV))
  | _, _, .nil => ⟨[], .nil, rfl, fun j q e => by simp at e, fun x h => by simp at h⟩
  | _, _, .cons (a := p) (b := t) h r => by
    obtain ⟨prs, r1, hl, hp, hk⟩ := pairsT_of I r
    obtain ⟨its, rv, ht, _⟩ := I.tuple h.1
    obtain ⟨u, y, ei, ru, ry⟩ := vals2 rv
    subst ei
    cases ru
    refine ⟨(t.1, t.2.1, y) :: prs, .cons ⟨rfl, h.2, ry⟩ r1, by rw [List.length_cons, List.length_cons, hl], fun j q e => ?_, fun x hx => ?_⟩
    · cases j with
      | zero =>
        have e' : (t.1, t.2.1, y) = q := Option.some.inj e
        subst e'
        exact ⟨p, rfl, .inl ht⟩
      | succ j =>
        obtain ⟨b, e1, e2⟩ := hp j q (by simpa using e)
        exact ⟨b, by simpa using e1, e2⟩
    · rcases List.mem_cons.mp hx with e | hx
      · subst e; exact h.2
      · exact hk x hx
theorem call_dictT (hcalm : X.calm = true) (hu : X.A.units + 8 < cLine) : CallR X (.type "dict") (fun xs H Q => ∃ (a : Addr) (ps : List Addr) (ts : List (List Key × Addr × V)), xs = [.ref a] ∧ SqL X.K H a (ps.map V.ref) ∧ Paired (fun p t => SqT X.K H p [.ref t.2.1, t.2.2] ∧ H t.2.1 = some (.tup (t.1.map kV))) ps ts ∧
    ∀ p, H p = none → Q (.ref p) (upd H p (.dT (mergeT [] (ts.map fun t => (t.1, t.2.2)))))) := by
  intro pins s σ H xs us Q I r q
  obtain ⟨a, ps, ts, ex, hq, hp, q⟩ := q
  subst ex
  obtain ⟨u, eu, rx⟩ := vals1 r
  subst eu
  cases rx
  obtain ⟨its, rv, pl, hz⟩ := I.list hq
  have ei := refs_at rv
  subst ei
  rw [List.length_map] at hz
  obtain ⟨prs, rel, hl, hpr, hks⟩ := pairsT_of I hp
  obtain ⟨o, n, ho, hc, hd, hdat⟩ := pl
  have st := tupleKind_stays (prog := X.prog) (w := X.w) (knd := mixKind X.prog X.w)
  have his : ∀ x ∈ prs, (tupleKind (mixKind X.prog X.w)).is s.heap x.1 x.2.1 := fun x hx => key_of I.hok (hks x hx)
  refine call_dict_pairsH (knd := tupleKind (mixKind X.prog X.w)) (ps := prs) (PairArg.list (prog := X.prog) (w := X.w) a (ps.map Value.ref).toArray (fun j => ps.getD j 0) (prs.map fun x => (.ref x.2.1, x.2.2))) (I.ok.hd hcalm) ?_ ⟨⟨o, n, ho, hc, hd, hdat⟩, ?_⟩ ⟨by simp, fun i key v e => ?_⟩ (fun h' hk x hx => ?_) (by rw [List.length_map, hl]; exact hz) fun h' tk hd' k => ?_
  · exact tupleKind_room_in1 (A := X.A.in1) (by show X.A.units + 1 + 1 < cLine; omega)
  · refine ⟨by simp [hl], fun j kk v e => ?_⟩
    rw [List.getElem?_map] at e
    cases z : prs[j]? with
    | none => rw [z] at e; cases e
    | some x =>
      rw [z] at e
      cases e
      obtain ⟨b, e1, e2⟩ := hpr j x z
      have e3 : ps.getD j 0 = b := by rw [List.getD_eq_getElem?_getD, e1]; rfl
      show (List.map Value.ref ps).toArray[j]? = some (Value.ref (ps.getD j 0)) ∧ PairAt s.heap (ps.getD j 0) (Value.ref x.2.1) x.2.2
      rw [e3]
      exact ⟨by simp [e1], e2⟩
  · have e' : (prs.map fun x : List Key × Addr × Value => ((Value.ref x.2.1 : Value), x.2.2))[i]? = some (key, v) := e
    rw [List.getElem?_map] at e'
    cases z : prs[i]? with
    | none => rw [z] at e'; cases e'
    | some x =>
      rw [z] at e'
      cases e'
      exact ⟨x.1, x.2.1, rfl, rfl⟩
  · exact st.stays (fun b o' vs n' e z => hk b o' (Nat.ne_of_lt (Heap.lt_size e)) (fun y => nomatch y) e) (his x hx)
  · have hm : (s.heap.objs.size == sysModules) = false := beq_eq_false_iff_ne.mpr (Nat.ne_of_gt I.big)
    have hlen : (mergeT [] (ts.map fun t => (t.1, t.2.2))).length ≤ sizeLine := by
      refine Nat.le_trans (length_mergeT _ []) ?_
      rw [List.length_nil, Nat.zero_add, Paired.length rel, hl]
      exact hz
    have hn : H s.heap.objs.size = none := I.fresh
    obtain ⟨q1, es, ep, hq1, h2, h3, h4, _, h5⟩ := hd'
    exact ⟨.ref s.heap.objs.size, upd H s.heap.objs.size (.dT (mergeT [] (ts.map fun t => (t.1, t.2.2)))), I.laid (t' := tk) (fun b u e => k b u (fun z => nomatch z) e) (Nat.le_refl _) (show ObjOk X.prog X.w _ _ _ (.dT _) from ⟨hlen, hm, storedAllH [] prs, (KT.merge rel .nil).keeps fun c ys ec => by rw [upd_ne (ne_of_none ec hn)]; exact ec, q1, es, ep, hq1, h2, h3, h4, h5⟩), rfl, q _ hn⟩
end
/-! ### by the mirror -/
def putD {κ : Type} [DecidableEq κ] (kvs : List (κ × PV.D)) (k : κ) (v : PV.D) : List (κ × PV.D) :=
  if (kvs.any fun kv => decide (kv.1 = k)) = true then kvs.map (fun kv => if kv.1 = k then (kv.1, v) else kv) else kvs ++ [(k, v)]
def mergeD {κ : Type} [DecidableEq κ] (more : List (κ × PV.D)) : List (κ × PV.D) := more.foldl (fun acc kv => putD acc kv.1 kv.2) []
/-- the pairs that a list's items are -/
def pairsK : List PV.D → Option (List (Key × PV.D))
  | [] => some []
  | .tup [k, v] :: r => match keyD k, pairsK r with
    | some k, some rs => some ((k, v) :: rs)
    | _, _ => none
  | _ :: _ => none
def pairsT : List PV.D → Option (List (List Key × PV.D))
  | [] => some []
  | .tup [.tup ks, v] :: r => match keysD ks, pairsT r with
    | some k, some rs => some ((k, v) :: rs)
    | _, _ => none
  | _ :: _ => none
def gDictK : PV.D → Option OD
  | .lst ds => (pairsK ds).map fun kvs => .dK (mergeD kvs)
  | _ => none
def gDictT : PV.D → Option OD
  | .lst ds => (pairsT ds).map fun kvs => .dT (mergeD kvs)
  | _ => none
section
variable {K : PySem.W.Frag} {I : Hp} {dk : Addr}
theorem RepK.any {k : Key} : ∀ {kvs : List (Key × PV.D)} {ws : List (Key × V)}, RepK K I dk kvs ws → (kvs.any fun kv => decide (kv.1 = k)) = ws.any fun kv => decide (kv.1 = k)
  | [], _, h => by rw [show _ = [] from h]; rfl
  | (a, d) :: r, _, ⟨v, ws, e, h1, h2⟩ => by subst e; simp only [List.any_cons, RepK.any h2]
theorem RepT.any {k : List Key} : ∀ {kvs : List (List Key × PV.D)} {ws : List (List Key × V)}, RepT K I dk kvs ws → (kvs.any fun kv => decide (kv.1 = k)) = ws.any fun kv => decide (kv.1 = k)
  | [], _, h => by rw [show _ = [] from h]; rfl
  | (a, d) :: r, _, ⟨v, ws, e, h1, h2⟩ => by subst e; simp only [List.any_cons, RepT.any h2]
theorem RepK.app {k : Key} {d : PV.D} {v : V} (r : Rep K I dk d v) : ∀ {kvs : List (Key × PV.D)} {ws : List (Key × V)}, RepK K I dk kvs ws → RepK K I dk (kvs ++ [(k, d)]) (ws ++ [(k, v)])
  | [], _, h => by rw [show _ = [] from h]; exact ⟨v, [], rfl, r, rfl⟩
  | (a, d') :: rs, _, ⟨w, ws, e, h1, h2⟩ => by subst e; exact ⟨w, _, rfl, h1, RepK.app r h2⟩
theorem RepT.app {k : List Key} {d : PV.D} {v : V} (r : Rep K I dk d v) : ∀ {kvs : List (List Key × PV.D)} {ws : List (List Key × V)}, RepT K I dk kvs ws → RepT K I dk (kvs ++ [(k, d)]) (ws ++ [(k, v)])
  | [], _, h => by rw [show _ = [] from h]; exact ⟨v, [], rfl, r, rfl⟩
  | (a, d') :: rs, _, ⟨w, ws, e, h1, h2⟩ => by subst e; exact ⟨w, _, rfl, h1, RepT.app r h2⟩
theorem RepK.repl {k : Key} {d : PV.D} {v : V} (r : Rep K I dk d v) : ∀ {kvs : List (Key × PV.D)} {ws : List (Key × V)}, RepK K I dk kvs ws → RepK K I dk (kvs.map fun kv => if kv.1 = k then (kv.1, d) else kv) (ws.map fun kv => if kv.1 = k then (kv.1, v) else kv)
  | [], _, h => by rw [show _ = [] from h]; rfl
  | (a, d') :: rs, _, ⟨w, ws, e, h1, h2⟩ => by
    subst e
    have ih := RepK.repl (k := k) r h2
    by_cases ha : a = k
    · simp only [List.map_cons, ha, if_true]
      exact ⟨v, _, rfl, r, ih⟩
    · simp only [List.map_cons, ha, if_false]
      exact ⟨w, _, rfl, h1, ih⟩
theorem RepT.repl {k : List Key} {d : PV.D} {v : V} (r : Rep K I dk d v) : ∀ {kvs : List (List Key × PV.D)} {ws : List (List Key × V)}, RepT K I dk kvs ws → RepT K I dk (kvs.map fun kv => if kv.1 = k then (kv.1, d) else kv) (ws.map fun kv => if kv.1 = k then (kv.1, v) else kv)
  | [], _, h => by rw [show _ = [] from h]; rfl
  | (a, d') :: rs, _, ⟨w, ws, e, h1, h2⟩ => by
    subst e
    have ih := RepT.repl (k := k) r h2
    by_cases ha : a = k
    · simp only [List.map_cons, ha, if_true]
      exact ⟨v, _, rfl, r, ih⟩
    · simp only [List.map_cons, ha, if_false]
      exact ⟨w, _, rfl, h1, ih⟩
theorem RepK.put {k : Key} {d : PV.D} {v : V} {kvs : List (Key × PV.D)} {ws : List (Key × V)} (h : RepK K I dk kvs ws) (r : Rep K I dk d v) : RepK K I dk (putD kvs k d) (putK ws k v) := by
  unfold putD putK
  rw [h.any]
  by_cases hc : (ws.any fun kv => decide (kv.1 = k)) = true
  · rw [if_pos hc, if_pos hc]; exact RepK.repl r h
  · rw [if_neg hc, if_neg hc]; exact RepK.app r h
theorem RepT.put {k : List Key} {d : PV.D} {v : V} {kvs : List (List Key × PV.D)} {ws : List (List Key × V)} (h : RepT K I dk kvs ws) (r : Rep K I dk d v) : RepT K I dk (putD kvs k d) (putK ws k v) := by
  unfold putD putK
  rw [h.any]
  by_cases hc : (ws.any fun kv => decide (kv.1 = k)) = true
  · rw [if_pos hc, if_pos hc]; exact RepT.repl r h
  · rw [if_neg hc, if_neg hc]; exact RepT.app r h
theorem RepK.merge : ∀ {more : List (Key × PV.D)} {ms : List (Key × V)} {kvs : List (Key × PV.D)} {ws : List (Key × V)}, RepK K I dk more ms → RepK K I dk kvs ws → RepK K I dk (more.foldl (fun acc kv => putD acc kv.1 kv.2) kvs) (mergeK ws ms)
  | [], _, _, _, h, h' => by rw [show _ = [] from h]; exact h'
  | (a, d) :: r, _, kvs, ws, ⟨v, ms, e, h1, h2⟩, h' => by
    subst e
    show RepK K I dk (r.foldl (fun acc kv => putD acc kv.1 kv.2) (putD kvs a d)) (mergeK (putK ws a v) ms)
    exact RepK.merge (more := r) h2 (h'.put h1)
theorem RepT.merge : ∀ {more : List (List Key × PV.D)} {ms : List (List Key × V)} {kvs : List (List Key × PV.D)} {ws : List (List Key × V)}, RepT K I dk more ms → RepT K I dk kvs ws → RepT K I dk (more.foldl (fun acc kv => putD acc kv.1 kv.2) kvs) (mergeT ws ms)
  | [], _, _, _, h, h' => by rw [show _ = [] from h]; exact h'
  | (a, d) :: r, _, kvs, ws, ⟨v, ms, e, h1, h2⟩, h' => by
    subst e
    show RepT K I dk (r.foldl (fun acc kv => putD acc kv.1 kv.2) (putD kvs a d)) (mergeT (putK ws a v) ms)
    exact RepT.merge (more := r) h2 (h'.put h1)
theorem pairsK_rep {H : Hp} (sub : Sm I H) : ∀ {ds : List PV.D} {vs : List V} {kvs : List (Key × PV.D)}, RepL K I dk ds vs → pairsK ds = some kvs → ∃ (ps : List Addr) (ws : List (Key × V)), vs = ps.map V.ref ∧ Paired (fun p kv => SqT K H p [kV kv.1, kv.2]) ps ws ∧ RepK K I dk kvs ws
  | [], vs, kvs, r, h => by
    cases h
    exact ⟨[], [], by rw [show vs = [] from r]; rfl, .nil, rfl⟩
  | d :: ds, _, kvs, ⟨v, vs, e, h1, h2⟩, h => by
    subst e
    match d, h1, h with
    | .tup [k, y], h1, h =>
      simp only [pairsK] at h
      cases z1 : keyD k with
      | none => rw [z1] at h; cases h
      | some kk =>
        cases z2 : pairsK ds with
        | none => rw [z1, z2] at h; cases h
        | some rs =>
          rw [z1, z2] at h
          cases h
          obtain ⟨ps, ws, e1, e2, e3⟩ := pairsK_rep sub h2 z2
          obtain ⟨a, us, rfl, f1, f2⟩ := h1
          obtain ⟨u1, r1, rfl, g1, u2, r2, rfl, g2, g3⟩ := f2
          have g4 : r2 = [] := g3
          subst g4
          have g5 := keyD_rep g1 z1
          subst g5
          exact ⟨a :: ps, (kk, u2) :: ws, by rw [e1]; rfl, .cons (SqT.of (sub _ _ f1)) e2, ⟨u2, ws, rfl, g2, e3⟩⟩
    | .tup [], h1, h => simp only [pairsK] at h; cases h
    | .tup [_], h1, h => simp only [pairsK] at h; cases h
    | .tup (_ :: _ :: _ :: _), h1, h => simp only [pairsK] at h; cases h
    | .non, h1, h => simp only [pairsK] at h; cases h
    | .bl _, h1, h => simp only [pairsK] at h; cases h
    | .int _, h1, h => simp only [pairsK] at h; cases h
    | .str _, h1, h => simp only [pairsK] at h; cases h
    | .lst _, h1, h => simp only [pairsK] at h; cases h
    | .dK _, h1, h => simp only [pairsK] at h; cases h
    | .dT _, h1, h => simp only [pairsK] at h; cases h
    | .deck, h1, h => simp only [pairsK] at h; cases h
    | .exc _ _, h1, h => simp only [pairsK] at h; cases h
theorem pairsT_inv {d : PV.D} {ds : List PV.D} {kvs : List (List Key × PV.D)} (h : pairsT (d :: ds) = some kvs) : ∃ ks y k rs, d = .tup [.tup ks, y] ∧ keysD ks = some k ∧ pairsT ds = some rs ∧ kvs = (k, y) :: rs := by
  have go : ∀ (es : List PV.D), d = .tup es → ∃ ks y k rs, d = .tup [.tup ks, y] ∧ keysD ks = some k ∧ pairsT ds = some rs ∧ kvs = (k, y) :: rs := fun es he => by
    subst he
    rcases es with _ | ⟨a, _ | ⟨b, _ | ⟨c, r⟩⟩⟩
    · simp only [pairsT] at h; cases h
    · cases a <;> (simp only [pairsT] at h; cases h)
    · cases a with
      | tup ks =>
        simp only [pairsT] at h
        cases z1 : keysD ks with
        | none => rw [z1] at h; cases h
        | some k =>
          cases z2 : pairsT ds with
          | none => rw [z1, z2] at h; cases h
          | some rs =>
            rw [z1, z2] at h
            cases h
            exact ⟨ks, b, k, rs, rfl, z1, rfl, rfl⟩
      | _ => simp only [pairsT] at h; cases h
    · cases a <;> (simp only [pairsT] at h; cases h)
  cases d with
  | tup es => exact go es rfl
  | _ => simp only [pairsT] at h; cases h
theorem pairsT_rep {H : Hp} (sub : Sm I H) : ∀ {ds : List PV.D} {vs : List V} {kvs : List (List Key × PV.D)}, RepL K I dk ds vs → pairsT ds = some kvs → ∃ (ps : List Addr) (ts : List (List Key × Addr × V)), vs = ps.map V.ref ∧ Paired (fun p t => SqT K H p [.ref t.2.1, t.2.2] ∧ H t.2.1 = some (.tup (t.1.map kV))) ps ts ∧ RepT K I dk kvs (ts.map fun t => (t.1, t.2.2))
  | [], vs, kvs, r, h => by
    cases h
    exact ⟨[], [], by rw [show vs = [] from r]; rfl, .nil, rfl⟩
  | d :: ds, _, kvs, ⟨v, vs, e, h1, h2⟩, h => by
    subst e
    obtain ⟨ks, y, k, rs, rfl, z1, z2, rfl⟩ := pairsT_inv h
    obtain ⟨ps, ts, e1, e2, e3⟩ := pairsT_rep sub h2 z2
    obtain ⟨a, us, rfl, f1, f2⟩ := h1
    obtain ⟨u1, r1, rfl, g1, u2, r2, rfl, g2, g3⟩ := f2
    have g4 : r2 = [] := g3
    subst g4
    obtain ⟨b, bs, rfl, b1, b2⟩ := g1
    have b3 := keysD_rep b2 z1
    subst b3
    exact ⟨a :: ps, (k, b, u2) :: ts, by rw [e1]; rfl, .cons ⟨SqT.of (sub _ _ f1), sub _ _ b1⟩ e2, ⟨u2, _, rfl, g2, e3⟩⟩
end
section
variable {X : Cx} {dk l : Addr}
theorem ownD_new {I H : Hp} {s : Dk} {o : OD} {u : HO} {Q : VK} (w : Wo dk l I H s) (r : ∀ t, OwnAt X.K I (upd H t u) dk t o) (q : ∀ p I' H', Ext dk l I H I' H' → Wo dk l I' H' s → H p = none → OwnAt X.K I' H' dk p o → p ≠ dk → p ≠ l → I' p = none → Q (.ref p) H') : ∀ t, H t = none → Q (.ref t) (upd H t u) := fun t ht => by
  have n1 : t ≠ dk := (ne_of_none w.dko ht).symm
  have n2 : t ≠ l := (ne_of_none w.lft ht).symm
  have n3 : I t = none := w.sub.none ht
  exact q t I _ (Ext.off w ht) (w.off n3 n1 n2) ht (r t) n1 n2 n3
theorem c_dictK (hc : X.calm = true) : CallO X dk l (.type "dict") (g1O gDictK) := callO1 (call_dictP hc) fun I H s x v d Q w r e q => by
  cases x with
  | lst ds =>
    simp only [gDictK] at e
    cases z : pairsK ds with
    | none => rw [z] at e; cases e
    | some kvs =>
      rw [z] at e
      cases e
      obtain ⟨a, vs, rfl, h1, h2⟩ := r
      obtain ⟨ps, ws, rfl, h3, h4⟩ := pairsK_rep w.sub h2 z
      exact ⟨a, ps, ws, rfl, .of (w.sub _ _ h1), h3, ownD_new (X := X) (o := .dK (mergeD kvs)) w (fun t => ⟨_, upd_same, RepK.merge (kvs := []) (ws := []) h4 rfl⟩) q⟩
  | _ => cases e
theorem c_dictT (hc : X.calm = true) (hu : X.A.units + 8 < cLine) : CallO X dk l (.type "dict") (g1O gDictT) := callO1 (call_dictT hc hu) fun I H s x v d Q w r e q => by
  cases x with
  | lst ds =>
    simp only [gDictT] at e
    cases z : pairsT ds with
    | none => rw [z] at e; cases e
    | some kvs =>
      rw [z] at e
      cases e
      obtain ⟨a, vs, rfl, h1, h2⟩ := r
      obtain ⟨ps, ts, rfl, h3, h4⟩ := pairsT_rep w.sub h2 z
      exact ⟨a, ps, ts, rfl, .of (w.sub _ _ h1), h3, ownD_new (X := X) (o := .dT (mergeD kvs)) w (fun t => ⟨_, upd_same, RepT.merge (kvs := []) (ws := []) h4 rfl⟩) q⟩
  | _ => cases e
end
end PV

end

section
set_option maxRecDepth 100000
namespace PV
open PySem PySem.Spec PyProof.Rows L2

/-! ### the order of lists of ints -/
theorem lexLt_irr : ∀ a : List Int, HT.lexLt a a = false
  | [] => rfl
  | x :: r => by rw [HT.lexLt_cons, if_pos rfl]; exact lexLt_irr r
theorem lexLt_asym : ∀ a b : List Int, HT.lexLt a b = true → HT.lexLt b a = false
  | [], [], h => by cases h
  | [], _ :: _, _ => rfl
  | _ :: _, [], h => by cases h
  | x :: r, y :: t, h => by
    rw [HT.lexLt_cons] at h ⊢
    by_cases e : x = y
    · rw [if_pos e] at h
      rw [if_pos e.symm]
      exact lexLt_asym r t h
    · rw [if_neg e] at h
      rw [if_neg (Ne.symm e)]
      have := of_decide_eq_true h
      exact decide_eq_false (by omega)
/-- b is not below a, c not below b: c not below a -/
theorem lexLt_tr : ∀ a b c : List Int, HT.lexLt b a = false → HT.lexLt c b = false → HT.lexLt c a = false
  | [], b, c, _, _ => by cases c <;> rfl
  | x :: r, [], c, h, _ => by cases h
  | x :: r, y :: t, [], _, h => by cases h
  | x :: r, y :: t, z :: u, h1, h2 => by
    rw [HT.lexLt_cons] at h1 h2 ⊢
    by_cases e1 : y = x
    · rw [if_pos e1] at h1
      by_cases e2 : z = y
      · rw [if_pos e2] at h2
        rw [if_pos (e2.trans e1)]
        exact lexLt_tr r t u h1 h2
      · rw [if_neg e2] at h2
        rw [if_neg (fun z => e2 (z.trans e1.symm))]
        rw [← e1]
        exact h2
    · rw [if_neg e1] at h1
      have d1 := of_decide_eq_false h1
      by_cases e2 : z = y
      · rw [e2, if_neg e1]
        exact h1
      · rw [if_neg e2] at h2
        have d2 := of_decide_eq_false h2
        rw [if_neg (by omega)]
        exact decide_eq_false (by omega)
theorem swo_lexLt {α : Type} (k : α → List Int) : SrtO.Swo fun x y => HT.lexLt (k x) (k y) := ⟨fun x y h => lexLt_asym _ _ h, fun x y z h1 h2 => lexLt_tr _ _ _ h1 h2⟩
section
variable {prog : Program} {w : World} {A : Around} {E : Value → Shared → Prop} {s : Shared}
abbrev TI (h : Heap) (v : Value) (ns : List Int) : Prop := TS.TupInts h v ns
theorem cmp_one (hu : A.units < cLine) {v u : Value} {ns ms : List Int} {Q : Bool → Shared → Prop} (hv : TI s.heap v ns) (hw : TI s.heap u ms) (h : Q (HT.lexLt ns ms) s) : wpAny (model prog w) A (keyLt' oneType' v u) Q E s := by
  obtain ⟨a, xs, rfl, ta, ia⟩ := hv
  obtain ⟨b, ys, rfl, tb, ib⟩ := hw
  obtain ⟨⟨cls, dd, data, sl⟩, ho, hc, n, hd⟩ := ta
  obtain ⟨⟨cls2, dd2, data2, sl2⟩, ho2, hc2, n2, hd2⟩ := tb
  simp only at hc hd hc2 hd2
  subst hc hd hc2 hd2
  rw [keyLt'_oneType, oneLt'_eq]
  simp only [if_true]
  refine wpAny_bind (wpAny_cRoomFor hu ?_)
  refine wpAny_bind (wpAny_callSpecialIfBound?_slot (T := "tuple") ⟨_, ho, rfl⟩ PySem.F.slot_tuple_lt (call_meets PySem.F.slot_tuple_lt ⟨_, ho, rfl⟩ PySem.F.entry_tuple_lt (PySem.F.args_tuple_lt_2 _ _) (HT.tuple_lt_ints a b xs ys n n2 dd dd2 sl sl2 ns ms ia ib) ⟨ho, ho2, ?_⟩))
  exact wpAny_truthy_bool h
theorem cmp_gen (hu : A.units < cLine) {v u : Value} {ns ms : List Int} {Q : Bool → Shared → Prop} (hv : TI s.heap v ns) (hw : TI s.heap u ms) (h : Q (HT.lexLt ns ms) s) : wpAny (model prog w) A (keyLt' general' v u) Q E s := by
  obtain ⟨a, xs, rfl, ta, ia⟩ := hv
  obtain ⟨b, ys, rfl, tb, ib⟩ := hw
  exact PySem.W.kat_one _ _ (HT.lt_tupInts ta tb ia ib hu h)
theorem lex_go {b : Bool} {Q : Bool → Shared → Prop} : ∀ {xs ys : List Value} {ns ms : List Int} (i : Nat), IntsAre xs ns → IntsAre ys ms → ∀ (fin : Bool), (∀ k, ns = k ++ [] → True) → (fin = decide (ns.length < ms.length)) → Q (HT.lexLt ns ms) s → PySem.W.KatLex prog w A b fin Q (xs.zip ys) i s := by
  intro xs ys ns ms i hx hy fin _ hf h
  induction hx generalizing ys ms i with
  | nil =>
    cases hy with
    | nil =>
      refine PySem.W.kat_nil ?_
      rw [hf]
      exact h
    | @cons c u _ ms' t =>
      refine PySem.W.kat_nil ?_
      rw [hf]
      have e : decide (([] : List Int).length < (c :: ms').length) = true := decide_eq_true (by simp)
      rw [e]
      exact h
  | @cons a t _ ns' r ih =>
    cases hy with
    | nil =>
      rw [List.zip_nil_right]
      refine PySem.W.kat_nil ?_
      rw [hf]
      have e : decide ((a :: ns').length < ([] : List Int).length) = false := decide_eq_false (by simp)
      rw [e]
      exact h
    | cons c u r2 =>
      rw [HT.lexLt_cons] at h
      rw [List.zip_cons_cons]
      refine PySem.W.kat_cons ?_
      obtain ⟨e, he, hiff⟩ := HT.eqAt_int A s a t c u
      refine he prog w _ _ ?_
      refine PySem.W.kat_go (fun e1 => ?_) fun e1 => ?_
      · rw [if_pos (hiff.mp e1)] at h
        exact PySem.W.kat_yes (ih (i + 1) r2 (fun _ _ => trivial) (by rw [hf]; simp) h)
      · rw [if_neg (fun q => by rw [hiff.mpr q] at e1; cases e1)] at h
        exact PySem.W.kat_no (oneLt_any_int h)
theorem cmp_tup {v u : Value} {ns ms : List Int} {Q : Bool → Shared → Prop} {b : Bool} (hv : TI s.heap v ns) (hw : TI s.heap u ms) (h : Q (HT.lexLt ns ms) s) : wpAny (model prog w) A (keyLt' (tuples' b) v u) Q E s := by
  obtain ⟨a, xs, rfl, ⟨o, ho, hc, n, hd⟩, ia⟩ := hv
  obtain ⟨c, ys, rfl, ⟨o2, ho2, hc2, n2, hd2⟩, ib⟩ := hw
  refine PySem.W.kat_lt ho hd ho2 hd2 ?_
  have l1 := ia.length
  have l2 := ib.length
  rw [Array.length_toList] at l1 l2
  exact lex_go 0 ia ib _ (fun _ _ => trivial) (by rw [l1, l2]) h
/-- the first items of the keys -/
theorem firstsO {M : Model} {B : Around} : ∀ (vs : List Value) {Q : List (Option Value) → Shared → Prop}, (∀ v ∈ vs, ∃ ns, TI s.heap v ns) →
    (∀ fs : List (Option Value), fs.length = vs.length → (∀ (i : Nat) (v : Value), vs[i]? = some v → ∃ (a : Addr) (xs : Array Value), v = .ref a ∧ IsTup s.heap a xs ∧ fs[i]? = some xs[0]?) → Q fs s) → wpAny M B (vs.mapM firstOfTuple') Q E s
  | [], Q, _, h => by rw [List.mapM_nil]; exact wpAny_pure (h [] rfl fun i v e => by simp at e)
  | v :: vs, Q, t, h => by
    obtain ⟨ns, a, xs, rfl, ⟨o, ho, hc, n, hd⟩, _⟩ := t v List.mem_cons_self
    rw [List.mapM_cons]
    refine wpAny_bind ?_
    rw [PySem.W.kas_first_eq]
    refine wpAny_bind (PySem.W.Looks.here (show PySem.W.Looks M s.heap (typeOf (.ref a)) o.cls from (PySem.W.Looks.ld ho).andThen .now) ?_)
    rw [hc, if_neg (by first | decide | simp)]
    refine wpAny_bind (listItems_at ho hd (wpAny_pure ?_))
    refine wpAny_bind (firstsO vs (Q := fun bs s' => wpAny M B (pure (xs[0]? :: bs)) Q E s') (fun u hu => t u (List.mem_cons_of_mem _ hu)) fun fs hl hf => wpAny_pure (h _ (by simp [hl]) fun i u e => ?_))
    cases i with
    | zero =>
      cases e
      exact ⟨a, xs, rfl, ⟨o, ho, hc, n, hd⟩, rfl⟩
    | succ i => simpa using hf i u (by simpa using e)
/-- all keys have items -/
theorem firsts_all : ∀ (vs : List Value), (∀ v ∈ vs, ∃ ns, TI s.heap v ns ∧ ns ≠ []) → ∃ fs, PySem.W.KatTups s.heap vs fs ∧ fs.length = vs.length ∧ ∀ f, f ∈ fs → ∃ n t, f = Value.int n t
  | [], _ => ⟨[], PySem.W.KatTups.nil, rfl, fun f hf => by simp at hf⟩
  | v :: vs, x => by
    obtain ⟨fs, k, hl, hi⟩ := firsts_all vs fun u hu => x u (List.mem_cons_of_mem _ hu)
    obtain ⟨ns, ⟨a, xs, rfl, ⟨o, ho, hc, n, hdt⟩, i⟩, hn⟩ := x v (List.mem_cons_self ..)
    obtain ⟨m, r, rfl⟩ : ∃ m r, ns = m :: r := by
      cases ns with
      | nil => exact absurd rfl hn
      | cons m r => exact ⟨m, r, rfl⟩
    obtain ⟨t, ht⟩ := i.get 0 m rfl
    have ht' : xs[0]? = some (Value.int m t) := by simpa using ht
    exact ⟨Value.int m t :: fs, PySem.W.KatTups.cons ho hc hdt ht' k, by simp [hl], fun f hf => by
      rcases List.mem_cons.mp hf with e | hf
      · exact ⟨m, t, e⟩
      · exact hi f hf⟩
theorem tup_kind1 {vs : List Value} {Q : SortKind → Shared → Prop} (h2 : 2 ≤ vs.length) (x : ∀ v ∈ vs, ∃ ns, TI s.heap v ns ∧ ns ≠ []) (h : Q (tuples' true) s) : wpAny (model prog w) A (keyKind' vs.toArray) Q E s := by
  obtain ⟨fs, h1, hl, h3⟩ := firsts_all vs x
  refine PySem.W.kat_kind (T := .type "int") h1 (by omega) (fun f hm => ?_) (by rfl) ?_
  · obtain ⟨x, t, rfl⟩ := h3 f hm
    exact PySem.W.Looks.now
  · have e : (Value.type "int" != Value.type "tuple") = true := by first | decide +kernel | rfl | decide
    rw [e]
    exact h
theorem tup_kind2 {vs : List Value} {Q : SortKind → Shared → Prop} (x : ∀ v ∈ vs, ∃ ns, TI s.heap v ns) {j : Nat} {u : Value} (hj : vs[j]? = some u) (hu : TI s.heap u [])
    (h : ∀ v0 ns, vs[0]? = some v0 → TI s.heap v0 ns → Q (if ns = [] then oneType' else general') s) : wpAny (model prog w) A (keyKind' vs.toArray) Q E s := by
  rw [kat_kind_eq, List.mapM_toArray, map_eq_pure_bind]
  have none_of : ∀ (a : Addr) (xs : Array Value) (ns : List Int), IsTup s.heap a xs → TI s.heap (.ref a) ns → (xs[0]? = none ↔ ns = []) := fun a xs ns hT h => by
    obtain ⟨a', ys, ev2, hT2, hi2⟩ := h
    cases ev2
    have exy : xs = ys := by
      obtain ⟨o, h1, _, n1, d1⟩ := hT
      obtain ⟨o', h1', _, n2, d2⟩ := hT2
      rw [h1] at h1'
      cases h1'
      rw [d1] at d2
      cases d2
      rfl
    subst exy
    have hl := hi2.length
    rw [Array.length_toList] at hl
    constructor
    · intro e
      have : xs.size = 0 := by
        rcases Nat.eq_zero_or_pos xs.size with z | z
        · exact z
        · simp [Array.getElem?_eq_getElem z] at e
      exact List.eq_nil_of_length_eq_zero (by omega)
    · intro e
      subst e
      have h9 : xs.size = 0 := hl
      exact Array.getElem?_eq_none (by omega)
  refine wpAny_bind (wpAny_bind (firstsO vs x fun fs hl hf => wpAny_pure ?_))
  have isT : ∀ v ∈ vs, PySem.W.Looks (model prog w) s.heap (typeOf v) (.type "tuple") := fun v hv => by
    obtain ⟨ns, a, xs, rfl, ⟨o, ho, hc, _⟩, _⟩ := x v hv
    have q : PySem.W.Looks (model prog w) s.heap (typeOf (.ref a)) o.cls := (PySem.W.Looks.ld ho).andThen .now
    rw [hc] at q
    exact q
  obtain ⟨v0, r0, e0⟩ : ∃ v0 r0, vs = v0 :: r0 := by
    cases vs with
    | nil => simp at hj
    | cons a b => exact ⟨a, b, rfl⟩
  have h0v : vs[0]? = some v0 := by rw [e0]; rfl
  have hall : (fs.toArray.all fun x => x.isSome) = false := by
    obtain ⟨a, xs, ev, hT, hx⟩ := hf j u hj
    subst ev
    rw [(none_of a xs [] hT hu).mpr rfl] at hx
    cases hb : (fs.toArray.all fun x => x.isSome) with
    | false => rfl
    | true =>
      rw [List.all_toArray, List.all_eq_true] at hb
      have := hb none (List.mem_of_getElem? hx)
      cases this
  rw [hall, if_neg Bool.false_ne_true]
  obtain ⟨ns0, hn0⟩ := x v0 (by rw [e0]; exact List.mem_cons_self)
  obtain ⟨a, xs, ev, hT, hx⟩ := hf 0 v0 h0v
  subst ev
  have hx' : fs.toArray[0]? = some xs[0]? := by simpa using hx
  have hq := h (.ref a) ns0 h0v hn0
  rw [hx']
  by_cases hz : ns0 = []
  · rw [if_pos hz] at hq
    rw [(none_of a xs ns0 hT hn0).mpr hz]
    rw [if_neg (by simp), oneTypeOnly'_eq, List.mapM_toArray, map_eq_pure_bind]
    refine wpAny_bind (wpAny_bind (wpAny_bind (PySem.W.kas_mapM (r := Value.type "tuple") _ (fun v hv Q' hq => (isT v hv).here hq) (wpAny_pure ?_))))
    have hall2 : ((List.map (fun _ => Value.type "tuple") vs).toArray.all fun x => x == Value.type "tuple") = true := by
      simp only [List.all_toArray, List.all_map, List.all_eq_true]
      intro _ _
      rfl
    have h0 : (List.map (fun _ => Value.type "tuple") vs).toArray[0]? = some (Value.type "tuple") := by rw [e0]; simp
    rw [h0]
    simp only [hall2, if_true]
    exact wpAny_pure (wpAny_pure hq)
  · rw [if_neg hz] at hq
    cases hy : xs[0]? with
    | none => exact absurd ((none_of a xs ns0 hT hn0).mp hy) hz
    | some y =>
      rw [if_pos (by rfl)]
      exact wpAny_pure hq
/-- sortable -/
theorem tup_sortable (hu : A.units < cLine) {a : Addr} {vs : List Value} (k : Value → List Int) (h2 : 2 ≤ vs.length) (x : ∀ v ∈ vs, TI s.heap v (k v)) (ha : ∀ o, s.heap.get? a = some o → o.cls ≠ .type "tuple") : SrtO.SortableO prog w A s a vs fun v u => HT.lexLt (k v) (k u) := by
  intro h' keep
  have x' : ∀ v ∈ vs, TI h' v (k v) := fun v hm => (x v hm).keeps fun b o e c => keep b o (fun z => by subst z; exact ha o e c) e
  have key : ∀ κ : SortKind, (κ = general' ∨ κ = oneType' ∨ ∃ b, κ = tuples' b) → SrtO.Cmp prog w A { s with heap := h' } κ (fun p => p.1 ∈ vs) (SrtO.lt2 fun v u => HT.lexLt (k v) (k u)) := fun κ hκ p q hp hq => by
    rcases hκ with rfl | rfl | ⟨b, rfl⟩
    · exact cmp_gen (s := { s with heap := h' }) hu (x' _ hp) (x' _ hq) ⟨rfl, rfl⟩
    · exact cmp_one (s := { s with heap := h' }) hu (x' _ hp) (x' _ hq) ⟨rfl, rfl⟩
    · exact cmp_tup (s := { s with heap := h' }) (x' _ hp) (x' _ hq) ⟨rfl, rfl⟩
  by_cases hA : ∀ v ∈ vs, k v ≠ []
  · exact ⟨tuples' true, fun Q E hq => tup_kind1 (s := { s with heap := h' }) h2 (fun v hv => ⟨_, x' v hv, hA v hv⟩) hq, key _ (.inr (.inr ⟨_, rfl⟩))⟩
  · obtain ⟨u, hum, hu0⟩ : ∃ u, u ∈ vs ∧ k u = [] := by
      refine Classical.byContradiction fun hn => hA fun v hv e => hn ⟨v, hv, e⟩
    obtain ⟨j, hj⟩ := List.getElem?_of_mem hum
    have hu' : TI h' u [] := by rw [← hu0]; exact x' u hum
    obtain ⟨v0, r0, e0⟩ : ∃ v0 r0, vs = v0 :: r0 := by
      cases vs with
      | nil => simp at h2
      | cons a b => exact ⟨a, b, rfl⟩
    have ints1 : ∀ {ns ms : List Int}, TI h' v0 ns → TI h' v0 ms → ns = ms := fun h1 h2 => h1.ints.symm.trans h2.ints
    refine ⟨if k v0 = [] then oneType' else general', fun Q E hq => tup_kind2 (s := { s with heap := h' }) (fun v hv => ⟨_, x' v hv⟩) hj hu' fun v1 ns h1 hn => ?_, key _ ?_⟩
    · rw [e0] at h1
      cases h1
      rw [ints1 hn (x' v0 (by rw [e0]; exact List.mem_cons_self))]
      exact hq
    · by_cases hz : k v0 = []
      · rw [if_pos hz]; exact .inr (.inl rfl)
      · rw [if_neg hz]; exact .inl rfl
end
/-! ### sorted(..) over the layer -/
theorem perm_srtd_eq {α : Type} {lt : α → α → Bool} (tot : ∀ x y, lt x y = false → lt y x = false → x = y) : ∀ {l m : List α}, l.Perm m → l.Pairwise (fun x y => lt y x = false) → m.Pairwise (fun x y => lt y x = false) → l = m := by
  intro l
  induction l with
  | nil => intro m h _ _; exact (List.Perm.nil_eq h)
  | cons a l ih =>
    intro m h h1 h2
    cases m with
    | nil => exact absurd h.length_eq (by simp)
    | cons b m =>
      have hab : a = b := by
        have h1' := List.pairwise_cons.mp h1
        have h2' := List.pairwise_cons.mp h2
        rcases List.mem_cons.mp (h.mem_iff.mp List.mem_cons_self) with e | ha
        · exact e
        · rcases List.mem_cons.mp (h.mem_iff.mpr (List.mem_cons_self (a := b) (l := m))) with e | hb
          · exact e.symm
          · exact tot a b (h2'.1 a ha) (h1'.1 b hb)
      subst hab
      rw [ih ((List.perm_cons a).mp h) (List.pairwise_cons.mp h1).2 (List.pairwise_cons.mp h2).2]
theorem lexLt_tot : ∀ a b : List Int, HT.lexLt a b = false → HT.lexLt b a = false → a = b
  | [], [], _, _ => rfl
  | [], _ :: _, h, _ => by cases h
  | _ :: _, [], _, h => by cases h
  | x :: r, y :: t, h1, h2 => by
    rw [HT.lexLt_cons] at h1 h2
    by_cases e : x = y
    · rw [if_pos e] at h1
      rw [if_pos e.symm] at h2
      rw [e, lexLt_tot r t h1 h2]
    · rw [if_neg e] at h1
      rw [if_neg (Ne.symm e)] at h2
      have := of_decide_eq_false h1
      have := of_decide_eq_false h2
      omega
/-- the lists of ints in their order -/
def sortL (nss : List (List Int)) : List (List Int) := nss.mergeSort fun a b => !HT.lexLt b a
theorem sortL_perm (nss : List (List Int)) : (sortL nss).Perm nss := List.mergeSort_perm ..
theorem sortL_sorted (nss : List (List Int)) : (sortL nss).Pairwise fun a b => HT.lexLt b a = false := by
  have h := List.pairwise_mergeSort (le := fun a b : List Int => !HT.lexLt b a) (fun a b c h1 h2 => by
    simp only [Bool.not_eq_true'] at h1 h2 ⊢
    exact lexLt_tr a b c h1 h2) (fun a b => by
    cases h : HT.lexLt b a with
    | false => simp
    | true => simp [lexLt_asym b a h]) nss
  exact h.imp fun h => by simpa using h
def tupI (ns : List Int) : D := .tup (ns.map D.int)
def tupIs? : List D → Option (List (List Int))
  | [] => some []
  | .tup ds :: r => match ints? ds, tupIs? r with
    | some ns, some rs => some (ns :: rs)
    | _, _ => none
  | _ :: _ => none
section
variable {X : Cx} {dk l : Addr}
theorem tupIs_rep {K : PySem.W.Frag} {I H : Hp} (sub : Sm I H) : ∀ {ds : List D} {vs : List V} {nss : List (List Int)}, RepL K I dk ds vs → tupIs? ds = some nss → ∃ ts : List (Addr × List Int), vs = ts.map (fun p => V.ref p.1) ∧ nss = ts.map (·.2) ∧ ∀ p ∈ ts, I p.1 = some (.tup (p.2.map V.int))
  | [], vs, nss, r, h => by cases h; exact ⟨[], r, rfl, fun p h => by simp at h⟩
  | d :: ds, _, nss, ⟨v, vs, e, h1, h2⟩, h => by
    subst e
    cases d with
    | tup es =>
      simp only [tupIs?] at h
      cases z1 : ints? es with
      | none => rw [z1] at h; cases h
      | some ns =>
        cases z2 : tupIs? ds with
        | none => rw [z1, z2] at h; cases h
        | some rs =>
          rw [z1, z2] at h
          cases h
          obtain ⟨ts, e1, e2, e3⟩ := tupIs_rep sub h2 z2
          obtain ⟨a, us, rfl, f1, f2⟩ := h1
          rw [ints?_eq z1] at f2
          rw [f2.ints_of] at f1
          exact ⟨(a, ns) :: ts, by rw [e1]; rfl, by rw [e2]; rfl, fun p hp => by
            rcases List.mem_cons.mp hp with q | q
            · subst q; exact f1
            · exact e3 p q⟩
    | _ => simp only [tupIs?] at h; cases h
def ownTs (ts : List (Addr × List Int)) : List V := ts.map fun p => V.ref p.1
/-- sorted(xs), xs a list of tuples of ints -/
def rSortL (K : PySem.W.Frag) : List V → Hp → VK → Prop := fun vs H Q => ∃ (a : Addr) (ts : List (Addr × List Int)), vs = [V.ref a] ∧ SqL K H a (ownTs ts) ∧ (∀ p ∈ ts, H p.1 = some (.tup (p.2.map V.int))) ∧
  ∀ (us : List (Addr × List Int)) (p : Addr), (∀ q ∈ us, q ∈ ts) → us.map (·.2) = sortL (ts.map (·.2)) → H p = none → Q (.ref p) (upd H p (.lst (ownTs us)))
theorem vals_ownTs : ∀ {ts : List (Addr × List Int)} {us : List Value}, Vals (ownTs ts) us → us = ts.map fun p => Value.ref p.1
  | [], us, r => by cases r; rfl
  | t :: ts, us, r => by
    have r' : Vals (V.ref t.1 :: ownTs ts) us := r
    cases r' with
    | cons h q =>
      cases h
      rw [List.map_cons, ← vals_ownTs q]
theorem ownTs_vals : ∀ ts : List (Addr × List Int), Vals (ownTs ts) (ts.map fun p => Value.ref p.1)
  | [] => .nil
  | _ :: ts => .cons rfl (ownTs_vals ts)
theorem cr_sortL (hu : X.A.units + 8 < cLine) : CallR X (.builtin "sorted") (rSortL X.K) := by
  intro pins s σ H vs us Q I r h
  obtain ⟨a, ts, rfl, hs, hx, q⟩ := h
  obtain ⟨its, rv, hl, hz⟩ := I.list hs
  rw [Vals.ref1 r]
  have ei := vals_ownTs rv
  subst ei
  have ti : ∀ p ∈ ts, TI s.heap (.ref p.1) p.2 := fun p hp => by
    obtain ⟨its, rv, hT, _⟩ := I.tuple (SqT.of (K := X.K) (hx p hp))
    exact ⟨p.1, its.toArray, rfl, hT, by simpa using rv.ints⟩
  have tiv : ∀ v ∈ (ts.map fun p => Value.ref p.1), TI s.heap v (TS.intsOf s.heap v) := fun v hv => by
    obtain ⟨p, hp, rfl⟩ := List.mem_map.mp hv
    have := ti p hp
    rw [this.ints]
    exact this
  have hlen : (ts.map fun p => Value.ref p.1).length ≤ sizeLine := by
    have h1 := rv.length
    rw [← h1]
    exact hz
  refine SrtO.sorted_ord (swo_lexLt (TS.intsOf s.heap)) hl.isList hlen (fun h2 h₁ b hb kk => ?_) fun out hs hb => ?_
  · refine tup_sortable (s := { s with heap := h₁ }) (k := TS.intsOf s.heap) (by show X.A.units + 1 + 1 < cLine; omega) h2 (fun v hm => (tiv v hm).keeps fun b o e _ => (kk b o e).2) fun o e => ?_
    have e' : some o = some (seqObj "list" _ 0) := e.symm.trans hb
    cases e'
    intro c
    exact absurd (Value.type.inj c) (by decide)
  · have hp := hb.perm
    have mem : ∀ v ∈ out, ∃ p ∈ ts, v = Value.ref p.1 := fun v hv => by
      obtain ⟨p, hp, e⟩ := List.mem_map.mp (hp.mem_iff.mp hv)
      exact ⟨p, hp, e.symm⟩
    have lift : ∀ (o : List Value), (∀ v ∈ o, ∃ p ∈ ts, v = Value.ref p.1) → ∃ us : List (Addr × List Int), (∀ q ∈ us, q ∈ ts) ∧ o = us.map fun p => Value.ref p.1 := fun o => by
      induction o with
      | nil => exact fun _ => ⟨[], fun q h => by simp at h, rfl⟩
      | cons v o ih =>
        intro h
        obtain ⟨us, h1, h2⟩ := ih fun u hu => h u (List.mem_cons_of_mem _ hu)
        obtain ⟨p, hp, e⟩ := h v List.mem_cons_self
        exact ⟨p :: us, fun q hq => by
          rcases List.mem_cons.mp hq with z | z
          · subst z; exact hp
          · exact h1 q z, by rw [List.map_cons, ← h2, e]⟩
    obtain ⟨us, hus, eo⟩ := lift out mem
    subst eo
    have hints : ∀ zs : List (Addr × List Int), (∀ q ∈ zs, q ∈ ts) → (zs.map fun p => Value.ref p.1).map (TS.intsOf s.heap) = zs.map (·.2) := fun zs hz => by
      rw [List.map_map]
      exact List.map_congr_left fun p hp => (ti p (hz p hp)).ints
    have e1 : us.map (·.2) = sortL (ts.map (·.2)) := by
      refine perm_srtd_eq (lt := HT.lexLt) (fun x y h1 h2 => lexLt_tot x y h1 h2) ?_ ?_ (sortL_sorted _)
      · have h3 := hp.map (TS.intsOf s.heap)
        rw [hints us hus, hints ts fun q h => h] at h3
        exact h3.trans (sortL_perm _).symm
      · have h4 : ((us.map fun p => Value.ref p.1).map (TS.intsOf s.heap)).Pairwise fun a b => HT.lexLt b a = false := List.pairwise_map.mpr hs
        rw [hints us hus] at h4
        exact h4
    obtain ⟨ep, he'⟩ := sortedAll_at s.heap (ts.map fun p => Value.ref p.1) (us.map fun p => Value.ref p.1).toArray
    have hul : (ownTs us).length ≤ sizeLine := by
      have : us.length = ts.length := by
        have := hp.length_eq
        simpa using this
      unfold ownTs
      rw [List.length_map, this]
      simpa using hlen
    exact ⟨.ref _, upd H (s.heap.objs.size + 1) (.lst (ownTs us)), I.laid (t' := s.toks) (fun _ _ => sortedAll_old) (Nat.le_succ _) ⟨hul, us.map fun p => Value.ref p.1, ep, ownTs_vals us, by simpa using he'⟩, rfl, q us _ hus e1 (I.hok.fresh (Nat.le_succ _))⟩
def sortedT : D → Option OD
  | .lst ds => (tupIs? ds).map fun nss => .lst ((sortL nss).map tupI)
  | _ => none
theorem c_sortedT (hu : X.A.units + 8 < cLine) : CallO X dk l (.builtin "sorted") (g1O sortedT) := callO1 (cr_sortL hu) fun I H s x v d Q w r e q => by
  cases x with
  | lst ds =>
    simp only [sortedT] at e
    cases z : tupIs? ds with
    | none => rw [z] at e; cases e
    | some nss =>
      rw [z] at e
      cases e
      obtain ⟨a, vs, rfl, h1, h2⟩ := r
      obtain ⟨ts, rfl, rfl, h3⟩ := tupIs_rep w.sub h2 z
      refine ⟨a, ts, rfl, .of (w.sub _ _ h1), fun p hp => w.sub _ _ (h3 p hp), fun us p hus e1 hp => ?_⟩
      have q' : ∀ p I' H', Ext dk l I H I' H' → Wo dk l I' H' s → H p = none → OwnAt X.K I' H' dk p (.lst ((sortL (ts.map (·.2))).map tupI)) → p ≠ dk → p ≠ l → I' p = none → Q (.ref p) H' := q
      rw [← e1] at q'
      refine own_new w ?_ q' p hp
      have go : ∀ zs : List (Addr × List Int), (∀ q ∈ zs, q ∈ ts) → RepL X.K I dk ((zs.map (·.2)).map tupI) (ownTs zs) := fun zs => by
        induction zs with
        | nil => exact fun _ => rfl
        | cons z zs ih => exact fun hz => ⟨V.ref z.1, ownTs zs, rfl, ⟨z.1, _, rfl, h3 z (hz z List.mem_cons_self), RepL.ints _⟩, ih fun q hq => hz q (List.mem_cons_of_mem _ hq)⟩
      exact go us hus
  | _ => cases e
end
end PV

end

section
set_option maxRecDepth 100000
namespace PV
open PySem PySem.Spec PyProof.Rows L2
section
variable {X : Cx} {dk l : Addr} {W : WX} {pos : Pos}
/-! ### [x, ..] * n: a new list of one's own -/
def eOpO (g : D → D → Option OD) (a b : En → M D) : En → M OD := fun env => andThen (a env) fun x => andThen (b env) fun y => opt (g x y)
def gRepO : D → D → Option OD
  | .lst a, .int k => if 0 ≤ k ∧ k ≤ 1000 ∧ a.length ≤ 1000 then some (.lst (List.replicate k.toNat a).flatten) else none
  | _, _ => none
theorem r_repO {a b : Expr} {ma mb : En → M D} (ha : PE X a (lift X.K dk l W ma)) (hb : PE X b (lift X.K dk l W mb)) : PE X (.BinOp a .Mult b pos) (liftO X.K dk l W (eOpO gRepO ma mb)) := PE_imp (pe_op op_rep ha hb) fun σ H Q ⟨I, env, s, e, w, q⟩ => by
  refine ⟨I, env, s, e, w, q.bind.mono (fun x s1 q v I1 H1 x1 w1 r1 => ?_) fun _ _ _ h => h⟩
  refine ⟨I1, env, s1, e.ext x1, w1, q.bind.mono (fun y s2 q u I2 H2 x2 w2 r2 => ?_) fun _ _ _ h => h.shift x1⟩
  obtain ⟨o, e3, q⟩ := q.opt
  cases x with
  | lst ds =>
    cases y with
    | int k =>
      simp only [gRepO] at e3
      by_cases hc : 0 ≤ k ∧ k ≤ 1000 ∧ ds.length ≤ 1000
      · rw [if_pos hc] at e3
        cases e3
        obtain ⟨p, vs, rfl, h1, h2⟩ := Rep.mono x2.grow _ _ r1
        refine ⟨p, k, vs, rfl, r2, w2.sub _ _ h1, by omega, by omega, ?_, fun t ht => ?_⟩
        · rw [← h2.length]
          have h4 : ds.length * k.toNat ≤ 1000 * 1000 := Nat.mul_le_mul hc.2.2 (by omega)
          exact Nat.le_trans h4 (by decide)
        · refine own_new w2 (h2.rep k.toNat) (fun p I' H' x3 w3 hp ho n1 n2 n3 => q p I' H' ((x1.trans x2 w2).trans x3 w3) w3 ?_ ho n1 n2 n3) t ht
          cases z : H p with
          | none => rfl
          | some o =>
            have := (x1.trans x2 w2).keep p o z n1 n2
            rw [hp] at this
            cases this
      · rw [if_neg hc] at e3; cases e3
    | _ => cases e3
  | _ => cases e3
/-! ### xs.index(i) -/
def indexD : D → D → Option D
  | .lst ds, .int i => (ints? ds).bind fun ns => if i ∈ ns then some (.int (ns.idxOf i)) else none
  | _, _ => none
def eIndex (a b : En → M D) : En → M D := fun env => andThen (a env) fun x => match x with
  | .lst ds => andThen (b env) fun y => opt (indexD (.lst ds) y)
  | _ => bad
theorem eqV_int (i j : Int) : eqV (.int i) (.int j) = decide (i = j) := by
  by_cases h : i = j
  · subst h; simp [eqV]
  · simp [eqV, h]
theorem idx_le : ∀ (ns : List Int) (m : Nat) (h : m < ns.length), ns.idxOf ns[m] ≤ m
  | [], m, h => by simp at h
  | x :: ns, 0, h => by simp [List.idxOf_cons]
  | x :: ns, m + 1, h => by
    have ih := idx_le ns m (by simpa using h)
    simp only [List.getElem_cons_succ, List.idxOf_cons]
    generalize (x == ns[m]'(by simpa using h)) = c
    cases c <;> simp <;> omega
theorem flat_all (ns : List Int) : (ns.map V.int).all flatV = true := flat_ints ns
theorem r_index {o e : Expr} {apos cpos : Pos} {mo me : En → M D} (ho : PE X o (lift X.K dk l W mo)) (he : PE X e (lift X.K dk l W me))
    (hbase : attributeBase o "index" X.env (eval o X.env) = eval o X.env := by rfl)
    (hfew : ((backTo cpos (starEach [e] X.env)).all (fun x => !x.1) && (backToKw cpos (keywordEach [] X.env)).all (fun x => x.1.isSome)
      && decide ([e].length + ([] : List Keyword).length + (if ([] : List Keyword).isEmpty then 0 else 1) < 30)) = true := by rfl)
    (hline : (apos.endLine == cpos.line) = true := by rfl) (hs : starEach [e] X.env = (false, eval e X.env) :: starEach [] X.env := by rfl) (hplain : (backTo cpos (starEach [] X.env)).any (·.1) = false := by rfl) :
    PE X (.Call (.Attribute o "index" apos) [e] [] cpos) (lift X.K dk l W (eIndex mo me)) := PE_imp (pe_bm PySem.F.plainAttrs_list PySem.F.slot_list_index PySem.F.type_list_index mt_index ho (pa_cons he pa_nil hs) hbase hfew hline hs hplain) fun σ H Q ⟨I, env, s, k, w, q⟩ => by
  refine ⟨I, env, s, k, w, q.bind.mono (fun x s1 q v I1 H1 x1 w1 r1 => ?_) fun _ _ _ h => h⟩
  cases x with
  | lst ds =>
    obtain ⟨a, vs, rfl, h1, h2⟩ := r1
    refine ⟨.inl ⟨rfl, vs, .of (w1.sub _ _ h1)⟩, I1, env, s1, k.ext x1, w1, (show Post (andThen (me env) _ s1) _ _ from q).bind.mono (fun y s2 q u I2 H2 x2 w2 r2 => ?_) fun _ _ _ h => h.shift x1⟩
    obtain ⟨d, e4, q3⟩ := q.opt
    cases y with
    | int i =>
      simp only [indexD] at e4
      cases zi : ints? ds with
      | none => rw [zi] at e4; cases e4
      | some ns =>
        rw [zi] at e4
        simp only [Option.bind_some] at e4
        by_cases hm : i ∈ ns
        · rw [if_pos hm] at e4
          cases e4
          rw [ints?_eq zi] at h2
          have hv := h2.ints_of
          subst hv
          have hlt := List.idxOf_lt_length_of_mem hm
          refine ⟨a, ns.map V.int, .int i, ns.idxOf i, .int i, rfl, by rw [show u = _ from r2], .of (w2.sub _ _ (x2.grow _ _ h1)), rfl, flat_ints ns, ?_, by rw [eqV_int]; simp, fun m z' hm' hz' => ?_, q3 _ I2 H2 (x1.trans x2 w2) w2 rfl⟩
          · rw [List.getElem?_map, List.getElem?_eq_getElem hlt, List.getElem_idxOf]
            rfl
          · rw [List.getElem?_map] at hz'
            cases zz : ns[m]? with
            | none => rw [zz] at hz'; cases hz'
            | some j =>
              rw [zz] at hz'
              cases hz'
              rw [eqV_int]
              refine decide_eq_false fun e => ?_
              subst e
              obtain ⟨hml, he⟩ := List.getElem?_eq_some_iff.mp zz
              subst he
              exact absurd (idx_le ns m hml) (by omega)
        · rw [if_neg hm] at e4; cases e4
    | _ => cases e4
  | _ => exact q.elim
end
end PV

end

section
set_option maxRecDepth 100000
namespace PV
open PySem PySem.Spec PyProof.Rows L2
/-! ### what the printed texts use -/
section
variable {X : Cx} {dk l : Addr} {W : WX} {pos : Pos} {I0 H0 : Hp}
theorem pgN {t : Expr} {i : Nat} (h : PG X t (gName i)) : PG X t (gPat X.K (.nm i)) := h
theorem pgsN : PGs X [] (gPats X.K []) := pgs_nil
theorem pgsC {t : Expr} {ts : List Expr} {p : Pat} {ps : List Pat} (h : PG X t (gPat X.K p)) (h2 : PGs X ts (gPats X.K ps)) (hs : (assignEach (t :: ts) X.env).map (·.2) = assign t X.env :: (assignEach ts X.env).map (·.2) := by rfl) : PGs X (t :: ts) (gPats X.K (p :: ps)) := pgs_cons h h2 hs
theorem pgT {ts : List Expr} {k : Nat} {ps : List Pat} (hc : X.calm = true) (h : PGs X ts (gPats X.K ps)) (hn : (assignEach ts X.env).length = ps.length := by rfl) (hst : (assignEach ts X.env).findIdx? (·.1) = none := by rfl) : PG X (.Tuple ts k pos) (gPat X.K (.tp ps)) := pg_tup hc h hn hst
theorem pgmN : PGs X [] (gNms X.K []) := pgs_nil
theorem pgmC {t : Expr} {ts : List Expr} {i : Nat} {is : List Nat} (h : PG X t (gName i)) (h2 : PGs X ts (gNms X.K is)) (hs : (assignEach (t :: ts) X.env).map (·.2) = assign t X.env :: (assignEach ts X.env).map (·.2) := by rfl) : PGs X (t :: ts) (gNms X.K (i :: is)) := pgs_cons h h2 hs
theorem pgM {ts : List Expr} {k : Nat} {is : List Nat} (hc : X.calm = true) (h : PGs X ts (gNms X.K is)) (hn : (assignEach ts X.env).length = is.length := by rfl) (hst : (assignEach ts X.env).findIdx? (·.1) = none := by rfl) : PG X (.Tuple ts k pos) (gTup X.K is.length (gNms X.K is)) := pg_tup hc h hn hst
theorem r_int {i : Int} {j : Nat} : PE X (.Constant (.int i) j pos) (lift X.K dk l W (eC (.int i))) := r_const pe_int fun _ => rfl
theorem r_bl {b : Bool} {j : Nat} : PE X (.Constant (.bool b) j pos) (lift X.K dk l W (eC (.bl b))) := r_const pe_bl fun _ => rfl
theorem r_non {j : Nat} : PE X (.Constant .none j pos) (lift X.K dk l W (eC .non)) := r_const pe_non fun _ => rfl
theorem r_str {x : Str} {j : Nat} : PE X (.Constant (.str x) j pos) (lift X.K dk l W (eC (.str x))) := r_const pe_str fun _ => rfl
theorem r_globI {x : Str} {v : Int} {t : Tok} (hg : Gl X x) (hm : X.mg x = some (.int v t)) (hd : (x == ("__debug__" : Str)) = false := by decide) : PE X (.Name x pos) (lift X.K dk l W (eC (.int v))) := r_const (pe_glob (v := .int v) hg hm ⟨t, rfl⟩ hd) fun _ => rfl
def sBad : En → M Fl := fun _ => bad
theorem p_bad {st : Stmt} : PS X st (liftS X.K dk l W I0 H0 sBad) := ⟨fun pins s σ H Q J ⟨I, env, z, k, q⟩ => q.elim⟩
def negD : D → Option D
  | .int i => some (.int (-i))
  | _ => none
theorem r_neg {a : Expr} {m : En → M D} (h : PE X a (lift X.K dk l W m)) : PE X (.UnaryOp .USub a pos) (lift X.K dk l W (eUn negD m)) := PE_imp (pe_un un_neg h) fun σ H Q ⟨I, env, s, e, w, q⟩ => by
  refine ⟨I, env, s, e, w, q.bind.mono (fun x s1 q v I1 H1 x1 w1 r1 => ?_) fun _ _ _ h => h⟩
  obtain ⟨d, e2, q⟩ := q.opt
  cases x with
  | int i =>
    cases e2
    exact ⟨i, r1, q _ I1 H1 x1 w1 rfl⟩
  | _ => cases e2
def orO (g g' : List D → Option OD) : List D → Option OD := fun ds => match g ds with
  | some o => some o
  | none => g' ds
theorem callO_or {f : Value} {g g' : List D → Option OD} (c : CallO X dk l f g) (c' : CallO X dk l f g') : CallO X dk l f (orO g g') := by
  obtain ⟨r, hr, h⟩ := c
  obtain ⟨r', hr', h'⟩ := c'
  refine ⟨fun xs H Q => r xs H Q ∨ r' xs H Q, fun pins z σ H xs us Q I v q => q.elim (hr pins z σ H xs us Q I v) (hr' pins z σ H xs us Q I v), fun I H s ds vs d Q w rs e q => ?_⟩
  unfold orO at e
  cases z : g ds with
  | some o =>
    rw [z] at e
    exact .inl (h I H s ds vs d Q w rs (by rw [z]; exact e) q)
  | none =>
    rw [z] at e
    exact .inr (h' I H s ds vs d Q w rs e q)
def gSorted : List D → Option OD := orO (g1O sortedD) (g1O sortedT)
theorem c_sorted (hu : X.A.units + 8 < cLine) : CallO X dk l (.builtin "sorted") gSorted := callO_or c_sortedI (c_sortedT hu)
def gDict : List D → Option OD := orO (g1O gDictK) (g1O gDictT)
theorem c_dict (hc : X.calm = true) (hu : X.A.units + 8 < cLine) : CallO X dk l (.type "dict") gDict := callO_or (c_dictK hc) (c_dictT hc hu)
def cN (n : Nat) (F : List D → M D) : List D → M D := fun ds => if ds.length = n then F ds else bad
end
/-! ### x = [comprehension], x a plain local name -/
section
variable {X : Cx} {dk l : Addr} {W : WX} {I0 H0 : Hp} {i : Nat} {y : Str} {py pos spos : Pos} {elt tg iter tg1 iter1 : Expr} {ifs ifs1 : List Expr} {scope : Scope} {own : List (Str × Nat)} {vs1 : List Nat} {mi mi1 : En → M (List D)} {p p1 : Pat} {mt mt1 : En → M Bool} {me : En → M D}
theorem p_setLcO (hc : X.calm = true) (hN : X.N.Nodup) (hy : X.N[i]? = some y) (hyl : X.env.scope.names.lookup y = some .local) (hsw : swapsWith (.ListComp elt [⟨tg, iter, ifs, 0⟩] scope pos) (some (.Name y py)) spos.line X.env = pure true) (hi : PI X tg iter (liftB X.K dk l W mi)) (ok : BlkOk X.N X.env.scope scope own)
    (hg : ∀ (s : Shared) (H : Hp) (C : Addr) (cl : List (Str × Addr)) (fp : List Addr), PG (X.blk s H scope (compEnvC scope cl C X.env) fp) tg (gPat X.K p)) (ht : ∀ (s : Shared) (H : Hp) (C : Addr) (cl : List (Str × Addr)) (fp : List Addr), PTs (X.blk s H scope (compEnvC scope cl C X.env) fp) ifs (liftT X.K dk l W0 mt))
    (he : ∀ (s : Shared) (H : Hp) (C : Addr) (cl : List (Str × Addr)) (fp : List Addr), PE (X.blk s H scope (compEnvC scope cl C X.env) fp) elt (lift X.K dk l W0 me)) (hp : ∀ i ∈ p.ix, i ∈ own.map (·.2)) (hs : ∀ x, foldedSetIterable iter X.env x = pure x := by intro _; rfl) :
    PS X (.Assign [.Name y py] (.ListComp elt [⟨tg, iter, ifs, 0⟩] scope pos) spos) (liftS X.K dk l W I0 H0 (sAsgO i (eLc mi p (own.map (·.2)) mt me))) :=
  PS_imp (ps_setLc hc hN hy hyl hsw hi ok hg ht he hs) fun D σ H h => lc_read hp σ H _ (asgO_read D σ H h)
theorem p_setLcV (hc : X.calm = true) (hN : X.N.Nodup) (hy : X.N[i]? = some y) (hyl : X.env.scope.names.lookup y = some .local) (hsw : swapsWith (.ListComp elt [⟨tg, iter, ifs, 0⟩] scope pos) (some (.Name y py)) spos.line X.env = pure true) (hi : PI X tg iter (liftB X.K dk l W mi)) (ok : BlkOk X.N X.env.scope scope own)
    (hg : ∀ (s : Shared) (H : Hp) (C : Addr) (cl : List (Str × Addr)) (fp : List Addr), PG (X.blk s H scope (compEnvC scope cl C X.env) fp) tg (gPat X.K p)) (ht : ∀ (s : Shared) (H : Hp) (C : Addr) (cl : List (Str × Addr)) (fp : List Addr), PTs (X.blk s H scope (compEnvC scope cl C X.env) fp) ifs (liftT X.K dk l W0 mt))
    (he : ∀ (s : Shared) (H : Hp) (C : Addr) (cl : List (Str × Addr)) (fp : List Addr), PE (X.blk s H scope (compEnvC scope cl C X.env) fp) elt (lift X.K dk l W0 me)) (hp : ∀ i ∈ p.ix, i ∈ own.map (·.2)) (hs : ∀ x, foldedSetIterable iter X.env x = pure x := by intro _; rfl) :
    PS X (.Assign [.Name y py] (.ListComp elt [⟨tg, iter, ifs, 0⟩] scope pos) spos) (liftS X.K dk l W I0 H0 (sAsg (.nm i) (eFrz (eLc mi p (own.map (·.2)) mt me)))) :=
  PS_imp (ps_setLc hc hN hy hyl hsw hi ok hg ht he hs) fun D σ H h => lc_read hp σ H _ (frz_read σ H _ (asg_read (p := .nm i) D σ H h))
theorem p_setLc2O (hc : X.calm = true) (hN : X.N.Nodup) (hy : X.N[i]? = some y) (hyl : X.env.scope.names.lookup y = some .local) (hsw : swapsWith (.ListComp elt [⟨tg, iter, ifs, 0⟩, ⟨tg1, iter1, ifs1, 0⟩] scope pos) (some (.Name y py)) spos.line X.env = pure true) (hi : PI X tg iter (liftB X.K dk l W mi)) (ok : BlkOk X.N X.env.scope scope own) (hvs : ∀ i ∈ vs1, i ∈ own.map (·.2))
    (hg : ∀ (s : Shared) (H : Hp) (C : Addr) (cl : List (Str × Addr)) (fp : List Addr), PG (X.blk s H scope (compEnvC scope cl C X.env) fp) tg (gPat X.K p)) (ht : ∀ (s : Shared) (H : Hp) (C : Addr) (cl : List (Str × Addr)) (fp : List Addr), PTs (X.blk s H scope (compEnvC scope cl C X.env) fp) ifs (liftT X.K dk l W0 mt))
    (hi1 : ∀ (s : Shared) (H : Hp) (C : Addr) (cl : List (Str × Addr)) (fp : List Addr), PI (X.blk s H scope (compEnvC scope cl C X.env) fp) tg1 iter1 (liftB X.K dk l W0 mi1))
    (hg1 : ∀ (s : Shared) (H : Hp) (C : Addr) (cl : List (Str × Addr)) (fp : List Addr), PG (X.blk s H scope (compEnvC scope cl C X.env) fp) tg1 (gPat X.K p1)) (ht1 : ∀ (s : Shared) (H : Hp) (C : Addr) (cl : List (Str × Addr)) (fp : List Addr), PTs (X.blk s H scope (compEnvC scope cl C X.env) fp) ifs1 (liftT X.K dk l W0 mt1))
    (he : ∀ (s : Shared) (H : Hp) (C : Addr) (cl : List (Str × Addr)) (fp : List Addr), PE (X.blk s H scope (compEnvC scope cl C X.env) fp) elt (lift X.K dk l W0 me)) (hp : ∀ i ∈ p.ix, i ∈ own.map (·.2)) (hp1 : ∀ i ∈ p1.ix, i ∈ vs1)
    (hs : ∀ x, foldedSetIterable iter X.env x = pure x := by intro _; rfl) (hs1 : ∀ env x, foldedSetIterable iter1 env x = pure x := by intro _ _; rfl) :
    PS X (.Assign [.Name y py] (.ListComp elt [⟨tg, iter, ifs, 0⟩, ⟨tg1, iter1, ifs1, 0⟩] scope pos) spos) (liftS X.K dk l W I0 H0 (sAsgO i (eLc2 mi p (own.map (·.2)) mt mi1 vs1 p1 mt1 me))) :=
  PS_imp (ps_setLc2 hc hN hy hyl hsw hi ok hvs hg ht hi1 hg1 ht1 he hs hs1) fun D σ H h => lc2_read hvs hp hp1 σ H _ (asgO_read D σ H h)
theorem p_setLc2V (hc : X.calm = true) (hN : X.N.Nodup) (hy : X.N[i]? = some y) (hyl : X.env.scope.names.lookup y = some .local) (hsw : swapsWith (.ListComp elt [⟨tg, iter, ifs, 0⟩, ⟨tg1, iter1, ifs1, 0⟩] scope pos) (some (.Name y py)) spos.line X.env = pure true) (hi : PI X tg iter (liftB X.K dk l W mi)) (ok : BlkOk X.N X.env.scope scope own) (hvs : ∀ i ∈ vs1, i ∈ own.map (·.2))
    (hg : ∀ (s : Shared) (H : Hp) (C : Addr) (cl : List (Str × Addr)) (fp : List Addr), PG (X.blk s H scope (compEnvC scope cl C X.env) fp) tg (gPat X.K p)) (ht : ∀ (s : Shared) (H : Hp) (C : Addr) (cl : List (Str × Addr)) (fp : List Addr), PTs (X.blk s H scope (compEnvC scope cl C X.env) fp) ifs (liftT X.K dk l W0 mt))
    (hi1 : ∀ (s : Shared) (H : Hp) (C : Addr) (cl : List (Str × Addr)) (fp : List Addr), PI (X.blk s H scope (compEnvC scope cl C X.env) fp) tg1 iter1 (liftB X.K dk l W0 mi1))
    (hg1 : ∀ (s : Shared) (H : Hp) (C : Addr) (cl : List (Str × Addr)) (fp : List Addr), PG (X.blk s H scope (compEnvC scope cl C X.env) fp) tg1 (gPat X.K p1)) (ht1 : ∀ (s : Shared) (H : Hp) (C : Addr) (cl : List (Str × Addr)) (fp : List Addr), PTs (X.blk s H scope (compEnvC scope cl C X.env) fp) ifs1 (liftT X.K dk l W0 mt1))
    (he : ∀ (s : Shared) (H : Hp) (C : Addr) (cl : List (Str × Addr)) (fp : List Addr), PE (X.blk s H scope (compEnvC scope cl C X.env) fp) elt (lift X.K dk l W0 me)) (hp : ∀ i ∈ p.ix, i ∈ own.map (·.2)) (hp1 : ∀ i ∈ p1.ix, i ∈ vs1)
    (hs : ∀ x, foldedSetIterable iter X.env x = pure x := by intro _; rfl) (hs1 : ∀ env x, foldedSetIterable iter1 env x = pure x := by intro _ _; rfl) :
    PS X (.Assign [.Name y py] (.ListComp elt [⟨tg, iter, ifs, 0⟩, ⟨tg1, iter1, ifs1, 0⟩] scope pos) spos) (liftS X.K dk l W I0 H0 (sAsg (.nm i) (eFrz (eLc2 mi p (own.map (·.2)) mt mi1 vs1 p1 mt1 me)))) :=
  PS_imp (ps_setLc2 hc hN hy hyl hsw hi ok hvs hg ht hi1 hg1 ht1 he hs hs1) fun D σ H h => lc2_read hvs hp hp1 σ H _ (frz_read σ H _ (asg_read (p := .nm i) D σ H h))
end
/-! ### a, b = e1, e2 with plain local names: no pair is laid -/
section
variable {X : Cx} {dk l : Addr} {W : WX} {I0 H0 : Hp} {pos : Pos}
theorem bind2_set {I H : Hp} {s : Dk} : ∀ (is : List Nat) (xs : List It2) (vs : List V) (env env' : En) (σ : L2.St) (Q : L2.St → Hp → Prop), SOk X.K dk l I0 H0 I H env σ s → Rep2 X.K dk l I H xs vs → New2 H0 xs vs → bind2 is xs env = some env' →
    (∀ p, V.ref p ∈ vs → I p = none → ∀ (j : Nat) (u : OD), env[j]? = some (.own u) → σ[j]? ≠ some (some (.ref p))) → (∀ σ', SOk X.K dk l I0 H0 I H env' σ' s → Q σ' H) → gNms X.K is vs σ H Q := bind2_ok
theorem p_par2 {i j : Nat} {x y : Str} {a b : Expr} {m : En → M (List It2)} {px py pt : Pos} {kt k2 pt2} (hc : X.calm = true) (hN : X.N.Nodup) (hi : X.N[i]? = some x) (hj : X.N[j]? = some y) (hij : i ≠ j)
    (hx : X.env.scope.names.lookup x = some .local) (hy : X.env.scope.names.lookup y = some .local) (ha : PA X [a, b] (lift2 X.K dk l W m))
    (hw : swappedStores [.Tuple [.Name x px, .Name y py] kt pt] (.Tuple [a, b] k2 pt2) X.env = pure (some [x, y]))
    (hs : swapsWithSole [.Tuple [.Name x px, .Name y py] kt pt] (.Tuple [a, b] k2 pt2) pos.line X.env = pure false := by rfl) :
    PS X (.Assign [.Tuple [.Name x px, .Name y py] kt pt] (.Tuple [a, b] k2 pt2) pos) (liftS X.K dk l W I0 H0 (sAsg2 [i, j] m)) := PS_imp (ps_par hc hN hi hj hij hx hy ha hw hs) fun D σ H ⟨I, env, s, k, q⟩ => by
  refine ⟨I, env, s, k.eok, k.wo, q.bind.mono (fun xs s1 q vs I1 H1 x1 w1 r1 nw => ?_) fun _ _ _ h => k.exq h⟩
  by_cases hl : xs.length ≤ 1000
  · simp only [hl, if_true] at q
    obtain ⟨e2, e3, q⟩ := q.bind.opt
    have h := bind2_ok [i, j] xs vs env e2 σ (fun σ' H' => D.nx σ' H') (k.grow x1 w1) r1 (New2.back k.ext r1 nw) e3 (fun p hp hi' j' u h => ?_) fun σ' k' => q σ' I1 H1 x1.grow k'
    · obtain ⟨v, ws, e4, v2, ws2, e5, e6, e7⟩ := h
      have e8 : ws2 = [] := e6
      subst e5 e8
      exact ⟨v, v2, e4, e7⟩
    · by_cases hk : p = dk
      · intro z
        obtain ⟨p', g1, g2, g3, _⟩ := k.eok.own j' u h
        rw [z] at g1
        cases g1
        exact g3 hk
      · exact New2.ap k.eok r1 nw p hp hi' hk j' u h
  · simp only [hl, if_false] at q
    exact q.elim
end
/-- keywords bind -/
theorem bindsK {K : PySem.W.Frag} {x qual : Str} {st : Stmt} {f : Addr} {fd : FuncData} {ps : List Str} (F : Fun K x qual st f fd) (ks : List Str) (π : List Nat)
    (h : ∀ (kV doc pm : Value) (an : Option Addr) (cdv ct : Value) (us : List Value), (permL π us).length = ps.length → bindArgs (PySem.W.fnOf x qual (defArgs st) (defBody st) (defScope st) .none kV doc pm an cdv ct) ⟨[], ks.zip us⟩ = pure (ps.zip (permL π us))) :
    ∀ ws : List Value, (permL π ws).length = ps.length → bindArgs fd ⟨[], ks.zip ws⟩ = pure (ps.zip (permL π ws)) := by
  obtain ⟨oc, od, kV, doc, pm, an, cdv, ct, osl, rfl, lk, hcd⟩ := F.ex
  exact h kV doc pm an cdv ct
end PV

end

section
set_option maxRecDepth 100000
namespace PV
open PySem PySem.Spec PyProof.Rows L2
/-! ### stores into a dict of one's own -/
def ownD (env : En) (i : Nat) : Option OD := match env[i]? with
  | some (.own o) => some o
  | _ => none
theorem ownD_eq {env : En} {i : Nat} {o : OD} (h : ownD env i = some o) : env[i]? = some (.own o) := by
  unfold ownD at h
  cases z : env[i]? with
  | none => rw [z] at h; cases h
  | some y =>
    rw [z] at h
    cases y with
    | no => cases h
    | val d => cases h
    | own o => cases h; rfl
def dput : OD → D → D → Option OD
  | .dK kvs, x, d => (keyD x).bind fun k => if kvs.length < size7 then some (.dK (putD kvs k d)) else none
  | .dT kvs, .tup ks, d => (keysD ks).bind fun k => if kvs.length < size7 then some (.dT (putD kvs k d)) else none
  | _, _, _ => none
def sDput (i : Nat) (mi mv : En → M D) : En → M Fl := fun env => andThen (opt (ownD env i)) fun o => andThen (mv env) fun d => andThen (mi env) fun x => andThen (opt (dput o x d)) fun u => ret (.nx (env.set i (.own u)))
theorem RepK.len {K : PySem.W.Frag} {I : Hp} {dk : Addr} : ∀ {kvs : List (Key × D)} {ws : List (Key × V)}, RepK K I dk kvs ws → kvs.length = ws.length
  | [], _, h => by rw [show _ = [] from h]; rfl
  | (k, d) :: r, _, ⟨v, ws, e, h1, h2⟩ => by subst e; rw [List.length_cons, List.length_cons, RepK.len h2]
theorem RepT.len {K : PySem.W.Frag} {I : Hp} {dk : Addr} : ∀ {kvs : List (List Key × D)} {ws : List (List Key × V)}, RepT K I dk kvs ws → kvs.length = ws.length
  | [], _, h => by rw [show _ = [] from h]; rfl
  | (k, d) :: r, _, ⟨v, ws, e, h1, h2⟩ => by subst e; rw [List.length_cons, List.length_cons, RepT.len h2]
section
variable {X : Cx} {dk l : Addr} {W : WX} {pos : Pos} {I0 H0 : Hp} {o e : Expr} {i : Nat}
theorem p_dput {ie : Expr} {spos : Pos} {mi mv : En → M D} (hu : X.A.units + 1 < cLine) (ho : PE X o (tVar i)) (hi : PE X ie (lift X.K dk l W mi)) (he : PE X e (lift X.K dk l W mv))
    (hs : swapsWith e (some (.Subscript o ie spos)) pos.line X.env = pure false := by rfl) :
    PS X (.Assign [.Subscript o ie spos] e pos) (liftS X.K dk l W I0 H0 (sDput i mi mv)) := PS_imp (ps_dput hu ho hi he hs) fun D σ H ⟨I, env, s, k, q⟩ => by
  obtain ⟨ow, hd, q⟩ := q.bind.opt
  have hd := ownD_eq hd
  refine ⟨I, env, s, k.eok, k.wo, q.bind.mono (fun d s1 q v I1 H1 x1 w1 r1 => ?_) fun _ _ _ h => k.exq h⟩
  have k1 := k.grow x1 w1
  obtain ⟨p, g1, g2, m1, m2, m3⟩ := k1.eok.own i _ hd
  refine ⟨.ref p, g1, I1, env, s1, k1.eok, w1, q.bind.mono (fun x s2 q u I2 H2 x2 w2 r2 => ?_) fun _ _ _ h => k1.exq h⟩
  have k2 := k1.grow x2 w2
  obtain ⟨w, hw, q⟩ := q.bind.opt
  obtain ⟨p', g1', g3, c1, c2, c3⟩ := k2.eok.own i _ hd
  rw [g1] at g1'
  cases g1'
  have s7 : size7 ≤ sizeLine := size7_le (Nat.le_refl _)
  cases ow with
  | lst ds => cases hw
  | dK kvs =>
    obtain ⟨ws, f1, f2⟩ := g3
    simp only [dput] at hw
    cases hk : keyD x with
    | none => rw [hk] at hw; cases hw
    | some key =>
      rw [hk, Option.bind_some] at hw
      by_cases hl : kvs.length < size7
      · rw [if_pos hl] at hw
        cases hw
        have eu := keyD_rep r2 hk
        subst eu
        refine ⟨p, _, rfl, DPut.k (v := v) f1 (by rw [← f2.len]; omega), ?_⟩
        exact q σ I2 _ (x1.grow.trans x2.grow) (k2.put hd g1 c1 c2 c3 ⟨_, upd_same, f2.put (Rep.mono x2.grow _ _ r1)⟩)
      · rw [if_neg hl] at hw; cases hw
  | dT kvs =>
    obtain ⟨ws, f1, f2⟩ := g3
    cases x with
    | tup ks =>
      simp only [dput] at hw
      cases hk : keysD ks with
      | none => rw [hk] at hw; cases hw
      | some key =>
        rw [hk, Option.bind_some] at hw
        by_cases hl : kvs.length < size7
        · rw [if_pos hl] at hw
          cases hw
          obtain ⟨b, vs, eb, h1, h2⟩ := r2
          have ev := keysD_rep h2 hk
          subst eb ev
          refine ⟨p, _, rfl, DPut.t (v := v) f1 (w2.sub _ _ h1) (by rw [← f2.len]; omega), ?_⟩
          exact q σ I2 _ (x1.grow.trans x2.grow) (k2.put hd g1 c1 c2 c3 ⟨_, upd_same, f2.put (Rep.mono x2.grow _ _ r1)⟩)
        · rw [if_neg hl] at hw; cases hw
    | _ => cases hw
end
end PV

end

section
set_option maxRecDepth 100000
namespace PV
open PySem PySem.Spec PyProof.Rows L2
/-! ### a tuple times 1 is the tuple itself -/
theorem tuple_mul1 (l : Addr) (items : Array Value) (n : Nat) (dd : Option Addr) (sl : Array (Option Value)) (u : Tok) :
    Meets (Builtin.«tuple.__mul__» ⟨[.ref l, .int 1 u], []⟩) (fun _ R s => s.heap.get? l = some { cls := .type "tuple", dict := dd, data := .seq items n, slots := sl } ∧ R (.ok (.ret (Value.ref l))) s) :=
  .of_wp fun prog w A R s h => by
    obtain ⟨hp, g, d, tk, os⟩ := s
    obtain ⟨hl, h⟩ := h
    have f1 := AutoSeq1.idx_int
    wp_walk using wpAny_loadPart' hl
    repeat (first
      | (refine wpAny_ite_false (decide_eq_false (by decide)) ?_; wp_walk using wpAny_loadPart' hl)
      | (refine wpAny_ite_true (decide_eq_true (by simp)) ?_; wp_walk using wpAny_loadPart' hl))
    exact ⟨_, rfl, h⟩
section
variable {X : Cx} {dk l : Addr} {W : WX}
theorem op_rep1 : OpR X (binaryOp .Mult) (fun x y H Q => ∃ (a : Addr) (xs : List V), x = .ref a ∧ y = .int 1 ∧ SqT X.K H a xs ∧ Q (.ref a) H) := by
  intro pins s σ H x y v u Q I rx ry h
  obtain ⟨l, xs, rfl, rfl, hT, q⟩ := h
  cases rx
  obtain ⟨t, rfl⟩ := ry
  obtain ⟨its, r, ⟨⟨cls, dd, data, sl⟩, ho, hc, n, hd⟩, hs⟩ := I.tuple hT
  simp only at hc hd
  subst hc hd
  exact wpAny_binaryOp_repeat_ref (T := "tuple") (U := "int") (by decide) ⟨_, ho, rfl⟩ (fun s' => typeIs_int s' 1 t) noFill_tuple_mul PySem.F.fills_int_mul PySem.F.slot_int_rmul repeat_tuple PySem.F.slot_int_index.lookup
    (call_meets PySem.F.slot_int_rmul (typeIs_int s 1 t) PySem.F.entry_int_rmul (PySem.F.args_int_rmul_2 _ _) (int_rmul_tuple 1 t l its.toArray n dd sl)
      ⟨ho, rfl, ⟨_, ho, rfl⟩, call_meets PySem.F.slot_tuple_mul ⟨_, ho, rfl⟩ PySem.F.entry_tuple_mul (PySem.F.args_tuple_mul_2 _ _) (tuple_mul1 l its.toArray n dd sl t) ⟨ho, ⟨.ref l, H, I, rfl, q⟩⟩⟩)
/-- (x, ..) * n, n from 1 on -/
def mulT : D → D → Option D
  | .tup a, .int k => if k = 1 then some (.tup a) else mulD (.tup a) (.int k)
  | x, y => mulD x y
theorem o_mulT : OpD X dk l (binaryOp .Mult) mulT := by
  obtain ⟨r, hr, h⟩ := o_mul (X := X) (dk := dk) (l := l)
  refine ⟨_, OpR.or op_rep1 hr, fun I H s x y v u d Q w rx ry e q => ?_⟩
  by_cases hz : ∃ a, x = .tup a ∧ y = .int 1
  · obtain ⟨a, rfl, rfl⟩ := hz
    have e' : some (D.tup a) = some d := e
    cases e'
    obtain ⟨p, vs, rfl, h1, h2⟩ := rx
    exact .inl ⟨p, vs, rfl, ry, SqT.of (w.sub _ _ h1), q _ I H Ext.refl w ⟨p, vs, rfl, h1, h2⟩⟩
  · refine .inr (h I H s x y v u d Q w rx ry ?_ q)
    rw [← e]
    cases x with
    | tup a =>
      cases y with
      | int k =>
        show _ = (if k = 1 then some (D.tup a) else mulD (.tup a) (.int k))
        rw [if_neg fun hk => hz ⟨a, rfl, by rw [hk]⟩]
      | _ => rfl
    | _ => rfl
/-! ### any(..) of ints -/
theorem iter_anyT {prog : Program} {w : World} {A : Around} {E : Value → Shared → Prop} {s : Shared} {l : Addr} {items : Array Value} {Q : Value → Shared → Prop} (hl : s.heap.IsTuple l items)
    (h : ∀ s₂ : Shared, s₂ = { s with heap := s.heap.push { cls := .type "tuple_iterator", data := .fields #[.ref l, .int 0 0] } } →
      (s₂.heap.IsTupleIter s.heap.objs.size l 0 ∧ s₂.heap.IsTuple l items) → l ≠ s.heap.objs.size → Q (.ref s.heap.objs.size) s₂) : wpAny (model prog w) A (pyIter (.ref l)) Q E s := by
  have hlt : l < s.heap.objs.size := by obtain ⟨_, e, _⟩ := hl; exact Heap.lt_size e
  refine wpAny_pyIter_tuple hl (h _ rfl ⟨⟨_, Heap.get?_push_size _ rfl, rfl, rfl⟩, ?_⟩ (Nat.ne_of_lt hlt))
  obtain ⟨o, e, c, n, d⟩ := hl
  exact ⟨o, Heap.get?_push_of_some _ e, c, n, d⟩
theorem truth_ints {prog : Program} {w : World} {A : Around} {ns : List Int} {its : List Value} (e : Vals (ns.map V.int) its) :
    TruthOf prog w A (fun i v => its.toArray[i]? = some v) (fun i => ns.getD i 0 != 0) := fun i v s Q E hv hq => by
  have hv' : its[i]? = some v := by simpa using hv
  have hi : i < its.length := (List.getElem?_eq_some_iff.mp hv').1
  have hl := e.length
  rw [List.length_map] at hl
  obtain ⟨u, hu, ru⟩ := e.get (i := i) (x := .int ns[i]) (by rw [List.getElem?_map, List.getElem?_eq_getElem (by omega)]; rfl)
  rw [hv'] at hu
  cases hu
  obtain ⟨t, rfl⟩ := ru
  have hg : ns.getD i 0 = ns[i] := by rw [List.getD_eq_getElem?_getD, List.getElem?_eq_getElem (by omega)]; rfl
  have hq' : Q (ns.getD i 0 != 0) s := hq
  rw [hg] at hq'
  exact truthy_int hq'
theorem any_rangeI : ∀ ns : List Int, (List.range ns.length).any (fun i => ns.getD i 0 != 0) = ns.any fun n => n != 0
  | [] => rfl
  | n :: ns => by
    rw [List.length_cons, List.range_succ_eq_map, List.any_cons, List.any_map, List.any_cons, ← any_rangeI ns]
    all_goals rfl
theorem cr_anyT (hc : X.calm = true) : CallR X (.builtin "any") (fun vs H Q => ∃ (a : Addr) (ns : List Int), vs = [V.ref a] ∧ SqT X.K H a (ns.map V.int) ∧ Q (.bl (ns.any fun n => n != 0)) H) := by
  intro pins s σ H vs us Q I r h
  obtain ⟨a, ns, rfl, hs, q⟩ := h
  obtain ⟨its, rv, hl, _⟩ := I.tuple hs
  rw [Vals.ref1 r]
  refine call_any_walk (iter_anyT hl fun s₂ e2 st hne => ?_)
  subst e2
  refine ⟨_, _, _, _, _, _, _, rfl, Walks.tuple (A := X.A.in1) (I.ok.hd hc) _ a hne its.toArray, st, truth_ints rv, fun h' tk hk => ?_⟩
  refine ⟨.bl _, H, I.kept fun b o eo => hk b o (fun hmem => ?_) (Heap.get?_push_of_some _ eo), ?_, q⟩
  · rcases List.mem_cons.mp hmem with e1 | hmem
    · exact absurd (e1 ▸ Heap.lt_size eo) (Nat.lt_irrefl _)
    · cases hmem
  · show Value.bool _ = Value.bool _
    rw [← any_rangeI, List.size_toArray, ← rv.length, List.length_map]
theorem cr_anyL (hc : X.calm = true) : CallR X (.builtin "any") (fun vs H Q => ∃ (a : Addr) (ns : List Int), vs = [V.ref a] ∧ SqL X.K H a (ns.map V.int) ∧ Q (.bl (ns.any fun n => n != 0)) H) := by
  intro pins s σ H vs us Q I r h
  obtain ⟨a, ns, rfl, hs, q⟩ := h
  obtain ⟨its, rv, hl, _⟩ := I.list hs
  rw [Vals.ref1 r]
  refine call_any_walk (iter_any hl.isList fun s₂ e2 st hne => ?_)
  subst e2
  refine ⟨_, _, _, _, _, _, _, rfl, Walks.list (A := X.A.in1) (I.ok.hd hc) _ a hne its.toArray, st, truth_ints rv, fun h' tk hk => ?_⟩
  refine ⟨.bl _, H, I.kept fun b o eo => hk b o (fun hmem => ?_) (Heap.get?_push_of_some _ eo), ?_, q⟩
  · rcases List.mem_cons.mp hmem with e1 | hmem
    · exact absurd (e1 ▸ Heap.lt_size eo) (Nat.lt_irrefl _)
    · cases hmem
  · show Value.bool _ = Value.bool _
    rw [← any_rangeI, List.size_toArray, ← rv.length, List.length_map]
def anyI : D → Option D
  | .tup ds => (ints? ds).map fun ns => .bl (ns.any fun n => n != 0)
  | .lst ds => (ints? ds).map fun ns => .bl (ns.any fun n => n != 0)
  | _ => none
theorem CallR.or {f : Value} {r r' : List V → Hp → VK → Prop} (a : CallR X f r) (b : CallR X f r') : CallR X f (fun vs H Q => r vs H Q ∨ r' vs H Q) := fun pins s σ H vs us Q I v h => h.elim (a pins s σ H vs us Q I v) (b pins s σ H vs us Q I v)
theorem c_anyI (hc : X.calm = true) : CallD X dk l (.builtin "any") (g1 anyI) := callD1 (CallR.or (cr_anyT hc) (cr_anyL hc)) fun I H s x v d Q w r e q => by
  cases x with
  | tup ds =>
    simp only [anyI] at e
    cases z : ints? ds with
    | none => rw [z] at e; cases e
    | some ns =>
      rw [z] at e
      cases e
      obtain ⟨a, vs, rfl, h1, h2⟩ := r
      rw [ints?_eq z] at h2
      rw [h2.ints_of] at h1
      exact .inl ⟨a, ns, rfl, SqT.of (w.sub _ _ h1), q _ I H Ext.refl w rfl⟩
  | lst ds =>
    simp only [anyI] at e
    cases z : ints? ds with
    | none => rw [z] at e; cases e
    | some ns =>
      rw [z] at e
      cases e
      obtain ⟨a, vs, rfl, h1, h2⟩ := r
      rw [ints?_eq z] at h2
      rw [h2.ints_of] at h1
      exact .inr ⟨a, ns, rfl, .of (w.sub _ _ h1), q _ I H Ext.refl w rfl⟩
  | _ => cases e
end
end PV

end

section
set_option maxRecDepth 100000
namespace PV
open PySem PySem.Spec PyProof.Rows L2
/-! ### sorted(d), d a dict whose keys are tuples of ints -/
theorem kdl_rawH {prog : Program} {w : World} {K : Type} {d : Addr} {xs : List (K × Addr × Value)} {es : Array DictEntry} {ep : Nat} (lo : (d == sysModules) = false) (hx : ∀ i (hi : i < es.size), ∃ y, xs[i]? = some y ∧ es[i].key = .ref y.2.1 ∧ es[i].val = y.2.2) :
    PySem.W.KdlSrc prog w "dict" d d es.size (fun i v => ∃ y, xs[i]? = some y ∧ v = .ref y.2.1) (fun h => h.DictRaw d es ep) where
  type := fun _ hm => hm.typeIs
  there := fun _ hm => let ⟨_, ho, _⟩ := hm; ⟨Heap.lt_size ho, Heap.lt_size ho⟩
  keep := fun _ _ hm hk => hm.at fun o e => hk d (.inl rfl) o e
  notList := by decide
  notTuple := by decide
  hint := fun _ _ _ _ hm hq => PySem.W.kdl_hint_dict hm.typeIs hq
  iter := fun _ _ hh hm => ⟨_, _, (fun _ _ hq => wpAny_pyIter_dict_raw lo hm hq), Walks.keysH hh _ d (let ⟨_, ho, _⟩ := hm; Nat.ne_of_lt (Heap.lt_size ho)) es ep hx, ⟨⟨_, Heap.get?_push_size _ rfl, rfl, rfl⟩, hm.at fun o e => Heap.get?_push_of_some _ e⟩⟩
theorem keys_ts {H : Hp} : ∀ {kvs : List (List Key × V)} {xs : List (List Key × Addr × Value)} {ks : List (List Int)}, KT H kvs xs → kvs.map (·.1) = ks.map (List.map Sum.inl) →
    ∃ ts : List (Addr × List Int), ts.map (·.1) = xs.map (·.2.1) ∧ ts.map (·.2) = ks ∧ ∀ p ∈ ts, H p.1 = some (.tup (p.2.map V.int))
  | _, _, ks, .nil, h => by
    cases ks with
    | nil => exact ⟨[], rfl, rfl, fun p hp => (by cases hp)⟩
    | cons k ks => cases h
  | _, _, ks, .cons (a := a) (b := b) ⟨f1, f2, _⟩ r, h => by
    cases ks with
    | nil => cases h
    | cons k ks =>
      rw [List.map_cons, List.map_cons, List.cons.injEq] at h
      obtain ⟨ts, h1, h2, h3⟩ := keys_ts r h.2
      refine ⟨(b.2.1, k) :: ts, by rw [List.map_cons, List.map_cons, h1], by rw [List.map_cons, h2], fun p hp => ?_⟩
      rcases List.mem_cons.mp hp with rfl | hp
      · rw [h.1, List.map_map] at f2
        exact f2
      · exact h3 p hp
section
variable {X : Cx} {dk l : Addr} {W : WX}
def rSortDT : List V → Hp → VK → Prop := fun vs H Q => ∃ (a : Addr) (kvs : List (List Key × V)) (ks : List (List Int)), vs = [V.ref a] ∧ Rd H a (.dT kvs) ∧ kvs.map (·.1) = ks.map (List.map Sum.inl) ∧
  ∀ (us : List (Addr × List Int)) (p : Addr), (∀ q ∈ us, H q.1 = some (.tup (q.2.map V.int))) → us.map (·.2) = sortL ks → H p = none → Q (.ref p) (upd H p (.lst (ownTs us)))
theorem cr_sortDT (hc : X.calm = true) (hu : X.A.units + 8 < cLine) : CallR X (.builtin "sorted") rSortDT := by
  intro pins s σ H vs us Q I r h
  obtain ⟨a, kvs, ks, rfl, hd, hks, q⟩ := h
  rw [Vals.ref1 r]
  obtain ⟨hlen0, lo, xs, rel, dd⟩ := dt_rd I.hok hd
  obtain ⟨es, ep, raw, hsz, hx⟩ := dd.raw
  obtain ⟨ts, ht1, ht2, ht3⟩ := keys_ts rel hks
  have hxl : xs.length = ts.length := by
    have := congrArg List.length ht1
    rw [List.length_map, List.length_map] at this
    exact this.symm
  have hkl : kvs.length = ks.length := by
    have := congrArg List.length hks
    rw [List.length_map, List.length_map] at this
    exact this
  have htl : ts.length = ks.length := by rw [← ht2, List.length_map]
  have hn : es.size ≤ sizeLine := by rw [hsz, hxl, htl, ← hkl]; exact hlen0
  refine Calls.call_function_entry PyProof.Rows.kind_sorted PyProof.Rows.plain_sorted PyProof.Rows.entry_sorted (PyProof.Rows.args_sorted1 _) ?_
  unfold Builtin.«sorted»
  refine wpAny_bind (m := checkCount "sorted" 1 1 _) (wpAny_pure ?_)
  refine wpAny_bind (PySem.W.kdu_collect (A := X.A.in1) (kdl_rawH (xs := xs) (es := es) (ep := ep) lo fun i hi => let ⟨y, h1, h2, h3, _⟩ := hx i hi; ⟨y, h1, h2, h3⟩) (I.ok.hd hc) raw hn fun h' tk acc hk hacc => ?_)
  have hacc2 : acc.toList = ts.map fun p => Value.ref p.1 := by
    apply List.ext_getElem?
    intro i
    by_cases hi : i < acc.size
    · have e1 : acc.toList[i]? = some acc[i] := by rw [Array.getElem?_toList, Array.getElem?_eq_getElem hi]
      obtain ⟨y, e2, e3⟩ := hacc.2 i acc[i] (Array.getElem?_eq_getElem hi)
      have e4 : (ts.map (·.1))[i]? = some y.2.1 := by rw [ht1, List.getElem?_map, e2]; rfl
      rw [e1, e3]
      rw [List.getElem?_map] at e4 ⊢
      cases e5 : ts[i]? with
      | none => rw [e5] at e4; cases e4
      | some p =>
        rw [e5] at e4
        have e6 : p.1 = y.2.1 := Option.some.inj e4
        show some (Value.ref y.2.1) = some (Value.ref p.1)
        rw [e6]
    · rw [List.getElem?_eq_none (by rw [Array.length_toList]; omega), List.getElem?_eq_none (by rw [List.length_map]; have := hacc.1; omega)]
  rw [hacc2]
  have hL : (ts.map fun p => Value.ref p.1).length ≤ sizeLine := by rw [List.length_map, ← hxl, ← hsz]; exact hn
  refine wpAny_bind (wpAny_newList ?_ hL)
  have I1 : Inv X pins σ H { s with heap := h', toks := tk } := I.kept hk
  have hoL : (h'.push (seqObj "list" (ts.map fun p => Value.ref p.1).toArray 0)).get? h'.objs.size = some (seqObj "list" (ts.map fun p => Value.ref p.1).toArray 0) := Heap.get?_push_size _ rfl
  show wpAny _ _ _ _ _ { s with heap := h'.push (seqObj "list" (ts.map fun p => Value.ref p.1).toArray 0), toks := tk }
  have hkeep : ∀ b o, s.heap.get? b = some o → (h'.push (seqObj "list" (ts.map fun p => Value.ref p.1).toArray 0)).get? b = some o := fun b o e => Heap.get?_push_of_some _ (hk b o e)
  have fin : ∀ (us : List (Addr × List Int)), (ownTs us).length ≤ sizeLine → (∀ q ∈ us, q ∈ ts) → us.map (·.2) = sortL ks → EP X pins σ Q (.ref h'.objs.size) { s with heap := PyProof.Rows.sortedHeap (h'.push (seqObj "list" (ts.map fun p => Value.ref p.1).toArray 0)) h'.objs.size (ts.map fun p => Value.ref p.1) (us.map fun p => Value.ref p.1).toArray, toks := tk } := fun us hul hus e1 => by
    obtain ⟨e', he'⟩ := PyProof.Rows.sortedHeap_at (vs := ts.map fun p => Value.ref p.1) (out := (us.map fun p => Value.ref p.1).toArray) hoL
    refine ⟨.ref h'.objs.size, upd H h'.objs.size (.lst (ownTs us)), I1.laid (t' := tk) (fun b u e => ?_) (Nat.le_refl _)
      (show ObjOk X.prog X.w _ _ _ (.lst (ownTs us)) from ⟨hul, us.map fun p => Value.ref p.1, e', ownTs_vals us, he'⟩), rfl, q us _ (fun z hz => ht3 z (hus z hz)) e1 (I1.hok.fresh (Nat.le_refl _))⟩
    have hb : b < h'.objs.size := Heap.lt_size e
    rw [PyProof.Rows.sortedHeap_old (Nat.ne_of_lt hb) (by rw [size_push']; exact Nat.lt_succ_of_lt hb)]
    exact Heap.get?_push_of_some _ e
  revert hoL hkeep fin
  generalize (h'.push (seqObj "list" (ts.map fun p => Value.ref p.1).toArray 0)) = hh
  intro hoL hkeep fin
  have ti0 : ∀ p ∈ ts, TI s.heap (.ref p.1) p.2 := fun p hp => by
    obtain ⟨its, rv, hT, _⟩ := I.tuple (SqT.of (K := X.K) (ht3 p hp))
    exact ⟨p.1, its.toArray, rfl, hT, by simpa using rv.ints⟩
  have ti : ∀ p ∈ ts, TI hh (.ref p.1) p.2 := fun p hp => (ti0 p hp).keeps fun b o e _ => hkeep b o e
  have tiv : ∀ v ∈ (ts.map fun p => Value.ref p.1), TI hh v (TS.intsOf hh v) := fun v hv => by
    obtain ⟨p, hp, rfl⟩ := List.mem_map.mp hv
    have := ti p hp
    rw [this.ints]
    exact this
  refine wpAny_bind (wpAny_holding (wpAny_call_entry PyProof.Rows.slot_list_sort ⟨_, hoL, rfl⟩ PyProof.Rows.entry_list_sort
    (SrtO.list_sort_ord (s := { s with heap := hh, toks := tk }) (n := 0) (swo_lexLt (TS.intsOf hh)) hoL hL (fun h2 => ?_) fun out hs hb => ⟨_, rfl, ?_⟩) (PyProof.Rows.args_list_sort _)))
  · refine tup_sortable (s := { s with heap := hh, toks := tk }) (k := TS.intsOf hh) (by show X.A.units + 1 + 1 < cLine; omega) h2 tiv fun o e => ?_
    have e' : some o = some (seqObj "list" _ 0) := e.symm.trans hoL
    cases e'
    intro c
    exact absurd (Value.type.inj c) (by decide)
  · have hp := hb.perm
    have mem : ∀ v ∈ out, ∃ p ∈ ts, v = Value.ref p.1 := fun v hv => by
      obtain ⟨p, hp, e⟩ := List.mem_map.mp (hp.mem_iff.mp hv)
      exact ⟨p, hp, e.symm⟩
    have lift : ∀ (o : List Value), (∀ v ∈ o, ∃ p ∈ ts, v = Value.ref p.1) → ∃ us : List (Addr × List Int), (∀ q ∈ us, q ∈ ts) ∧ o = us.map fun p => Value.ref p.1 := fun o => by
      induction o with
      | nil => exact fun _ => ⟨[], fun q h => by simp at h, rfl⟩
      | cons v o ih =>
        intro h
        obtain ⟨us, h1, h2⟩ := ih fun u hu => h u (List.mem_cons_of_mem _ hu)
        obtain ⟨p, hp, e⟩ := h v List.mem_cons_self
        exact ⟨p :: us, fun q hq => by
          rcases List.mem_cons.mp hq with z | z
          · subst z; exact hp
          · exact h1 q z, by rw [List.map_cons, ← h2, e]⟩
    obtain ⟨us, hus, eo⟩ := lift out mem
    subst eo
    have hints : ∀ zs : List (Addr × List Int), (∀ q ∈ zs, q ∈ ts) → (zs.map fun p => Value.ref p.1).map (TS.intsOf hh) = zs.map (·.2) := fun zs hz => by
      rw [List.map_map]
      exact List.map_congr_left fun p hp => (ti p (hz p hp)).ints
    have e1 : us.map (·.2) = sortL ks := by
      rw [← ht2]
      refine perm_srtd_eq (lt := HT.lexLt) (fun x y h1 h2 => lexLt_tot x y h1 h2) ?_ ?_ (sortL_sorted _)
      · have h3 := hp.map (TS.intsOf hh)
        rw [hints us hus, hints ts fun q h => h] at h3
        exact h3.trans (sortL_perm _).symm
      · have h4 : ((us.map fun p => Value.ref p.1).map (TS.intsOf hh)).Pairwise fun a b => HT.lexLt b a = false := List.pairwise_map.mpr hs
        rw [hints us hus] at h4
        exact h4
    have hul : (ownTs us).length ≤ sizeLine := by
      have : us.length = ts.length := by
        have := hp.length_eq
        simpa using this
      unfold ownTs
      rw [List.length_map, this]
      simpa using hL
    exact wpAny_pure ⟨_, rfl, fin us hul hus e1⟩
end
end PV

end

section
set_option maxRecDepth 100000
namespace PV
open PySem PySem.Spec PyProof.Rows L2
def keyInt? : List Key → Option (List Int)
  | [] => some []
  | .inl i :: r => (keyInt? r).map (i :: ·)
  | .inr _ :: _ => none
def keysInt? : List (List Key) → Option (List (List Int))
  | [] => some []
  | k :: r => match keyInt? k, keysInt? r with
    | some i, some is => some (i :: is)
    | _, _ => none
theorem keyInt_eq : ∀ {k : List Key} {ns : List Int}, keyInt? k = some ns → k = ns.map Sum.inl
  | [], ns, h => by cases h; rfl
  | .inl i :: r, ns, h => by
    simp only [keyInt?] at h
    cases z : keyInt? r with
    | none => rw [z] at h; cases h
    | some ms =>
      rw [z] at h
      cases h
      rw [keyInt_eq z]
      rfl
  | .inr _ :: _, _, h => by cases h
theorem keysInt_eq : ∀ {ks : List (List Key)} {ns : List (List Int)}, keysInt? ks = some ns → ks = ns.map (List.map Sum.inl)
  | [], ns, h => by cases h; rfl
  | k :: r, ns, h => by
    simp only [keysInt?] at h
    cases z1 : keyInt? k with
    | none => rw [z1] at h; cases h
    | some i =>
      cases z2 : keysInt? r with
      | none => rw [z1, z2] at h; cases h
      | some is =>
        rw [z1, z2] at h
        cases h
        rw [keyInt_eq z1, keysInt_eq z2]
        rfl
def sortedDT : D → Option OD
  | .dT kvs => (keysInt? (kvs.map (·.1))).map fun ks => .lst ((sortL ks).map tupI)
  | _ => none
theorem RepT.keys {K : PySem.W.Frag} {I : Hp} {dk : Addr} : ∀ {kvs : List (List Key × D)} {ws : List (List Key × V)}, RepT K I dk kvs ws → ws.map (·.1) = kvs.map (·.1)
  | [], _, h => by rw [show _ = [] from h]; rfl
  | (k, d) :: r, _, ⟨v, ws, e, h1, h2⟩ => by subst e; rw [List.map_cons, List.map_cons, RepT.keys h2]
section
variable {X : Cx} {dk l : Addr} {W : WX} {pos : Pos}
open Classical in
theorem c_sortedDT (hc : X.calm = true) (hu : X.A.units + 8 < cLine) : CallO X dk l (.builtin "sorted") (g1O sortedDT) := callO1 (cr_sortDT hc hu) fun I H s x v d Q w r e q => by
  cases x with
  | dT kvs =>
    simp only [sortedDT] at e
    cases z : keysInt? (kvs.map (·.1)) with
    | none => rw [z] at e; cases e
    | some ks =>
      rw [z] at e
      cases e
      obtain ⟨a, ws, rfl, h1, h2⟩ := r
      have hk := keysInt_eq z
      refine ⟨a, ws, ks, rfl, .of (w.sub _ _ h1), by rw [h2.keys, hk], fun us p hus e1 hp => ?_⟩
      let I' : Hp := fun b => if (∃ q ∈ us, q.1 = b) then H b else I b
      have inus : ∀ q ∈ us, I' q.1 = some (.tup (q.2.map V.int)) := fun q hq => by
        show (if (∃ q' ∈ us, q'.1 = q.1) then H q.1 else I q.1) = _
        rw [if_pos ⟨q, hq, rfl⟩]
        exact hus q hq
      have sub' : Sm I' H := fun b o hb => by
        have hb' : (if (∃ q ∈ us, q.1 = b) then H b else I b) = some o := hb
        by_cases hm : ∃ q ∈ us, q.1 = b
        · rw [if_pos hm] at hb'; exact hb'
        · rw [if_neg hm] at hb'; exact w.sub b o hb'
      have grow : Sm I I' := fun b o hb => by
        show (if (∃ q ∈ us, q.1 = b) then H b else I b) = _
        by_cases hm : ∃ q ∈ us, q.1 = b
        · rw [if_pos hm]; exact w.sub b o hb
        · rw [if_neg hm]; exact hb
      have nodk : I' dk = none := by
        show (if (∃ q ∈ us, q.1 = dk) then H dk else I dk) = _
        rw [if_neg]
        · exact w.idk
        · rintro ⟨q, hq, e⟩
          have := hus q hq
          rw [e, w.dko] at this
          cases this
      have nol : I' l = none := by
        show (if (∃ q ∈ us, q.1 = l) then H l else I l) = _
        rw [if_neg]
        · exact w.il
        · rintro ⟨q, hq, e⟩
          have := hus q hq
          rw [e, w.lft] at this
          cases this
      have nop : I' p = none := sub'.none hp
      have n1 : p ≠ dk := (ne_of_none w.dko hp).symm
      have n2 : p ≠ l := (ne_of_none w.lft hp).symm
      have w' : Wo dk l I' H s := ⟨sub', w.dko, w.lft, nodk, nol⟩
      have x' : Ext dk l I H I' H := ⟨grow, fun _ _ h _ _ => h, fun b o hb hn => by
        have hb' : (if (∃ q ∈ us, q.1 = b) then H b else I b) = some o := hb
        by_cases hm : ∃ q ∈ us, q.1 = b
        · obtain ⟨q, hq, rfl⟩ := hm
          exact .inr ⟨_, hus q hq⟩
        · rw [if_neg hm, hn] at hb'; cases hb'⟩
      refine q p I' _ (x'.trans (Ext.off w' hp) (w'.off nop n1 n2)) (w'.off nop n1 n2) hp ⟨_, upd_same, ?_⟩ n1 n2 nop
      rw [← e1]
      have go : ∀ zs : List (Addr × List Int), (∀ q ∈ zs, q ∈ us) → RepL X.K I' dk ((zs.map (·.2)).map tupI) (ownTs zs) := fun zs => by
        induction zs with
        | nil => exact fun _ => rfl
        | cons z zs ih => exact fun hz => ⟨V.ref z.1, ownTs zs, rfl, ⟨z.1, _, rfl, inus z (hz z List.mem_cons_self), RepL.ints _⟩, ih fun q hq => hz q (List.mem_cons_of_mem _ hq)⟩
      exact go us fun q hq => hq
  | _ => cases e
/-! ### {} -/
def eDnewT : En → M OD := fun _ => ret (.dT [])
theorem r_dnewT : PE X (.Dict [] [] pos) (liftO X.K dk l W eDnewT) := PE_imp pe_dnewT fun σ H Q ⟨I, env, s, e, w, q⟩ => fun p hp => by
  have n1 : p ≠ dk := (ne_of_none w.dko hp).symm
  have n2 : p ≠ l := (ne_of_none w.lft hp).symm
  have n3 : I p = none := w.sub.none hp
  exact q p I _ (Ext.off w hp) (w.off n3 n1 n2) hp ⟨[], upd_same, rfl⟩ n1 n2 n3
/-! ### d.get(k, x), d one's own -/
def dgetD : OD → D → D → Option D
  | .dK kvs, x, d => (keyD x).map fun k => (valD kvs k).getD d
  | .dT kvs, .tup ks, d => (keysD ks).map fun k => (valD kvs k).getD d
  | _, _, _ => none
def ownDD (env : En) (i : Nat) : Option OD := match env[i]? with
  | some (.own (.dK k)) => some (.dK k)
  | some (.own (.dT k)) => some (.dT k)
  | _ => none
theorem ownDD_eq {env : En} {i : Nat} {o : OD} (h : ownDD env i = some o) : env[i]? = some (.own o) ∧ ∀ ds, o ≠ .lst ds := by
  unfold ownDD at h
  cases z : env[i]? with
  | none => rw [z] at h; cases h
  | some y =>
    rw [z] at h
    cases y with
    | no => cases h
    | val d => cases h
    | own u => cases u with
      | lst ds => cases h
      | dK k => cases h; exact ⟨rfl, fun ds e => by cases e⟩
      | dT k => cases h; exact ⟨rfl, fun ds e => by cases e⟩
def eOwnGet (i : Nat) (mk md : En → M D) : En → M D := fun env => andThen (opt (ownDD env i)) fun o => andThen (mk env) fun x => andThen (md env) fun d => opt (dgetD o x d)
theorem valK_none {K : PySem.W.Frag} {I : Hp} : ∀ {kvs : List (Key × D)} {ws : List (Key × V)} {k : Key}, RepK K I dk kvs ws → valD kvs k = none → valV ws k = none
  | [], _, k, h, _ => by rw [show _ = [] from h]; rfl
  | (a, d') :: r, _, k, ⟨v, ws, e, h1, h2⟩, h => by
    subst e
    unfold valD at h
    unfold valV
    rw [List.find?_cons] at h ⊢
    by_cases hk : a = k
    · simp only [hk, decide_true, Option.map_some] at h
      cases h
    · simp only [hk, decide_false] at h ⊢
      exact valK_none h2 h
theorem valT_none {K : PySem.W.Frag} {I : Hp} : ∀ {kvs : List (List Key × D)} {ws : List (List Key × V)} {k : List Key}, RepT K I dk kvs ws → valD kvs k = none → valV ws k = none
  | [], _, k, h, _ => by rw [show _ = [] from h]; rfl
  | (a, d') :: r, _, k, ⟨v, ws, e, h1, h2⟩, h => by
    subst e
    unfold valD at h
    unfold valV
    rw [List.find?_cons] at h ⊢
    by_cases hk : a = k
    · simp only [hk, decide_true, Option.map_some] at h
      cases h
    · simp only [hk, decide_false] at h ⊢
      exact valT_none h2 h
theorem r_ownGet {o e f : Expr} {apos cpos : Pos} {i : Nat} {mk md : En → M D} (hu : X.A.units + 1 < cLine) (ho : PE X o (tVar i)) (he : PE X e (lift X.K dk l W mk)) (hf : PE X f (lift X.K dk l W md)) (m : M2 X o "get" apos e f cpos) :
    PE X (.Call (.Attribute o "get" apos) [e, f] [] cpos) (lift X.K dk l W (eOwnGet i mk md)) := PE_imp (pe_dget2 hu ho he hf m) fun σ H Q ⟨I, env, s, k, w, q⟩ => by
  obtain ⟨ow, hd, q⟩ := q.bind.opt
  obtain ⟨hd, hnl⟩ := ownDD_eq hd
  obtain ⟨p, g1, g2, _⟩ := k.own i _ hd
  cases ow with
  | lst ds => exact (hnl ds rfl).elim
  | dK kvs =>
    obtain ⟨ws0, f0, _⟩ := g2
    refine ⟨.ref p, g1, p, rfl, .inl ⟨_, .of f0⟩, I, env, s, k, w, q.bind.mono (fun x s1 q v I1 H1 x1 w1 r1 => ?_) fun _ _ _ h => h⟩
    have k1 := k.ext x1
    refine ⟨I1, env, s1, k1, w1, q.bind.mono (fun d s2 q u I2 H2 x2 w2 r2 => ?_) fun _ _ _ h => h.shift x1⟩
    have k2 := k1.ext x2
    obtain ⟨d', hg, q⟩ := q.opt
    obtain ⟨p', g1', ⟨ws, f1, f2⟩, _⟩ := k2.own i _ hd
    rw [g1] at g1'
    cases g1'
    simp only [dgetD] at hg
    cases hk : keyD x with
    | none => rw [hk] at hg; cases hg
    | some key =>
      rw [hk, Option.map_some] at hg
      cases hg
      have ev := keyD_rep r1 hk
      subst ev
      refine ⟨_, DGet.k f1, ?_⟩
      cases hv : valD kvs key with
      | none =>
        rw [valK_none f2 hv]
        rw [hv] at q
        exact q u I2 H2 (x1.trans x2 w2) w2 r2
      | some dv =>
        obtain ⟨y, e1, e2⟩ := valK_rep f2 hv
        rw [e1]
        rw [hv] at q
        exact q y I2 H2 (x1.trans x2 w2) w2 e2
  | dT kvs =>
    obtain ⟨ws0, f0, _⟩ := g2
    refine ⟨.ref p, g1, p, rfl, .inr ⟨_, .of f0⟩, I, env, s, k, w, q.bind.mono (fun x s1 q v I1 H1 x1 w1 r1 => ?_) fun _ _ _ h => h⟩
    have k1 := k.ext x1
    refine ⟨I1, env, s1, k1, w1, q.bind.mono (fun d s2 q u I2 H2 x2 w2 r2 => ?_) fun _ _ _ h => h.shift x1⟩
    have k2 := k1.ext x2
    obtain ⟨d', hg, q⟩ := q.opt
    obtain ⟨p', g1', ⟨ws, f1, f2⟩, _⟩ := k2.own i _ hd
    rw [g1] at g1'
    cases g1'
    cases x with
    | tup ks =>
      simp only [dgetD] at hg
      cases hk : keysD ks with
      | none => rw [hk] at hg; cases hg
      | some key =>
        rw [hk, Option.map_some] at hg
        cases hg
        obtain ⟨b, vs, eb, h1, h2⟩ := r1
        have ev := keysD_rep h2 hk
        subst eb ev
        refine ⟨_, DGet.t f1 (w2.sub _ _ (x2.grow _ _ h1)), ?_⟩
        cases hv : valD kvs key with
        | none =>
          rw [valT_none f2 hv]
          rw [hv] at q
          exact q u I2 H2 (x1.trans x2 w2) w2 r2
        | some dv =>
          obtain ⟨y, e1, e2⟩ := valT_rep f2 hv
          rw [e1]
          rw [hv] at q
          exact q y I2 H2 (x1.trans x2 w2) w2 e2
    | _ => cases hg
/-! ### t[::-1], t a tuple -/
theorem sliceApplied_rev {prog : Program} {w : World} {A : Around} {E : Value → Shared → Prop} {s : Shared} {sl : Addr} {t : Tok} {n : Nat} {Q : Int × Int × Nat → Shared → Prop} (hs : s.heap.IsSliceOf sl .none .none (.int (-1) t))
    (h : Q ((n : Int) - 1, -1, n) s) : wpAny (model prog w) A (Builtin.Slice.sliceApplied (.ref sl) (pure (n : Int))) Q E s := by
  obtain ⟨os, hos, hcs, hds⟩ := id hs
  unfold Builtin.Slice.sliceApplied Builtin.Slice.sliceFields
  refine wpAny_bind (wpAny_bind (wpAny_field hos hds (x := .none) rfl (wpAny_bind (wpAny_field hos hds (x := .none) rfl (wpAny_bind (wpAny_field hos hds (x := .int (-1) t) rfl (wpAny_pure ?_)))))))
  refine wpAny_bind (HT.slicePart_ (.int (-1) t) ?_)
  show wpAny _ _ (if ((-1 : Int) == 0) = true then _ else _) _ _ s
  rw [if_neg (by decide)]
  refine wpAny_bind (HT.slicePart_ .none (wpAny_bind (HT.slicePart_ .none (wpAny_bind (wpAny_pure ?_)))))
  show wpAny _ _ (pure ((n : Int) - 1, (-1 : Int), Builtin.Slice.slicePlaces ((n : Int) - 1) (-1) (-1))) _ _ s
  have e : Builtin.Slice.slicePlaces ((n : Int) - 1) (-1) (-1) = n := by
    unfold Builtin.Slice.slicePlaces
    rw [if_neg (by decide)]
    by_cases hn : (n : Int) - 1 > -1
    · rw [if_pos hn, show (- -1 : Int) = 1 by decide, Int.ediv_one]
      omega
    · rw [if_neg hn]
      omega
  rw [e]
  exact wpAny_pure h
theorem fmap_congr {α β : Type} {f g : α → Option β} : ∀ {xs : List α}, (∀ x ∈ xs, f x = g x) → xs.filterMap f = xs.filterMap g
  | [], _ => rfl
  | x :: xs, h => by rw [List.filterMap_cons, List.filterMap_cons, h x List.mem_cons_self, fmap_congr fun y hy => h y (List.mem_cons_of_mem _ hy)]
theorem pick_rev (xs : Array Value) : ((List.range xs.size).filterMap fun (k : Nat) => xs[(((xs.size : Nat) : Int) - 1 + (k : Int) * -1).toNat]?).toArray = xs.toList.reverse.toArray := by
  have e : (List.range xs.size).filterMap (fun (k : Nat) => xs[(((xs.size : Nat) : Int) - 1 + (k : Int) * -1).toNat]?) = ((List.range xs.size).map fun k => xs.size - 1 - k).filterMap (xs[·]?) := by
    rw [List.filterMap_map]
    refine fmap_congr fun k hk => ?_
    have := List.mem_range.mp hk
    have e2 : (((xs.size : Nat) : Int) - 1 + (k : Int) * -1).toNat = xs.size - 1 - k := by omega
    rw [e2]
    rfl
  rw [e, PySem.W.krv_range, List.filterMap_reverse, PySem.W.krv_all]
theorem getItem_tuple_rev {prog : Program} {w : World} {A : Around} {E : Value → Shared → Prop} {s : Shared} {t sl : Addr} {items : Array Value} {tk : Tok} {Q : Value → Shared → Prop} (ht : IsTup s.heap t items) (hs : s.heap.IsSliceOf sl .none .none (.int (-1) tk))
    (h : Q (.ref s.heap.objs.size) { s with heap := s.heap.push { cls := .type "tuple", data := .seq items.toList.reverse.toArray } })
    (hsz : items.size ≤ sizeLine) : wpAny (model prog w) A (getItem (.ref t) (.ref sl)) Q E s := by
  have htake : sizeOk (.seq items.toList.reverse.toArray) := by
    show items.toList.reverse.toArray.size ≤ sizeLine
    rw [List.size_toArray, List.length_reverse, Array.length_toList]
    exact hsz
  obtain ⟨os, hos, hcs, hds⟩ := id hs
  have hTs : s.TypeIs (.ref sl) "slice" := ⟨os, hos, hcs⟩
  unfold getItem
  try with_reducible refine wpAny_holding ?_
  first | refine wpAny_bind (wpAny_pure ?_) | skip
  refine wpAny_bind (wpAny_sequenceKey ht.typeIs (by decide) ?_)
  refine wpAny_bind (wpAny_callSpecial?_slot (name := Str.ofString "__getitem__") ht.typeIs PyProof.Rows.slot_tuple_getitem
    (wpAny_call_entry PyProof.Rows.slot_tuple_getitem ht.typeIs entry_tuple_getitem ?_ (args_tuple_getitem _ _)))
  show wpAny _ _ (Builtin.Tuple.tupleItemsOf (.ref t) >>= _) _ _ s
  refine wpAny_bind (tupleItemsOf_ ht ?_)
  refine wpAny_bind (wpAny_typeOf hTs ?_)
  rw [if_pos (by decide)]
  refine wpAny_bind (sliceApplied_rev hs ?_)
  have hno : ¬ (((((items.size : Nat) : Int) - 1) == 0 && (-1 : Int) == 1 && items.size == items.size) = true) := by
    intro q
    rw [Bool.and_eq_true, Bool.and_eq_true] at q
    exact absurd q.1.2 (by decide)
  show wpAny _ _ (if ((((items.size : Nat) : Int) - 1) == 0 && (-1 : Int) == 1 && items.size == items.size) = true then _ else _) _ _ s
  rw [if_neg hno, pick_rev]
  first
    | exact wpAny_bind (m := Builtin.Tuple.tupleExact _) (wpAny_newObj_type (wpAny_pure ⟨_, rfl, wpAny_pure h⟩) htake)
    | exact wpAny_bind (m := Builtin.Tuple.tupleExact _) (wpAny_newObj_type (wpAny_bind (wpAny_pure (wpAny_pure ⟨_, rfl, wpAny_pure h⟩))) htake)
    | exact wpAny_bind (wpAny_bind (m := Builtin.Tuple.tupleExact _) (wpAny_newObj_type (wpAny_pure (wpAny_pure ⟨_, rfl, wpAny_pure h⟩)) htake))
    | exact wpAny_bind (wpAny_bind (m := Builtin.Tuple.tupleExact _) (wpAny_newObj_type (wpAny_pure ⟨_, rfl, wpAny_pure h⟩) htake))
def tRevT (K : PySem.W.Frag) (te : TE) : TE := fun σ H Q => te σ H fun x H1 => ∃ a xs, x = .ref a ∧ SqT K H1 a xs ∧ ∀ p, H1 p = none → Q (.ref p) (upd H1 p (.tup xs.reverse))
theorem pe_revT {e : Expr} {te : TE} {k : Nat} {p1 p2 p3 : Pos} (he : PE X e te) : PE X (.Subscript e (.Slice none none (some (.UnaryOp .USub (.Constant (.int 1) k p1) p2)) p3) pos) (tRevT X.K te) := by
  refine ⟨fun pins s σ H Q I h => ?_⟩
  refine Subscript_ (thn (he.run pins s σ H _ I h) fun v s1 ⟨x, H1, I1, r1, q1⟩ => ?_)
  obtain ⟨a, xs, ex, hx, q⟩ := q1
  subst ex
  cases r1
  have hst : PO X (some (.UnaryOp .USub (.Constant (.int 1) k p1) p2)) (tPart (tUn (rU fun i => .int (-i)) (tC (.int 1)))) := po_some (pe_un un_neg pe_int)
  refine wpAny_Slice (thn (po_none.run pins s1 σ H1 (fun o H2 => o = none ∧ H2 = H1) I1 ⟨rfl, rfl⟩) fun vl s2 ⟨l, H2, I2, pl, el, e2⟩ => ?_)
  subst el e2
  refine thn (po_none.run pins s2 σ H2 (fun o H3 => o = none ∧ H3 = H2) I2 ⟨rfl, rfl⟩) fun vu s3 ⟨u, H3, I3, pu, eu, e3⟩ => ?_
  subst eu e3
  refine thn (hst.run pins s3 σ H3 (fun o H4 => o = some (-1) ∧ H4 = H3) I3 ⟨1, rfl, -1, rfl, rfl, rfl⟩) fun vs s4 ⟨o, H4, I4, ps, eo, e4⟩ => ?_
  subst eo e4
  cases pl
  cases pu
  obtain ⟨tk, rfl⟩ : ∃ tk, vs = Value.int (-1) tk := by
    cases ps with
    | int i t => exact ⟨t, rfl⟩
  have I5 : L2.Inv X pins σ H4 { s4 with heap := s4.heap.push { cls := .type "slice", data := .fields #[.none, .none, .int (-1) tk] } } := I4.kept (t' := s4.toks) fun b ob q => Heap.get?_push_of_some _ q
  obtain ⟨its, r, ht, hz⟩ := I5.tuple hx
  have hlen := r.length
  show wpAny (model X.prog X.w) X.A (subscriptTail e (.Slice none none (some (.UnaryOp .USub (.Constant (.int 1) k p1) p2)) p3) (.ref a) (.ref s4.heap.objs.size)) (EP X pins σ Q) X.xe { s4 with heap := s4.heap.push { cls := .type "slice", data := .fields #[.none, .none, .int (-1) tk] } }
  refine tail_any (ops := [.ref a, .ref s4.heap.objs.size]) ht.typeIs (PySem.F.slot_tuple_getitem.lookup) ?_ (by with_unfolding_all rfl)
  refine getItem_tuple_rev ht (Heap.IsSliceOf.new _ .none .none (.int (-1) tk)) ?_ (by rw [List.size_toArray]; omega)
  refine ⟨.ref _, _, I5.laid (t' := s4.toks) (o := .tup xs.reverse) (fun b ob q => Heap.get?_push_of_some _ q) (Nat.le_refl _) ?_, rfl, q _ (I5.hok.fresh (Nat.le_refl _))⟩
  exact ⟨by rw [List.length_reverse]; exact hz, _, r.reverse, IsTup.new _ _⟩
def revTD : D → Option D
  | .tup ds => some (.tup ds.reverse)
  | _ => none
theorem r_revT {e : Expr} {m : En → M D} {k : Nat} {p1 p2 p3 : Pos} (he : PE X e (lift X.K dk l W m)) : PE X (.Subscript e (.Slice none none (some (.UnaryOp .USub (.Constant (.int 1) k p1) p2)) p3) pos) (lift X.K dk l W (eUn revTD m)) := PE_imp (pe_revT he) fun σ H Q ⟨I, env, s, e, w, q⟩ => by
  refine ⟨I, env, s, e, w, q.bind.mono (fun x s1 q v I1 H1 x1 w1 r1 => ?_) fun _ _ _ h => h⟩
  obtain ⟨d, e2, q⟩ := q.opt
  cases x with
  | tup ds =>
    cases e2
    obtain ⟨a, vs, rfl, h1, h2⟩ := r1
    refine ⟨a, vs, rfl, SqT.of (w1.sub _ _ h1), fun p hp => q _ (upd I1 p (.tup vs.reverse)) _ (x1.trans (Ext.new w1 hp) (w1.new hp)) (w1.new hp) ⟨p, _, rfl, upd_same, RepL.mono (Sm.upd (w1.sub.none hp)) _ _ h2.reverse⟩⟩
  | _ => cases e2
end
end PV

end

section
set_option maxRecDepth 100000
namespace PV
open PySem PySem.Spec PyProof.Rows L2
/-! ### the deck -/
inductive Fd where
  | mixed | draws
def Fd.nm : Fd → Str
  | .mixed => "mixed"
  | .draws => "draws"
def Fd.get : Fd → Dk → Int
  | .mixed, s => s.mixed
  | .draws, s => s.draws
def Fd.put : Fd → Dk → Int → Dk
  | .mixed, s, n => { s with mixed := n }
  | .draws, s, n => { s with draws := n }
def isDeck (env : En) (i : Nat) : Bool := match env[i]? with
  | some (.val .deck) => true
  | _ => false
theorem isDeck_eq {env : En} {i : Nat} (h : isDeck env i = true) : env[i]? = some (.val .deck) := by
  unfold isDeck at h
  cases z : env[i]? with
  | none => rw [z] at h; cases h
  | some y =>
    rw [z] at h
    cases y with
    | no => cases h
    | own o => cases h
    | val d => cases d <;> first | rfl | cases h
def eDkI (i : Nat) (f : Fd) : En → M D := fun env s => if isDeck env i = true then .ok (.int (f.get s)) s else .bad
def sDkSet (i : Nat) (f : Fd) (m : En → M D) : En → M Fl := fun env => andThen (m env) fun d => match d with
  | .int n => fun s => if isDeck env i = true then .ok (.nx env) (f.put s n) else .bad
  | _ => bad
def tDkNe (i : Nat) : En → M Bool := fun env s => if isDeck env i = true then .ok (!s.left.isEmpty) s else .bad
def eDkPop (i : Nat) : En → M D := fun env s => if isDeck env i = true then (match s.left.getLast? with
  | some c => .ok (.int c) { s with left := s.left.dropLast }
  | none => .bad) else .bad
def sDkApp (i : Nat) (m : En → M D) : En → M Fl := fun env => if isDeck env i = true then (andThen (m env) fun d => match d with
  | .int n => fun s => if s.left.length < size7 then .ok (.nx env) { s with left := s.left ++ [n] } else .bad
  | _ => bad) else bad
theorem dk_of {K : PySem.W.Frag} {dk l : Addr} {I H : Hp} {env : En} {σ : L2.St} {i : Nat} (e : EnvOk K dk l I H env σ) (h : isDeck env i = true) : σ[i]? = some (some (.ref dk)) := by
  obtain ⟨v, h1, h2⟩ := e.val i .deck (isDeck_eq h)
  rw [h1, show v = _ from h2]
/-- the deck's dict written, its list written -/
theorem Wo.dict {dk l : Addr} {I H : Hp} {s s' : Dk} (w : Wo dk l I H s) (h : s'.left = s.left) : Ext dk l I H I (upd H dk (deckO l s')) ∧ Wo dk l I (upd H dk (deckO l s')) s' :=
  ⟨⟨Sm.refl I, fun a o e n1 n2 => by rw [upd_ne n1]; exact e, fun a o e n => by rw [e] at n; cases n⟩,
   ⟨w.sub.off w.idk, upd_same, by rw [upd_ne w.ne.symm, h]; exact w.lft, w.idk, w.il⟩⟩
theorem Wo.list {dk l : Addr} {I H : Hp} {s s' : Dk} (w : Wo dk l I H s) (h1 : s'.mixed = s.mixed) (h2 : s'.draws = s.draws) : Ext dk l I H I (upd H l (.lst (s'.left.map V.int))) ∧ Wo dk l I (upd H l (.lst (s'.left.map V.int))) s' :=
  ⟨⟨Sm.refl I, fun a o e n1 n2 => by rw [upd_ne n2]; exact e, fun a o e n => by rw [e] at n; cases n⟩,
   ⟨w.sub.off w.il, by rw [upd_ne w.ne, w.dko]; unfold deckO; rw [h1, h2], upd_same, w.idk, w.il⟩⟩
section
variable {X : Cx} {dk l : Addr} {W : WX} {pos p1 p2 : Pos} {I0 H0 : Hp} {x : Str} {j : Nat}
theorem deck_left {H : Hp} {s : Dk} (h : H dk = some (deckO l s)) : DGet H dk (.str "left") (some (.ref l)) := by
  have := DGet.k (k := .inr "left") h
  have e : valV [((.inr "left" : Key), V.ref l), (.inr "mixed", .int s.mixed), (.inr "draws", .int s.draws)] (.inr "left") = some (.ref l) := by
    simp [valV]
  rw [e] at this
  exact this
theorem deck_fd {H : Hp} {s : Dk} (f : Fd) (h : H dk = some (deckO l s)) : DGet H dk (.str f.nm) (some (.int (f.get s))) := by
  cases f with
  | mixed =>
    have := DGet.k (k := .inr "mixed") h
    have e : valV [((.inr "left" : Key), V.ref l), (.inr "mixed", .int s.mixed), (.inr "draws", .int s.draws)] (.inr "mixed") = some (.int s.mixed) := by
      have e1 : decide ((Sum.inr ("left" : Str) : Key) = Sum.inr ("mixed" : Str)) = false := by decide
      have e2 : decide ((Sum.inr ("mixed" : Str) : Key) = Sum.inr ("mixed" : Str)) = true := by decide
      unfold valV
      simp only [List.find?_cons, e1, decide_true, Option.map_some]
    rw [e] at this
    exact this
  | draws =>
    have := DGet.k (k := .inr "draws") h
    have e : valV [((.inr "left" : Key), V.ref l), (.inr "mixed", .int s.mixed), (.inr "draws", .int s.draws)] (.inr "draws") = some (.int s.draws) := by
      have e1 : decide ((Sum.inr ("left" : Str) : Key) = Sum.inr ("draws" : Str)) = false := by decide
      have e2 : decide ((Sum.inr ("mixed" : Str) : Key) = Sum.inr ("draws" : Str)) = false := by decide
      have e3 : decide ((Sum.inr ("draws" : Str) : Key) = Sum.inr ("draws" : Str)) = true := by decide
      unfold valV
      simp only [List.find?_cons, e1, e2, decide_true, Option.map_some]
    rw [e] at this
    exact this
theorem putK_fd (f : Fd) (s : Dk) (n : Int) : HO.dK (putK [((.inr "left" : Key), V.ref l), (.inr "mixed", .int s.mixed), (.inr "draws", .int s.draws)] (.inr f.nm) (.int n)) = deckO l (f.put s n) := by
  have a1 : ((Sum.inr (Str.ofString "left") : Key) = Sum.inr (Str.ofString "mixed")) = False := by simp; decide
  have a2 : ((Sum.inr (Str.ofString "draws") : Key) = Sum.inr (Str.ofString "mixed")) = False := by simp; decide
  have a3 : ((Sum.inr (Str.ofString "left") : Key) = Sum.inr (Str.ofString "draws")) = False := by simp; decide
  have a4 : ((Sum.inr (Str.ofString "mixed") : Key) = Sum.inr (Str.ofString "draws")) = False := by simp; decide
  cases f with
  | mixed => simp only [putK, Fd.nm, Fd.put, deckO, a1, a2, List.any_cons, List.any_nil, List.map_cons, List.map_nil, decide_true, decide_false, Bool.or_true, Bool.true_or, Bool.or_false, if_true, if_false]
  | draws => simp only [putK, Fd.nm, Fd.put, deckO, a3, a4, List.any_cons, List.any_nil, List.map_cons, List.map_nil, decide_true, decide_false, Bool.or_true, Bool.true_or, Bool.or_false, if_true, if_false]
theorem r_dkI (i : Nat) (f : Fd) (hu : X.A.units + 1 < cLine) (h : PE X (.Name x p1) (tVar i)) (hs : NoSl (.Constant (.str f.nm) j p2) := by exact fun _ _ => rfl) : PE X (.Subscript (.Name x p1) (.Constant (.str f.nm) j p2) pos) (lift X.K dk l W (eDkI i f)) := PE_imp (pe_dget hu h pe_str hs) fun σ H Q ⟨I, env, s, e, w, q⟩ => by
  unfold eDkI at q
  by_cases hd : isDeck env i = true
  · rw [if_pos hd] at q
    exact ⟨_, dk_of e hd, dk, _, rfl, deck_fd f w.dko, q _ I H Ext.refl w rfl⟩
  · rw [if_neg hd] at q; exact q.elim
theorem p_dkSet {a : Expr} {m : En → M D} (i : Nat) (f : Fd) (hu : X.A.units + 1 < cLine) (h : PE X (.Name x p1) (tVar i)) (he : PE X a (lift X.K dk l W m)) (hs : swapsWith a (some (.Subscript (.Name x p1) (.Constant (.str f.nm) j p2) pos)) pos.line X.env = pure false := by rfl) {pos' : Pos} (hs' : swapsWith a (some (.Subscript (.Name x p1) (.Constant (.str f.nm) j p2) pos)) pos'.line X.env = pure false := by rfl) :
    PS X (.Assign [.Subscript (.Name x p1) (.Constant (.str f.nm) j p2) pos] a pos') (liftS X.K dk l W I0 H0 (sDkSet i f m)) := PS_imp (ps_dput hu h pe_str he hs') fun D σ H ⟨I, env, s, k, q⟩ => by
  refine ⟨I, env, s, k.eok, k.wo, q.bind.mono (fun d s1 q v I1 H1 x1 w1 r1 => ?_) fun _ _ _ h => k.exq h⟩
  have k1 := k.grow x1 w1
  cases d with
  | int n =>
    by_cases hd : isDeck env i = true
    · simp only [hd, if_true] at q
      have hv : v = .int n := r1
      subst hv
      obtain ⟨x2, w2⟩ := w1.dict (s' := f.put s1 n) (by cases f <;> rfl)
      have hp := DPut.k (k := .inr f.nm) (v := V.int n) w1.dko (by rw [sizeLine_eq]; exact (by decide : 3 < 16777216))
      rw [putK_fd] at hp
      exact ⟨_, dk_of k1.eok hd, dk, _, rfl, hp, q σ I1 _ x1.grow (k1.grow x2 w2)⟩
    · simp only [hd, if_false] at q; exact q.elim
  | _ => exact q.elim
theorem canLayAll_ints : ∀ ns : List Int, PyData.canLayAll0 (ns.map PyData.int) = true
  | [] => by simp [PyData.canLayAll0]
  | n :: ns => by simp [PyData.canLayAll0, PyData.canLay0, canLayAll_ints ns]
theorem depthAll_ints : ∀ ns : List Int, PyData.depthAll (ns.map PyData.int) = 0
  | [] => by simp [PyData.depthAll]
  | n :: ns => by simp [PyData.depthAll, PyData.depth, depthAll_ints ns]
theorem shaped_ints (ns : List Int) : SeqAt.shaped (.list (ns.map PyData.int)) = true := by
  unfold SeqAt.shaped
  simp [PyData.canLay0, PyData.depth, canLayAll_ints, depthAll_ints]
theorem dpAll_ints {K : PySem.W.Frag} {H : Hp} : ∀ ns : List Int, DpAll K H (ns.map V.int) (ns.map PyData.int)
  | [] => .nil
  | n :: ns => .cons (.int n) (dpAll_ints ns)
theorem r_dkNe (i : Nat) {p3 p4 : Pos} (hu1 : X.A.units + 1 < cLine) (hu : X.A.units + 64 < cLine) (h : PE X (.Name x p1) (tVar i)) (hs : NoSl (.Constant (.str "left") j p2) := by exact fun _ _ => rfl) : PT X (.Compare (.Subscript (.Name x p1) (.Constant (.str "left") j p2) p3) [.NotEq] [.List [] p4] pos) (liftT X.K dk l W (tDkNe i)) := PT_imp (pt_cmpR (op_neD hu) (pe_dget hu1 h pe_str hs) (pe_lst pa_nil) (nomark _)) fun σ H Q ⟨I, env, s, e, w, q⟩ => by
  unfold tDkNe at q
  by_cases hd : isDeck env i = true
  · rw [if_pos hd] at q
    refine ⟨_, dk_of e hd, dk, _, rfl, deck_left w.dko, Nat.zero_le _, fun p hp => ?_⟩
    have n1 : p ≠ dk := (ne_of_none w.dko hp).symm
    have n2 : p ≠ l := (ne_of_none w.lft hp).symm
    have n3 : I p = none := w.sub.none hp
    have x1 := Ext.off (o := .lst []) w hp
    have w1 := w.off (o := .lst []) n3 n1 n2
    refine ⟨.list (s.left.map PyData.int), .list [], .lst (.of w1.lft) (dpAll_ints _), .lst (.of upd_same) .nil, shaped_ints _, shaped_ints [], _, rfl, ?_⟩
    have ev : (!PyData.eqv (.list (s.left.map PyData.int)) (.list [])) = !s.left.isEmpty := by
      cases s.left <;> simp [PyData.eqv, PyData.eqvAll]
    rw [ev]
    exact q I _ x1 w1
  · rw [if_neg hd] at q; exact q.elim
theorem r_dkPop (i : Nat) {p3 apos cpos : Pos} (hu1 : X.A.units + 1 < cLine) (h : PE X (.Name x p1) (tVar i)) (hs : NoSl (.Constant (.str "left") j p2) := by exact fun _ _ => rfl)
    (hbase : attributeBase (.Subscript (.Name x p1) (.Constant (.str "left") j p2) p3) "pop" X.env (eval (.Subscript (.Name x p1) (.Constant (.str "left") j p2) p3) X.env) = eval (.Subscript (.Name x p1) (.Constant (.str "left") j p2) p3) X.env := by rfl) (hline : (apos.endLine == cpos.line) = true := by rfl) :
    PE X (.Call (.Attribute (.Subscript (.Name x p1) (.Constant (.str "left") j p2) p3) "pop" apos) [] [] cpos) (lift X.K dk l W (eDkPop i)) := PE_imp (pe_bm0 PySem.F.plainAttrs_list PySem.F.slot_list_pop PySem.F.type_list_pop mt_pop (pe_dget hu1 h pe_str hs) hbase hline) fun σ H Q ⟨I, env, s, e, w, q⟩ => by
  unfold eDkPop at q
  by_cases hd : isDeck env i = true
  · rw [if_pos hd] at q
    refine ⟨_, dk_of e hd, dk, _, rfl, deck_left w.dko, .inl ⟨rfl, _, .of w.lft⟩, ?_⟩
    cases z : s.left.getLast? with
    | none => rw [z] at q; exact q.elim
    | some c =>
      rw [z] at q
      obtain ⟨x1, w1⟩ := w.list (s' := { s with left := s.left.dropLast }) rfl rfl
      refine ⟨l, s.left.map V.int, .int c, rfl, rfl, w.lft, ?_, ?_⟩
      · rw [List.length_map, List.getElem?_map]
        rw [List.getLast?_eq_getElem?] at z
        rw [z]
        rfl
      · rw [← List.map_dropLast]
        exact q _ I _ x1 w1 rfl
  · rw [if_neg hd] at q; exact q.elim
theorem p_dkApp (i : Nat) {a : Expr} {m : En → M D} {p3 apos cpos : Pos} (hu1 : X.A.units + 1 < cLine) (h : PE X (.Name x p1) (tVar i)) (he : PE X a (lift X.K dk l W m)) (hs : NoSl (.Constant (.str "left") j p2) := by exact fun _ _ => rfl)
    (hbase : attributeBase (.Subscript (.Name x p1) (.Constant (.str "left") j p2) p3) "append" X.env (eval (.Subscript (.Name x p1) (.Constant (.str "left") j p2) p3) X.env) = eval (.Subscript (.Name x p1) (.Constant (.str "left") j p2) p3) X.env := by rfl)
    (hfew : ((backTo cpos (starEach [a] X.env)).all (fun x => !x.1) && (backToKw cpos (keywordEach [] X.env)).all (fun x => x.1.isSome)
      && decide ([a].length + ([] : List Keyword).length + (if ([] : List Keyword).isEmpty then 0 else 1) < 30)) = true := by rfl)
    (hline : (apos.endLine == cpos.line) = true := by rfl) (hst : starEach [a] X.env = (false, eval a X.env) :: starEach [] X.env := by rfl) (hplain : (backTo cpos (starEach [] X.env)).any (·.1) = false := by rfl)
    (hsw : swapsWith (.Call (.Attribute (.Subscript (.Name x p1) (.Constant (.str "left") j p2) p3) "append" apos) [a] [] cpos) none pos.line X.env = pure false := by rfl) :
    PS X (.Expr (.Call (.Attribute (.Subscript (.Name x p1) (.Constant (.str "left") j p2) p3) "append" apos) [a] [] cpos) pos) (liftS X.K dk l W I0 H0 (sDkApp i m)) :=
  PS_imp (ps_expr (pe_bm PySem.F.plainAttrs_list PySem.F.slot_list_append PySem.F.type_list_append mt_append (pe_dget hu1 h pe_str hs) (pa_cons he pa_nil hst) hbase hfew hline hst hplain) hsw) fun D σ H ⟨I, env, s, k, q⟩ => by
  unfold sDkApp at q
  by_cases hd : isDeck env i = true
  · rw [if_pos hd] at q
    refine ⟨_, dk_of k.eok hd, dk, _, rfl, deck_left k.wo.dko, .inl ⟨rfl, _, .of k.wo.lft⟩, I, env, s, k.eok, k.wo, q.bind.mono (fun d s1 q v I1 H1 x1 w1 r1 => ?_) fun _ _ _ h => k.exq h⟩
    have k1 := k.grow x1 w1
    cases d with
    | int n =>
      by_cases hz : s1.left.length < size7
      · simp only [hz, if_true] at q
        have hv : v = .int n := r1
        subst hv
        obtain ⟨x2, w2⟩ := w1.list (s' := { s1 with left := s1.left ++ [n] }) rfl rfl
        refine ⟨l, _, .int n, rfl, rfl, w1.lft, by rw [List.length_map]; exact Nat.lt_of_lt_of_le hz (by decide), ?_⟩
        have hm : s1.left.map V.int ++ [V.int n] = (s1.left ++ [n]).map V.int := by simp
        rw [hm]
        exact q σ I1 _ x1.grow (k1.grow x2 w2)
      · simp only [hz, if_false] at q; exact q.elim
    | _ => exact q.elim
  · rw [if_neg hd] at q; exact q.elim
end
end PV

end

section
/-- the i-th statement of a program's text -/
def nthS : List PySem.Stmt → Nat → Option PySem.Stmt
  | [], _ => none
  | s :: _, 0 => some s
  | _ :: r, n + 1 => nthS r n
structure PickS (b : List PySem.Stmt) (i : Nat) where
  st : PySem.Stmt
  eq : nthS b i = some st
namespace PV
open PySem PySem.Spec PyProof.Rows L2
theorem bt_isinstance : bootBuiltins "isinstance" = some (.builtin "isinstance") := by kernel_rfl
theorem bt_all : bootBuiltins "all" = some (.builtin "all") := by kernel_rfl
theorem bt_any : bootBuiltins "any" = some (.builtin "any") := by kernel_rfl
theorem bt_sum : bootBuiltins "sum" = some (.builtin "sum") := by kernel_rfl
theorem bt_max : bootBuiltins "max" = some (.builtin "max") := by kernel_rfl
theorem bt_abs : bootBuiltins "abs" = some (.builtin "abs") := by kernel_rfl
theorem bt_repr : bootBuiltins "repr" = some (.builtin "repr") := by kernel_rfl
theorem bt_sorted : bootBuiltins "sorted" = some (.builtin "sorted") := by kernel_rfl
theorem bt_int : bootBuiltins "int" = some (.type "int") := by kernel_rfl
theorem bt_bool : bootBuiltins "bool" = some (.type "bool") := by kernel_rfl
theorem bt_str : bootBuiltins "str" = some (.type "str") := by kernel_rfl
theorem bt_tuple : bootBuiltins "tuple" = some (.type "tuple") := by kernel_rfl
theorem bt_list : bootBuiltins "list" = some (.type "list") := by kernel_rfl
theorem bt_dict : bootBuiltins "dict" = some (.type "dict") := by kernel_rfl
end PV

end

section
set_option maxRecDepth 100000
namespace PV
open PySem PySem.Spec PyProof.Rows L2
def spDk (K : PySem.W.Frag) : Sp := fun vs H Q E => ∃ (a : Addr) (ns : List Int) (n : Int), vs = [.ref a, .int n] ∧ SqL K H a (ns.map V.int) ∧ ns.length ≤ 63 ∧
  ∀ (H' : Hp) (dk l : Addr) (s : Dk), (∀ b o, H b = some o → H' b = some o) → H' dk = some (deckO l s) → H' l = some (.lst (s.left.map V.int)) → s.left.length ≤ 63 → Q (.ref dk) H'
theorem cut_ints (ns : List Int) (lo hi : Option Int) : ∃ ms : List Int, cutV (ns.map V.int) lo hi = ms.map V.int ∧ ms.length ≤ ns.length := by
  refine ⟨(ns.drop (HT.sIx ns.length 0 lo)).take (HT.sIx ns.length ns.length hi - HT.sIx ns.length 0 lo), ?_, ?_⟩
  · unfold cutV
    rw [List.length_map, ← List.map_drop, ← List.map_take]
  · rw [List.length_take, List.length_drop]; omega
/-- what the deck's making reads of its body -/
theorem deck_read {K : PySem.W.Frag} {H : Hp} {a : Addr} {ns : List Int} (hS : SqL K H a (ns.map V.int)) {H2 : Hp} (k : ∀ b o, H b = some o → H2 b = some o) : SqL K H2 a (ns.map V.int) := Sm.sqL k hS
end PV
namespace PV
open PySem PySem.Spec PyProof.Rows L2
/-! ### the law's own body: the deck is made, the rest goes by the mirror -/
section
variable {X : Cx} {W : WX} {k : Nat} {f : Addr} {fd : FuncData} {ps : List Str} {x : Str} {p pos : Pos} {e : Expr} {es : List Expr} {sp : Sp} {t : TA}
theorem pe_callG (G : FnG X.prog X.w X.K X.mg X.base k f fd ps sp) (hG : X.A.guards = some []) (hr : Room k X.A) (hg : Gl X x) (hm : X.mg x = some (.ref f)) (hk : PySem.W.keepIn X.K (.ref f) = true) (hb : Binds X.K fd ps []) (hx : ∀ σ, PassesAt (L2.CX X.prog X.w) X σ (fun c d H => W c d σ H))
    (ha : PA X (e :: es) t) (hdb : (x == ("__debug__" : Str)) = false := by decide) (he : starEach (e :: es) X.env = (false, eval e X.env) :: starEach es X.env := by rfl) (hpl : (backTo pos (starEach es X.env)).any (·.1) = false := by rfl) :
    PE X (.Call (.Name x p) (e :: es) [] pos) (fun σ H Q => t σ H fun vs H1 => sp vs H1 Q (fun c d H => W c d σ H)) := by
  refine ⟨fun pins z σ H Q J h => wpAny_Call_Name_kw (ld_glob J hg hm ?_ hdb)⟩
  refine PySem.W.callWith_K (h₀ := X.base) J.ok.mod.kin hk (thn (ha.run pos pins z σ H _ J h) fun us z1 ⟨vs, H1, J1, r, y⟩ => ⟨J1.kIn, ?_⟩) he hpl
  have hl : us.length = ps.length := by rw [← r.length]; exact G.len _ _ _ _ y
  have b := hb z1 us J1.kIn (by rw [List.append_nil]; exact hl)
  rw [List.append_nil] at b
  refine wpAny_call (codeAny_mono (run_def G hG hr b (hx σ) J1 r y) fun rr z2 t => ?_)
  cases rr with
  | error e => exact t
  | ok fl =>
    cases fl with
    | ret u => exact t
    | next => exact t.elim
    | brk => exact t.elim
    | cont => exact t.elim
end
def spLaw (K : PySem.W.Frag) : Sp := fun vs H Q _ => ∃ (a : Addr) (ns : List Int), vs = [.ref a] ∧ SqL K H a (ns.map V.int) ∧ ns.length ≤ 63 ∧ ∀ H', Q (.bl true) H'
def lawEnv (n : Nat) : En := .no :: .val .deck :: List.replicate (n - 2) .no
theorem pss_any {X : Cx} {rest : List Stmt} {W : WX} {B : En → M Fl} (h : ∀ (dk l : Addr) (I0 H0 : Hp), PSs X rest (liftS X.K dk l W I0 H0 B)) : PSs X rest (fun D σ H => ∃ dk l I0 H0, liftS X.K dk l W I0 H0 B D σ H) := ⟨fun pins s σ H Q J ⟨dk, l, I0, H0, q⟩ => (h dk l I0 H0).run pins s σ H Q J q⟩
theorem lawEnv_no {n i : Nat} {o : OD} (h : (lawEnv n)[i]? = some (.own o)) : False := by
  match i with
  | 0 => cases h
  | 1 => cases h
  | i + 2 =>
    have h' : (List.replicate (n - 2) Slot.no)[i]? = some (.own o) := h
    rw [List.getElem?_replicate] at h'
    split at h' <;> cases h'
theorem law_start {K : PySem.W.Frag} {W : WX} {B : En → M Fl} {n : Nat} {D : Ends} {a dk l : Addr} {H : Hp} {s : Dk} (hn : 2 ≤ n) (h1 : H dk = some (deckO l s)) (h2 : H l = some (.lst (s.left.map V.int))) (hB : ∃ s', B (lawEnv n) s = .ok (.rt (.bl true)) s') (q : ∀ H', D.rt (.bl true) H') :
    ∃ dk' l' I0 H0, liftS K dk' l' W I0 H0 B D (some (.ref a) :: some (.ref dk) :: List.replicate (n - 2) none) H := by
  obtain ⟨s', e⟩ := hB
  refine ⟨dk, l, fun _ => none, H, fun _ => none, lawEnv n, s, ⟨⟨by simp [lawEnv], fun i d h => ?_, fun i o h => (lawEnv_no h).elim, fun i j o u p h => (lawEnv_no h).elim⟩, ⟨fun _ _ h => (by cases h), h1, h2, rfl, rfl⟩, Ext.refl, fun i o p h => (lawEnv_no h).elim⟩, ?_⟩
  · match i with
    | 0 => cases h
    | 1 => cases h; exact ⟨_, rfl, rfl⟩
    | i + 2 =>
      exfalso
      have h' : (List.replicate (n - 2) Slot.no)[i]? = some (.val d) := h
      rw [List.getElem?_replicate] at h'
      split at h' <;> cases h'
  · rw [e]
    intro v I' H' _ _ r
    rw [show v = _ from r]
    exact q H'
end PV
namespace PV
open PySem PySem.Spec PyProof.Rows L2
theorem law_start' {K : PySem.W.Frag} {W : WX} {B : En → M Fl} {n : Nat} {D : Ends} {a dk l : Addr} {H : Hp} {s : Dk} {σ : L2.St} (hσ : σ = some (.ref a) :: some (.ref dk) :: List.replicate (n - 2) none) (hn : 2 ≤ n) (h1 : H dk = some (deckO l s)) (h2 : H l = some (.lst (s.left.map V.int))) (hB : ∃ s', B (lawEnv n) s = .ok (.rt (.bl true)) s') (q : ∀ H', D.rt (.bl true) H') :
    ∃ dk' l' I0 H0, liftS K dk' l' W I0 H0 B D σ H := by
  subst hσ
  exact law_start hn h1 h2 hB q
end PV

end

section
set_option maxRecDepth 100000
namespace PV
open PySem PySem.Spec PyProof.Rows L2
/-! ### the row's end for a law's def whose promise wants that nothing guards around it -/
abbrev Good (s₁ : Shared) : Result → Shared → Prop := fun r s' => r = .ok (.ret (.bool true)) ∧ OldK s₁.heap s'.heap ∧ s'.os = s₁.os ∧ AllBare s'.gens
section
variable {P : Program} {w : World} {K : PySem.W.Frag} {mg mb : Str → Option Value} {k : Nat} {fa a : Addr} {fd : FuncData} {s₁ : Shared} {vs : List Value} {ns : List Int}
/-- from a heap of which at most the script is tracked -/
theorem ask_from (hM : ∀ H : Hp, (∀ b, H b ≠ none → b = a) → (H a ≠ none → K.lookup a = none) → Mod K mg (hidT s₁.heap H)) (hgen : s₁.gens = #[]) (room : Room k callerA)
    (F : ∀ base : Heap, K.In base → base.Ns mainGlobals mg → FnG P w K mg base k fa fd ["script"] (spLaw K)) (bind : ∀ (s : Shared) (u : Value), BindsTo s fd ⟨[u], []⟩ [("script", u)]) (hl : ns.length ≤ 63)
    (T : Hp) (only : ∀ b, T b = none ∨ ∃ o xs, T b = some (.frz o (.lst xs))) (hS : SqL K T a (ns.map V.int)) (ok : HOk P w T s₁.heap) (hA : ∀ b, T b ≠ none → b = a) (hK : T a ≠ none → K.lookup a = none) :
    codeAny (model P w) callerA (.call (.ref fa) ⟨[.ref a], []⟩) (Good s₁) s₁ := by
  have mod := hM T hA hK
  have env : Env0 P w K mg (hidT s₁.heap T) callerA [] s₁ T := ⟨rfl, mod, fun b o e => of_hidT e, Nat.le_of_eq (hidT_size _ _), trivial, fun b hb => (by cases hb), ok, .of_eq hgen⟩
  have run := (F _ mod.kin mod.glob).run callerA [] s₁ T ⟨[.ref a], []⟩ [.ref a] [.ref a] (fun v _ => v = .bl true) (fun _ _ _ => False) rfl room env (bind s₁ (.ref a)) (.cons rfl .nil) ⟨a, ns, rfl, hS, hl, fun _ => rfl⟩
  refine codeAny_mono run fun res s' got => ?_
  match res, got with
  | .error e, got =>
    obtain ⟨_, _, _, _, _, _, _, _, _, _, _, _, y⟩ := got
    exact y.elim
  | .ok .next, got => exact got.elim
  | .ok .brk, got => exact got.elim
  | .ok .cont, got => exact got.elim
  | .ok (.ret u), got =>
    obtain ⟨v, H', os, bare, un, ok', rv, ev⟩ := got
    have ev' : v = .bl true := ev
    subst ev'
    have eu : u = Value.bool true := rv
    subst eu
    refine ⟨rfl, OldK.of_keep fun b o e => ?_, os, bare⟩
    cases tb : T b with
    | none => exact un.keep b o e tb (fun z => by cases z) (fun z => by cases z)
    | some t =>
      rcases only b with z | ⟨ob, xs, z⟩
      · rw [tb] at z; cases z
      · have later := un.frzs b ob _ z
        obtain ⟨was, _⟩ := ok b _ z
        obtain ⟨now, _⟩ := ok' b _ later
        rw [e] at was
        cases was
        exact now
theorem ask (KX : K.In s₁.heap) (hns : s₁.heap.Ns mainGlobals mg) (hb : s₁.heap.Ns builtinsNs mb) (hbb : ∀ x : Str, x ≠ "__name__" → mb x = bootBuiltins x) (lim : s₁.heap.NoLimit) (hgen : s₁.gens = #[])
    (ha : s₁.heap.get? a = some { cls := .type "list", data := .seq vs.toArray }) (hi : IntsAre vs ns) (hl : ns.length ≤ 63) (room : Room k callerA)
    (F : ∀ base : Heap, K.In base → base.Ns mainGlobals mg → FnG P w K mg base k fa fd ["script"] (spLaw K)) (bind : ∀ (s : Shared) (u : Value), BindsTo s fd ⟨[u], []⟩ [("script", u)]) :
    codeAny (model P w) callerA (.call (.ref fa) ⟨[.ref a], []⟩) (Good s₁) s₁ := by
  have nums := vals_ints hi
  have size : ns.length ≤ sizeLine := Nat.le_trans hl (by decide)
  have hM : ∀ T : Hp, (∀ b, T b ≠ none → b = a) → (T a ≠ none → K.lookup a = none) → Mod K mg (hidT s₁.heap T) := fun T hA hK => by
    have free : ∀ {b : Addr} {o : Obj} {es : Array DictEntry} {ep : Nat}, s₁.heap.get? b = some o → o.data = .dict es ep → T b = none := fun {b o es ep} e d => by
      cases tb : T b with
      | none => rfl
      | some u =>
        have eb : b = a := hA b (by rw [tb]; simp)
        rw [eb, ha] at e
        cases e
        cases (show Data.seq vs.toArray _ = Data.dict es ep from d)
    have move : ∀ {b : Addr} {m : Str → Option Value}, s₁.heap.Ns b m → (hidT s₁.heap T).Ns b m := fun ⟨o, es, ep, e, d, r⟩ => ⟨o, es, ep, hidT_get e (free e d), d, r⟩
    refine ⟨fun b o e => hidT_get (KX b o e) ?_, move hns, ⟨mb, move hb, hbb⟩, (let ⟨mc, h1, h2⟩ := lim; ⟨mc, move h1, h2⟩)⟩
    cases tb : T b with
    | none => rfl
    | some u =>
      have eb : b = a := hA b (by rw [tb]; simp)
      rw [eb] at tb e
      rw [hK (by rw [tb]; simp)] at e
      cases e
  cases known : K.lookup a with
  | some o =>
    have e := KX a o known
    rw [ha] at e
    cases e
    exact ask_from hM hgen room F bind hl (fun _ => none) (fun _ => .inl rfl) (.inr ⟨_, vs.toArray, _, known, rfl, rfl, rfl, by rw [List.size_toArray, hi.length]; exact size, by simpa using nums⟩) (fun b u z => by cases (show (none : Option HO) = some u from z)) (fun b z => absurd rfl z) fun z => absurd rfl z
  | none =>
    refine ask_from hM hgen room F bind hl (L2.upd (fun _ => none) a (.frz { cls := .type "list", data := .seq vs.toArray } (.lst (ns.map V.int)))) (fun b => ?_) (.inl (.inr ⟨{ cls := .type "list", data := .seq vs.toArray }, upd_same⟩)) (fun b u z => ?_) (fun b z => ?_) fun _ => known
    · by_cases hb : b = a
      · subst hb; exact .inr ⟨_, _, upd_same⟩
      · exact .inl (by rw [upd_ne hb])
    · by_cases hb : b = a
      · subst hb
        rw [upd_same] at z
        cases z
        exact ⟨ha, by rw [List.length_map]; exact size, vs, _, nums, ha⟩
      · rw [upd_ne hb] at z; cases z
    · refine Classical.byContradiction fun hb => z ?_
      rw [upd_ne hb]
end
theorem walkG {l : PySem.W.OpenLaw} {k : Nat} {q : Program} {loose : List Str} {XP : (Str → Option Value) → Heap → Prop} {YP : World → Heap → Prop} {d : DefRec} {K : Params → PySem.W.Frag}
    (most : l.most = some 63) (noD : d.params.defaults = []) (room : Room k callerA) (have_ : ∀ (w : World) (h : Heap), YP w h → (K w.params).In h)
    (F : ∀ (w : World) (mg : Str → Option Value) (fa : Addr) (h : Heap), (K w.params).In h → h.Ns mainGlobals mg → mg d.name = some (.ref fa) →
      ∃ fd : FuncData, (∀ (s : Shared) (u : Value), BindsTo s fd ⟨[u], []⟩ [("script", u)]) ∧ ∀ base : Heap, (K w.params).In base → base.Ns mainGlobals mg → FnG l.prog w (K w.params) mg base k fa fd ["script"] (spLaw (K w.params))) :
    PySem.W.WalkO q loose XP YP l.row.toRowW d [] (fun f vs => PySem.call f vs) := by
  refine Att.attach_call most noD fun w s₀ s₁ mg mb fa o pm cd doc a vs ns G Y ho hd hcd hmg hobj hints hlen hg => ?_
  have KX := have_ w _ Y
  obtain ⟨fd, bind, hF⟩ := F w mg fa _ KX G.T.g hmg
  exact ask KX G.T.g G.T.b G.T.builtins G.T.nolimit hg hobj hints hlen room hF bind
end PV

end

section
set_option maxRecDepth 100000
namespace PV
open PySem PySem.Spec PyProof.Rows L2
/-! ### what a mirror comes to, step by step -/
def Ev {α : Type} (m : M α) (s : Dk) (a : α) (s' : Dk) : Prop := m s = .ok a s'
theorem ev_ret {α : Type} {a : α} {s : Dk} : Ev (PV.ret a) s a s := rfl
theorem ev_bind {α β : Type} {m : M α} {f : α → M β} {s s1 s2 : Dk} {a : α} {b : β} (h : Ev m s a s1) (h2 : Ev (f a) s1 b s2) : Ev (andThen m f) s b s2 := by
  unfold Ev at h h2 ⊢
  unfold andThen
  rw [h]
  exact h2
theorem ev_opt {α : Type} {o : Option α} {a : α} {s : Dk} (h : o = some a) : Ev (PV.opt o) s a s := by rw [h]; rfl
section
variable {env : En} {s s1 s2 s3 : Dk} {d x y z : D} {b c : Bool} {i : Nat}
theorem ev_var (h : env[i]? = some (.val d)) : Ev (eVar i env) s d s := by unfold eVar; rw [h]; rfl
theorem ev_c : Ev (eC d env) s d s := rfl
theorem ev_op {g : D → D → Option D} {m n : En → M D} (h1 : Ev (m env) s x s1) (h2 : Ev (n env) s1 y s2) (h3 : g x y = some d) : Ev (eOp g m n env) s d s2 := ev_bind h1 (ev_bind h2 (ev_opt h3))
theorem ev_un {g : D → Option D} {m : En → M D} (h1 : Ev (m env) s x s1) (h3 : g x = some d) : Ev (eUn g m env) s d s1 := ev_bind h1 (ev_opt h3)
theorem ev_if {t : En → M Bool} {m n : En → M D} (h : Ev (t env) s c s1) (h1 : c = true → Ev (m env) s1 d s2) (h2 : c = false → Ev (n env) s1 d s2) : Ev (eIf t m n env) s d s2 := ev_bind h (by cases c with
  | true => exact h1 rfl
  | false => exact h2 rfl)
theorem ev_anil : Ev (eAnil env) s [] s := rfl
theorem ev_acons {m : En → M D} {n : En → M (List D)} {ds : List D} (h1 : Ev (m env) s d s1) (h2 : Ev (n env) s1 ds s2) : Ev (eAcons m n env) s (d :: ds) s2 := ev_bind h1 (ev_bind h2 ev_ret)
theorem ev_astar {m : En → M D} {n : En → M (List D)} {ds es : List D} (h1 : Ev (m env) s d s1) (h3 : seqOf d = some es) (h2 : Ev (n env) s1 ds s2) : Ev (eAstar m n env) s (es ++ ds) s2 := ev_bind h1 (ev_bind (ev_opt h3) (ev_bind h2 ev_ret))
theorem ev_mapA {g : List D → Option D} {n : En → M (List D)} {ds : List D} (h1 : Ev (n env) s ds s1) (h2 : g ds = some d) : Ev (eMapA g n env) s d s1 := ev_bind h1 (ev_opt h2)
theorem ev_mapO {g : List D → Option OD} {n : En → M (List D)} {ds : List D} {o : OD} (h1 : Ev (n env) s ds s1) (h2 : g ds = some o) : Ev (eMapO g n env) s o s1 := ev_bind h1 (ev_opt h2)
theorem ev_mapI {g : List D → Option (List D)} {n : En → M (List D)} {ds o : List D} (h1 : Ev (n env) s ds s1) (h2 : g ds = some o) : Ev (eMapI g n env) s o s1 := ev_bind h1 (ev_opt h2)
theorem ev_items {m : En → M D} {o : List D} (h1 : Ev (m env) s d s1) (h2 : seqOf d = some o) : Ev (eItems m env) s o s1 := ev_bind h1 (ev_opt h2)
theorem ev_call {F : List D → M D} {n : En → M (List D)} {ds : List D} {k : Nat} (h1 : Ev (n env) s ds s1) (hk : ds.length = k) (h2 : Ev (F ds) s1 d s2) : Ev (eCall (cN k F) n env) s d s2 := ev_bind h1 (by unfold cN; rw [if_pos hk]; exact h2)
theorem ev_callK {F : List D → M D} {n : En → M (List D)} {ds es : List D} {k : Nat} {π : List Nat} (h1 : Ev (n env) s ds s1) (he : permL π ds = es) (hk : es.length = k) (h2 : Ev (F es) s1 d s2) : Ev (eCallK (cN k F) π n env) s d s2 := ev_bind h1 (by subst he; unfold cN; rw [if_pos hk]; exact h2)
theorem ev_frz {m : En → M OD} {o : OD} (h : Ev (m env) s o s1) : Ev (eFrz m env) s o.d s1 := ev_bind h ev_ret
theorem ev_andT {t u : En → M Bool} (h : Ev (t env) s c s1) (h1 : c = true → Ev (u env) s1 b s2) (h2 : c = false → b = false ∧ s2 = s1) : Ev (tAnd' t u env) s b s2 := ev_bind h (by cases c with
  | true => exact h1 rfl
  | false => obtain ⟨rfl, rfl⟩ := h2 rfl; exact ev_ret)
theorem ev_orT {t u : En → M Bool} (h : Ev (t env) s c s1) (h1 : c = false → Ev (u env) s1 b s2) (h2 : c = true → b = true ∧ s2 = s1) : Ev (tOr' t u env) s b s2 := ev_bind h (by cases c with
  | false => exact h1 rfl
  | true => obtain ⟨rfl, rfl⟩ := h2 rfl; exact ev_ret)
theorem ev_notT {t : En → M Bool} (h : Ev (t env) s c s1) : Ev (tNot' t env) s (!c) s1 := ev_bind h ev_ret
theorem ev_tval {m : En → M D} (h : Ev (m env) s (.bl c) s1) : Ev (tVal m env) s c s1 := ev_bind h (ev_opt rfl)
theorem ev_andV {m n : En → M D} (h : Ev (m env) s (.bl c) s1) (h1 : c = true → Ev (n env) s1 d s2) (h2 : c = false → d = .bl false ∧ s2 = s1) : Ev (eAndV m n env) s d s2 := ev_bind h (by cases c with
  | true => exact h1 rfl
  | false => obtain ⟨rfl, rfl⟩ := h2 rfl; exact ev_ret)
theorem ev_orV {m n : En → M D} (h : Ev (m env) s (.bl c) s1) (h1 : c = false → Ev (n env) s1 d s2) (h2 : c = true → d = .bl true ∧ s2 = s1) : Ev (eOrV m n env) s d s2 := ev_bind h (by cases c with
  | false => exact h1 rfl
  | true => obtain ⟨rfl, rfl⟩ := h2 rfl; exact ev_ret)
theorem ev_notV {m : En → M D} (h : Ev (m env) s (.bl c) s1) : Ev (eNotV m env) s (.bl (!c)) s1 := ev_bind h ev_ret
theorem ev_chain {g g' : D → D → Option D} {m n k : En → M D} (h1 : Ev (m env) s x s1) (h2 : Ev (n env) s1 y s2) (h3 : g x y = some (.bl c)) (h4 : c = true → ∃ w, Ev (k env) s2 w s3 ∧ g' y w = some d) (h5 : c = false → d = .bl false ∧ s3 = s2) : Ev (eChain g g' m n k env) s d s3 :=
  ev_bind h1 (ev_bind h2 (ev_bind (ev_opt h3) (by cases c with
    | true => obtain ⟨w, a, e⟩ := h4 rfl; exact ev_bind a (ev_opt e)
    | false => obtain ⟨rfl, rfl⟩ := h5 rfl; exact ev_ret)))
/-! statements -/
theorem ev_seq {a b' : En → M Fl} {e : En} {f : Fl} (h1 : Ev (a env) s (.nx e) s1) (h2 : Ev (b' e) s1 f s2) : Ev (sSeq a b' env) s f s2 := ev_bind h1 h2
theorem ev_seqR {a b' : En → M Fl} (h1 : Ev (a env) s (.rt d) s1) : Ev (sSeq a b' env) s (.rt d) s1 := ev_bind h1 ev_ret
theorem ev_rt {m : En → M D} (h : Ev (m env) s d s1) : Ev (sRet m env) s (.rt d) s1 := ev_bind h ev_ret
theorem ev_sif {t : En → M Bool} {a b' : En → M Fl} {f : Fl} (h : Ev (t env) s c s1) (h1 : c = true → Ev (a env) s1 f s2) (h2 : c = false → Ev (b' env) s1 f s2) : Ev (sIf t a b' env) s f s2 := ev_bind h (by cases c with
  | true => exact h1 rfl
  | false => exact h2 rfl)
theorem ev_next : Ev (sNext env) s (.nx env) s := rfl
theorem ev_asg {p : Pat} {m : En → M D} {e : En} (h : Ev (m env) s d s1) (h2 : bindP p d env = some e) : Ev (sAsg p m env) s (.nx e) s1 := ev_bind h (ev_bind (ev_opt h2) ev_ret)
theorem ev_asgN {m : En → M D} (h : Ev (m env) s d s1) : Ev (sAsg (.nm i) m env) s (.nx (env.set i (.val d))) s1 := ev_asg h (by simp only [bindP])
theorem ev_asgO {m : En → M OD} {o : OD} (h : Ev (m env) s o s1) : Ev (sAsgO i m env) s (.nx (env.set i (.own o))) s1 := ev_bind h ev_ret
theorem ev_2nil : Ev (e2nil env) s [] s := rfl
theorem ev_2val {m : En → M D} {r : En → M (List It2)} {xs : List It2} (h : Ev (m env) s d s1) (h2 : Ev (r env) s1 xs s2) : Ev (e2val m r env) s (.val d :: xs) s2 := ev_bind h (ev_bind h2 ev_ret)
theorem ev_2own {m : En → M OD} {r : En → M (List It2)} {xs : List It2} {o : OD} (h : Ev (m env) s o s1) (h2 : Ev (r env) s1 xs s2) : Ev (e2own m r env) s (.own o :: xs) s2 := ev_bind h (ev_bind h2 ev_ret)
theorem ev_asg2 {is : List Nat} {m : En → M (List It2)} {xs : List It2} {e : En} (h : Ev (m env) s xs s1) (hl : xs.length ≤ 1000) (h2 : bind2 is xs env = some e) : Ev (sAsg2 is m env) s (.nx e) s1 := ev_bind h (by rw [if_pos hl]; exact ev_bind (ev_opt h2) ev_ret)
theorem ev_run {n : Nat} {B : En → M Fl} {ds : List D} (h : Ev (B (env0 n ds)) s (.rt d) s1) : Ev (runF n B ds) s d s1 := ev_bind h ev_ret
theorem ev_runN {n : Nat} {B : En → M Fl} {ds : List D} {e : En} (h : Ev (B (env0 n ds)) s (.nx e) s1) : Ev (runF n B ds) s .non s1 := ev_bind h ev_ret
theorem ev_sfrz {is : List Nat} {m : En → M Fl} {f : Fl} {e : En} (he : frzAll is env = e) (h : Ev (m e) s f s1) : Ev (sFrz is m env) s f s1 := by subst he; exact h
theorem ev_for {it : En → M (List D)} {p : Pat} {b' : En → M Fl} {ds : List D} {f : Fl} (h : Ev (it env) s ds s1) (h2 : Ev (forM' p b' ds env) s1 f s2) : Ev (sFor it p b' env) s f s2 := ev_bind h h2
theorem ev_for0 {p : Pat} {b' : En → M Fl} : Ev (forM' p b' [] env) s (.nx env) s := rfl
theorem ev_for1 {p : Pat} {b' : En → M Fl} {ds : List D} {e e2 : En} {f : Fl} (h1 : bindP p d env = some e) (h2 : Ev (b' e) s (.nx e2) s1) (h3 : Ev (forM' p b' ds e2) s1 f s2) : Ev (forM' p b' (d :: ds) env) s f s2 := ev_bind (ev_opt h1) (ev_bind h2 h3)
theorem ev_append {m : En → M D} {ds : List D} (ho : ownL env i = some ds) (h : Ev (m env) s d s1) (hl : ds.length < size7) : Ev (sAppend i m env) s (.nx (env.set i (.own (.lst (ds ++ [d]))))) s1 := ev_bind (ev_opt ho) (ev_bind h (by rw [if_pos hl]; exact ev_ret))
theorem ev_extend {m : En → M OD} {ds es : List D} (ho : ownL env i = some ds) (h : Ev (m env) s (.lst es) s1) (hl : ds.length + es.length ≤ size7) : Ev (sExtend i m env) s (.nx (env.set i (.own (.lst (ds ++ es))))) s1 := ev_bind (ev_opt ho) (ev_bind h (by
  show Ev (if ds.length + es.length ≤ size7 then _ else _) _ _ _
  rw [if_pos hl]; exact ev_ret))
theorem ev_lc {it : En → M (List D)} {p : Pat} {vs : List Nat} {t : En → M Bool} {e : En → M D} {ds ys : List D} (h : Ev (it env) s ds s1) (hl : ds.length ≤ size7) (h2 : Ev (lcM p t e (wipeE env vs) ds) s1 ys s2) : Ev (eLc it p vs t e env) s (.lst ys) s2 := ev_bind h (by rw [if_pos hl]; exact ev_bind h2 ev_ret)
theorem ev_noX {α : Type} {m : M α} {a : α} (h : Ev m s a s1) : Ev (noX m) s a s1 := by unfold Ev noX at *; rw [h]
theorem ev_lc0 {p : Pat} {t : En → M Bool} {e : En → M D} : Ev (lcM p t e env []) s [] s := rfl
theorem ev_lc1 {p : Pat} {t : En → M Bool} {e : En → M D} {ds ys : List D} {e1 : En} (h1 : bindP p d env = some e1) (ht : Ev (t e1) s true s1) (he : Ev (e e1) s1 x s2) (h : Ev (lcM p t e env ds) s2 ys s3) : Ev (lcM p t e env (d :: ds)) s (x :: ys) s3 :=
  ev_bind (ev_opt h1) (ev_bind (ev_noX ht) (by rw [if_pos rfl]; exact ev_bind (ev_noX he) (ev_bind h ev_ret)))
theorem ev_lc2 {p : Pat} {t : En → M Bool} {e : En → M D} {ds ys : List D} {e1 : En} (h1 : bindP p d env = some e1) (ht : Ev (t e1) s false s1) (h : Ev (lcM p t e env ds) s1 ys s3) : Ev (lcM p t e env (d :: ds)) s ys s3 :=
  ev_bind (ev_opt h1) (ev_bind (ev_noX ht) (by rw [if_neg Bool.false_ne_true]; exact h))
/-- a pure comprehension without a test -/
theorem ev_lcMap {p : Pat} {e : En → M D} (f : D → D) : ∀ {ds : List D}, (∀ d ∈ ds, ∃ e1, bindP p d env = some e1 ∧ Ev (e e1) s (f d) s) → Ev (lcM p tYes' e env ds) s (ds.map f) s
  | [], _ => rfl
  | d :: ds, h => by
    obtain ⟨e1, h1, h2⟩ := h d List.mem_cons_self
    exact ev_lc1 h1 rfl h2 (ev_lcMap f fun d' hd => h d' (List.mem_cons_of_mem _ hd))
end
end PV

end

section
set_option maxRecDepth 100000
namespace PV
open PySem PySem.Spec PyProof.Rows L2
section
variable {env : En} {s s1 s2 s3 : Dk} {d x y z : D} {b c : Bool} {i : Nat} {n a k : Int}
theorem ev_dkI {f : Fd} (h : isDeck env i = true) : Ev (eDkI i f env) s (.int (f.get s)) s := if_pos h
theorem ev_dkSet {f : Fd} {m : En → M D} (h : Ev (m env) s (.int n) s1) (hd : isDeck env i = true) : Ev (sDkSet i f m env) s (.nx env) (f.put s1 n) := ev_bind h (if_pos hd)
theorem ev_dkNe (hd : isDeck env i = true) : Ev (tDkNe i env) s (!s.left.isEmpty) s := if_pos hd
theorem ev_dkPop (hd : isDeck env i = true) (h : s.left.getLast? = some n) : Ev (eDkPop i env) s (.int n) { s with left := s.left.dropLast } := by
  unfold Ev eDkPop
  rw [if_pos hd, h]
theorem ev_dkApp {m : En → M D} (hd : isDeck env i = true) (h : Ev (m env) s (.int n) s1) (hl : s1.left.length < size7) : Ev (sDkApp i m env) s (.nx env) { s1 with left := s1.left ++ [n] } := by
  unfold sDkApp
  rw [if_pos hd]
  exact ev_bind h (if_pos hl)
theorem mulD_r (h : small64b k = true) : mulD (.int a) (.int k) = some (.int (a * k)) := by simp only [mulD, h, Bool.or_true, if_true]
theorem mulD_l (h : small64b a = true) : mulD (.int a) (.int k) = some (.int (a * k)) := by simp only [mulD, h, Bool.true_or, if_true]
theorem modD_i (h : k ≠ 0) : modD (.int a) (.int k) = some (.int (a.fmod k)) := by simp only [modD, ne_eq, h, not_false_eq_true, if_true]
theorem fdivD_i (h : k ≠ 0 ∧ k.natAbs < 1073741824) : fdivD (.int a) (.int k) = some (.int (a.fdiv k)) := by
  simp only [fdivD]
  exact if_pos h
theorem ev_int1 {m : En → M D} (h : Ev (m env) s (.int a) s1) : Ev (eMapA (g1 intD) (eAcons m eAnil) env) s (.int a) s1 := ev_mapA (ev_acons h ev_anil) rfl
theorem ev_iop {g : D → D → Option D} {m1 m2 : En → M D} (h1 : Ev (m1 env) s x s1) (h2 : Ev (m2 env) s1 y s2) (h3 : g x y = some d) : Ev (eOp g m1 m2 env) s d s2 := ev_op h1 h2 h3
end
theorem fmod_small {a p : Int} (h : 0 < p) (hp : p ≤ 2147483648) : small64b (a.fmod p) = true := by
  have h1 := Int.fmod_nonneg_of_pos a h
  have h2 := Int.fmod_lt_of_pos a h
  unfold small64b
  simp only [Bool.and_eq_true, decide_eq_true_eq]
  omega
end PV

end

section
set_option maxRecDepth 100000
namespace PV
open PySem PySem.Spec PyProof.Rows L2
section
variable {env : En} {s : Dk}
theorem ev_lc2Map {p p1 : Pat} {it1 : En → M (List D)} {vs1 : List Nat} {e : En → M D} (f : D → List D) : ∀ {ds : List D}, (∀ d ∈ ds, ∃ e1 ds1, bindP p d env = some e1 ∧ Ev (it1 e1) s ds1 s ∧ ds1.length ≤ 1000 ∧ Ev (lcM p1 tYes' e (wipeE e1 vs1) ds1) s (f d) s) → Ev (lc2M p tYes' it1 vs1 p1 tYes' e env ds) s (ds.flatMap f) s
  | [], _ => rfl
  | d :: ds, h => by
    obtain ⟨e1, ds1, h1, h2, h3, h4⟩ := h d List.mem_cons_self
    have ih := ev_lc2Map (p := p) (p1 := p1) (it1 := it1) (vs1 := vs1) (e := e) f fun d' hd => h d' (List.mem_cons_of_mem _ hd)
    refine ev_bind (ev_opt h1) (ev_bind (ev_noX (show Ev (tYes' e1) s true s from rfl)) ?_)
    rw [if_pos rfl]
    refine ev_bind (ev_noX h2) ?_
    rw [if_pos h3]
    rw [List.flatMap_cons]
    exact ev_bind h4 (ev_bind ih ev_ret)
theorem ev_clc2 {it : En → M (List D)} {p p1 : Pat} {vs : List Nat} {t : En → M Bool} {it1 : En → M (List D)} {vs1 : List Nat} {t1 : En → M Bool} {e : En → M D} {s1 s2 : Dk} {ds ys : List D} (h : Ev (it env) s ds s1) (hl : ds.length ≤ 1000) (h2 : Ev (lc2M p t it1 vs1 p1 t1 e (wipeE env vs) ds) s1 ys s2) : Ev (eLc2 it p vs t it1 vs1 p1 t1 e env) s (.lst ys) s2 := ev_bind h (by rw [if_pos hl]; exact ev_bind h2 ev_ret)
end
/-! ### words -/
def upto (n : Int) : List Int := (List.range n.toNat).map fun (i : Nat) => (i : Int)
def grow (fd : List (List Int)) (n : Int) : List (List Int) := fd.flatMap fun w => (upto n).map fun x => w ++ [x]
def wordsL (ns : List Int) : List (List Int) := ns.foldl grow [[]]
theorem rangeD_upto (n : Int) : rangeD 0 n = (upto n).map D.int := by
  unfold rangeD upto
  rw [List.map_map, Int.sub_zero]
  exact List.map_congr_left fun i _ => by simp
theorem tupI_snoc (w : List Int) (x : Int) : tupI (w ++ [x]) = .tup (w.map D.int ++ [.int x]) := by unfold tupI; simp
theorem grow_map (fd : List (List Int)) (n : Int) : (grow fd n).map tupI = (fd.map tupI).flatMap fun d => match d with
  | .tup es => (upto n).map fun x => .tup (es ++ [.int x])
  | _ => [] := by
  unfold grow
  rw [List.map_flatMap, List.flatMap_map]
  refine congrArg (fun f => List.flatMap f fd) (funext fun w => ?_)
  show List.map tupI _ = List.map _ _
  rw [List.map_map]
  exact List.map_congr_left fun x _ => tupI_snoc w x
end PV

end

section
set_option maxRecDepth 100000
namespace PV
open PySem PySem.Spec PyProof.Rows L2
/-! ### what repr shows -/
abbrev okS (x : Str) : Prop := ∀ c ∈ x.cps.toList, c < 0x110000
theorem okS_of {x : Str} (h : okS x) : PyData.strOk x = true := by
  unfold PyData.strOk
  rw [Array.all_eq_true_iff_forall_mem]
  intro c hc
  exact decide_eq_true (h c (Array.mem_toList_iff.mpr hc))
theorem okS_string (s : String) : okS (Str.ofString s) := by
  intro c hc
  rw [Str.ofString_eq_toList] at hc
  obtain ⟨a, _, rfl⟩ := List.mem_map.mp (show c ∈ s.toList.map Char.toNat from hc)
  have := a.valid
  unfold Char.toNat
  rcases this with h | h
  · have : a.val.toNat < 0xd800 := h
    omega
  · have : a.val.toNat < 0x110000 := h.2
    omega
theorem okS_append {a b : Str} (ha : okS a) (hb : okS b) : okS (a ++ b) := by
  intro c hc
  have e : (a ++ b).cps.toList = a.cps.toList ++ b.cps.toList := by
    show (a.cps ++ b.cps).toList = _
    rw [Array.toList_append]
  rw [e] at hc
  rcases List.mem_append.mp hc with h | h
  · exact ha c h
  · exact hb c h
theorem okS_join {sep : Str} (hs : okS sep) : ∀ (ts : List Str), (∀ t ∈ ts, okS t) → okS (Str.join sep ts)
  | [], _ => by intro c hc; cases hc
  | [x], h => h x List.mem_cons_self
  | x :: y :: r, h => okS_append (okS_append (h x List.mem_cons_self) hs) (okS_join hs (y :: r) fun t ht => h t (List.mem_cons_of_mem _ ht))
theorem okS_tuple {ts : List Str} (h : ∀ t ∈ ts, okS t) : okS (tupleText ts) := by
  unfold tupleText
  exact okS_append (okS_append (okS_string _) (okS_join (okS_string _) ts h)) (okS_string _)
theorem piled_bound {n : Nat} : ∀ {ts : List Str}, (∀ t ∈ ts, t.length ≤ n) → piled ts ≤ ts.length * (n + 2)
  | [], _ => by simp [piled]
  | t :: ts, h => by
    have h1 := h t List.mem_cons_self
    have h2 := piled_bound fun u hu => h u (List.mem_cons_of_mem t hu)
    rw [piled_cons, List.length_cons, Nat.succ_mul]
    omega
theorem tuple_len {n : Nat} {ts : List Str} (h : ∀ t ∈ ts, t.length ≤ n) : (tupleText ts).length ≤ ts.length * (n + 2) + 3 := by
  have hb := piled_bound h
  unfold tupleText
  rw [strLen_append, strLen_append]
  have e1 : ((("(" : String) : Str)).length = 1 := rfl
  have e3 : (((if ts.length == 1 then ",)" else ")" : String) : Str)).length ≤ 2 := by split <;> decide
  have e2 : (Str.join ", " ts).length ≤ piled ts := by
    by_cases hz : ts = []
    · subst hz; simp [piled, Str.join, Str.empty, Str.length]
    · have := join_length_add ts hz; omega
  omega
theorem okS_textFrom : ∀ (ts : List Str) (k : Nat) (acc : Str), okS acc → (∀ t ∈ ts, okS t) → okS (textFrom k acc ts)
  | [], k, acc, h, _ => by unfold textFrom; exact h
  | t :: ts, k, acc, h, ht => by
    unfold textFrom
    exact okS_textFrom ts _ _ (okS_append (okS_append h (okS_string _)) (ht t List.mem_cons_self)) fun u hu => ht u (List.mem_cons_of_mem _ hu)
theorem okS_list {ts : List Str} (h : ∀ t ∈ ts, okS t) : okS (listText ts) := by
  unfold listText
  exact okS_append (okS_textFrom ts 0 _ (okS_string _) h) (okS_string _)
theorem shown_all (ps : List PyData) : PyData.shownAll ps = ps.map PyData.shown := by
  induction ps with
  | nil => rfl
  | cons p ps ih => simp only [PyData.shownAll, List.map_cons, ih]
theorem showable_all {ps : List PyData} (h : ∀ p ∈ ps, p.showable = true) : PyData.showableAll ps = true := by
  induction ps with
  | nil => rfl
  | cons p ps ih =>
    simp only [PyData.showableAll, Bool.and_eq_true]
    exact ⟨h p List.mem_cons_self, ih fun q hq => h q (List.mem_cons_of_mem _ hq)⟩
theorem lay_all {ps : List PyData} (h : ∀ p ∈ ps, p.canLay0 = true) : PyData.canLayAll0 ps = true := by
  induction ps with
  | nil => rfl
  | cons p ps ih =>
    simp only [PyData.canLayAll0, Bool.and_eq_true]
    exact ⟨h p List.mem_cons_self, ih fun q hq => h q (List.mem_cons_of_mem _ hq)⟩
theorem depth_all {ps : List PyData} {k : Nat} (h : ∀ p ∈ ps, p.depth ≤ k) : PyData.depthAll ps ≤ k := by
  induction ps with
  | nil => simp [PyData.depthAll]
  | cons p ps ih =>
    simp only [PyData.depthAll]
    exact Nat.max_le.mpr ⟨h p List.mem_cons_self, ih fun q hq => h q (List.mem_cons_of_mem _ hq)⟩
/-- what can be shown: at most h deep, in at most n signs -/
structure Sh (d : D) (p : PyData) (h n : Nat) : Prop where
  toP : d.toP = some p
  able : p.showable = true
  lay : p.canLay0 = true
  deep : p.depth ≤ h
  len : p.shown.length ≤ n
  ok : okS p.shown
def Shw (d : D) (h n : Nat) : Prop := ∃ p, Sh d p h n
theorem shw_mono {d : D} {h h' n n' : Nat} (s : Shw d h n) (a : h ≤ h') (b : n ≤ n') : Shw d h' n' := by
  obtain ⟨p, s⟩ := s
  exact ⟨p, s.toP, s.able, s.lay, Nat.le_trans s.deep a, Nat.le_trans s.len b, s.ok⟩
theorem shw_int {i : Int} {k : Nat} (h0 : 0 < k) (hk : k ≤ 500) (h : i.natAbs < 10 ^ k) : Shw (.int i) 0 (k + 1) := by
  refine ⟨.int i, rfl, ?_, rfl, ?_, ?_, ?_⟩
  · simp only [PyData.showable]
    refine decide_eq_true ?_
    by_cases hz : i.natAbs = 0
    · rw [hz]; decide
    · refine (Nat.log2_lt hz).mpr (Nat.lt_of_lt_of_le h ?_)
      refine Nat.le_trans (Nat.pow_le_pow_right (by decide) hk) (by decide +kernel)
  · simp [PyData.depth]
  · simp only [PyData.shown]
    show (Str.ofString (toString i)).length ≤ k + 1
    rw [PySem.ofString_length]
    exact int_text_length_le10 h0 h
  · simp only [PyData.shown]
    exact okS_string _
theorem shw_bl (b : Bool) : Shw (.bl b) 0 5 := by
  refine ⟨.bool b, rfl, rfl, rfl, by simp [PyData.depth], ?_, ?_⟩
  · simp only [PyData.shown]; cases b <;> decide
  · simp only [PyData.shown]; cases b <;> exact okS_string _
theorem shws {h n : Nat} : ∀ {ds : List D}, (∀ d ∈ ds, Shw d h n) → ∃ ps : List PyData, D.toPs ds = some ps ∧ ps.length = ds.length ∧ (∀ p ∈ ps, p.showable = true) ∧ (∀ p ∈ ps, p.canLay0 = true) ∧ (∀ p ∈ ps, p.depth ≤ h) ∧ (∀ p ∈ ps, p.shown.length ≤ n) ∧ ∀ p ∈ ps, okS p.shown
  | [], _ => ⟨[], rfl, rfl, by simp, by simp, by simp, by simp, by simp⟩
  | d :: ds, H => by
    obtain ⟨p, s⟩ := H d List.mem_cons_self
    obtain ⟨ps, e, l, a1, a2, a3, a4, a5⟩ := shws fun d' hd => H d' (List.mem_cons_of_mem _ hd)
    refine ⟨p :: ps, by simp only [D.toPs, s.toP, e], by simp [l], ?_, ?_, ?_, ?_, ?_⟩
    · intro q hq; rcases List.mem_cons.mp hq with rfl | hq; exact s.able; exact a1 q hq
    · intro q hq; rcases List.mem_cons.mp hq with rfl | hq; exact s.lay; exact a2 q hq
    · intro q hq; rcases List.mem_cons.mp hq with rfl | hq; exact s.deep; exact a3 q hq
    · intro q hq; rcases List.mem_cons.mp hq with rfl | hq; exact s.len; exact a4 q hq
    · intro q hq; rcases List.mem_cons.mp hq with rfl | hq; exact s.ok; exact a5 q hq
theorem shw_tup {ds : List D} {h n : Nat} (H : ∀ d ∈ ds, Shw d h n) : Shw (.tup ds) (h + 1) (ds.length * (n + 2) + 3) := by
  obtain ⟨ps, e, l, a1, a2, a3, a4, a5⟩ := shws H
  refine ⟨.tuple ps, by simp only [D.toP, e, Option.map_some], by simp only [PyData.showable]; exact showable_all a1, by simp only [PyData.canLay0]; exact lay_all a2, ?_, ?_, ?_⟩
  · simp only [PyData.depth]
    have := depth_all a3
    omega
  · simp only [PyData.shown, shown_all]
    refine Nat.le_trans (tuple_len (n := n) fun t ht => ?_) (by rw [List.length_map, l]; exact Nat.le_refl _)
    obtain ⟨p, hp, rfl⟩ := List.mem_map.mp ht
    exact a4 p hp
  · simp only [PyData.shown, shown_all]
    refine okS_tuple fun t ht => ?_
    obtain ⟨p, hp, rfl⟩ := List.mem_map.mp ht
    exact a5 p hp
theorem shw_repr {d : D} {h n : Nat} (s : Shw d h n) (hh : h ≤ 64) (hn : n ≤ 10000000) : ∃ t : Str, reprD d = some (.str t) ∧ PyData.strOk t = true := by
  obtain ⟨p, s⟩ := s
  refine ⟨p.shown, ?_, okS_of s.ok⟩
  unfold reprD
  rw [s.toP, Option.bind_some, if_pos]
  rw [Bool.and_eq_true, Bool.and_eq_true]
  refine ⟨⟨s.able, ?_⟩, decide_eq_true (Nat.le_trans s.len hn)⟩
  unfold SeqAt.shaped
  rw [Bool.and_eq_true]
  exact ⟨s.lay, decide_eq_true (Nat.le_trans s.deep hh)⟩
theorem str_eq {t : Str} (h : PyData.strOk t = true) : eqD (.str t) (.str t) = some (.bl true) := by
  have hs : SeqAt.shaped (.str t) = true := by
    unfold SeqAt.shaped
    simp [PyData.canLay0, h, PyData.depth]
  unfold eqD
  simp only [D.toP, hs, Bool.and_self, if_true]
  rw [SeqAt.eqv_refl _ (by simp [PyData.canLay0, h])]
theorem str_ne {t : Str} (h : PyData.strOk t = true) : neD (.str t) (.str t) = some (.bl false) := by
  have hs : SeqAt.shaped (.str t) = true := by
    unfold SeqAt.shaped
    simp [PyData.canLay0, h, PyData.depth]
  unfold neD
  simp only [D.toP, hs, Bool.and_self, if_true]
  rw [SeqAt.eqv_refl _ (by simp [PyData.canLay0, h])]
  rfl
section
variable {env : En} {s s1 s2 : Dk} {d : D} {m n : En → M D} {h k : Nat}
/-- repr(a) == repr(b), both alike -/
theorem ev_reprEq (h1 : Ev (m env) s d s1) (h2 : Ev (n env) s1 d s2) (sh : Shw d h k) (hh : h ≤ 64 := by decide) (hk : k ≤ 10000000 := by decide) : Ev (eOp eqD (eMapA (g1 reprD) (eAcons m eAnil)) (eMapA (g1 reprD) (eAcons n eAnil)) env) s (.bl true) s2 := by
  obtain ⟨t, e, ok⟩ := shw_repr sh hh hk
  exact ev_op (ev_mapA (ev_acons h1 ev_anil) e) (ev_mapA (ev_acons h2 ev_anil) e) (str_eq ok)
theorem ev_reprNe (h1 : Ev (m env) s d s1) (h2 : Ev (n env) s1 d s2) (sh : Shw d h k) (hh : h ≤ 64 := by decide) (hk : k ≤ 10000000 := by decide) : Ev (tVal (eOp neD (eMapA (g1 reprD) (eAcons m eAnil)) (eMapA (g1 reprD) (eAcons n eAnil))) env) s false s2 := by
  obtain ⟨t, e, ok⟩ := shw_repr sh hh hk
  exact ev_tval (ev_op (ev_mapA (ev_acons h1 ev_anil) e) (ev_mapA (ev_acons h2 ev_anil) e) (str_ne ok))
end
end PV

end

section
set_option maxRecDepth 100000
namespace PV
open PySem PySem.Spec PyProof.Rows L2
abbrev iL (ns : List Int) : List D := ns.map D.int
/-- few enough numbers are left -/
abbrev Fit (s : Dk) : Prop := s.left.length ≤ 63
section
variable {env : En} {s s1 s2 s3 : Dk} {d x y z : D} {b c : Bool} {i : Nat}
theorem ev_tbor {t : En → M Bool} {is : List Nat} (h : Ev (t (frzAll is env)) s c s1) : Ev (tBor is t env) s c s1 := ev_noX h
theorem ev_store {ds : List D} {mi mv : En → M D} {k : Int} {j : Nat} (ho : ownL env i = some ds) (hv : Ev (mv env) s d s1) (hi : Ev (mi env) s1 (.int k) s2) (hx : ixN ds.length k = some j) : Ev (sStore i mi mv env) s (.nx (env.set i (.own (.lst (ds.set j d))))) s2 := ev_bind (ev_opt ho) (ev_bind hv (ev_bind hi (by
  simp only [hx]; exact ev_ret)))
theorem ev_ownLen {ds : List D} (ho : ownL env i = some ds) : Ev (eOwnLen i env) s (.int ds.length) s := ev_bind (ev_opt ho) ev_ret
theorem ev_appendPop {ds es : List D} {m : En → M D} {j n : Nat} {k : Int} (ho : ownL env i = some ds) (hp : ownL env j = some es) (hm : Ev (m env) s (.int k) s1) (hx : ixN es.length k = some n) (hd : es[n]? = some d) (hl : ds.length < size7 ∧ i ≠ j ∧ es.length ≤ size7) :
    Ev (sAppendPop i j m env) s (.nx ((env.set j (.own (.lst (es.eraseIdx n)))).set i (.own (.lst (ds ++ [d]))))) s1 := ev_bind (ev_opt ho) (ev_bind (ev_opt hp) (ev_bind hm (by
  simp only [hx, hd, if_pos hl]; exact ev_ret)))
theorem ev_opO {g : D → D → Option OD} {m n : En → M D} {o : OD} (h1 : Ev (m env) s x s1) (h2 : Ev (n env) s1 y s2) (h3 : g x y = some o) : Ev (eOpO g m n env) s o s2 := ev_bind h1 (ev_bind h2 (ev_opt h3))
theorem ev_index {m n : En → M D} {ds : List D} (h1 : Ev (m env) s (.lst ds) s1) (h2 : Ev (n env) s1 y s2) (h3 : indexD (.lst ds) y = some d) : Ev (eIndex m n env) s d s2 := ev_bind h1 (by
  show Ev (andThen (n env) fun y => opt (indexD (.lst ds) y)) s1 d s2
  exact ev_bind h2 (ev_opt h3))
theorem ev_iter {t : En → M Bool} {m n : En → M D} (h : Ev (t env) s c s1) (h1 : c = true → Ev (m env) s1 d s2) (h2 : c = false → Ev (n env) s1 d s2) : Ev (eIf t m n env) s d s2 := ev_if h h1 h2
end
theorem ixN_nn {n : Nat} {k : Int} (h0 : 0 ≤ k) (h1 : k < n) : ixN n k = some k.toNat := by
  unfold ixN
  rw [if_pos h0, if_pos h1]
/-- a comprehension that draws -/
theorem lc_ints {p : Pat} {e : En → M D} {env : En} (P : Int → Prop) : ∀ (ds : List D) (s : Dk), Fit s → (∀ d ∈ ds, ∃ e1, bindP p d env = some e1 ∧ ∀ s, Fit s → ∃ x s', Ev (e e1) s (.int x) s' ∧ P x ∧ Fit s') → ∃ ns s', Ev (lcM p tYes' e env ds) s (iL ns) s' ∧ ns.length = ds.length ∧ (∀ n ∈ ns, P n) ∧ Fit s'
  | [], s, h, _ => ⟨[], s, rfl, rfl, fun n hn => (by cases hn), h⟩
  | d :: ds, s, h, H => by
    obtain ⟨e1, h1, h2⟩ := H d List.mem_cons_self
    obtain ⟨x, s1, e2, px, f1⟩ := h2 s h
    obtain ⟨ns, s2, e3, l, hP, f2⟩ := lc_ints P ds s1 f1 fun d' hd => H d' (List.mem_cons_of_mem _ hd)
    refine ⟨x :: ns, s2, ev_lc1 h1 rfl e2 e3, by simp [l], fun n hn => ?_, f2⟩
    rcases List.mem_cons.mp hn with rfl | hn
    · exact px
    · exact hP n hn
/-- .. that leaves some out -/
theorem lc_some {i : Nat} {t : En → M Bool} {e : En → M D} {env : En} : ∀ (ns : List Int) (s : Dk), Fit s → (∀ n ∈ ns, ∀ s, Fit s → ∃ c s', Ev (t (env.set i (.val (.int n)))) s c s' ∧ Fit s') → (∀ n ∈ ns, ∀ s, Ev (e (env.set i (.val (.int n)))) s (.int n) s) → ∃ ms s', Ev (lcM (.nm i) t e env (iL ns)) s (iL ms) s' ∧ ms.Sublist ns ∧ Fit s'
  | [], s, h, _, _ => ⟨[], s, rfl, .slnil, h⟩
  | n :: ns, s, h, ht, he => by
    obtain ⟨c, s1, e1, f1⟩ := ht n List.mem_cons_self s h
    obtain ⟨ms, s2, e2, sb, f2⟩ := lc_some (i := i) (t := t) (e := e) (env := env) ns s1 f1 (fun m hm => ht m (List.mem_cons_of_mem _ hm)) (fun m hm => he m (List.mem_cons_of_mem _ hm))
    cases c with
    | true => exact ⟨n :: ms, s2, ev_lc1 (by simp only [bindP]) e1 (he n List.mem_cons_self s1) e2, sb.cons_cons n, f2⟩
    | false => exact ⟨ms, s2, ev_lc2 (by simp only [bindP]) e1 e2, sb.cons n, f2⟩
end PV

end

section
set_option maxRecDepth 100000
set_option maxHeartbeats 4000000
namespace K04
open PySem PySem.Spec PyProof.Rows L2 PV
def q_is_plain_integer : PickS PySem.Challenge.pw_sightsums_k04_whole_totals_of_lists.main.body 10 := ⟨_, by conv => lhs; whnf⟩
def s_is_plain_integer : Stmt := q_is_plain_integer.st
theorem sc_is_plain_integer : FnScope ["thing"] ["thing"] (defScope s_is_plain_integer) := ⟨rfl, rfl, rfl, by decide +kernel, rfl, by decide +kernel, by decide +kernel⟩
def q_is_ascending : PickS PySem.Challenge.pw_sightsums_k04_whole_totals_of_lists.main.body 12 := ⟨_, by conv => lhs; whnf⟩
def s_is_ascending : Stmt := q_is_ascending.st
theorem sc_is_ascending : FnScope ["things", "low", "high"] ["things"] (defScope s_is_ascending) := ⟨rfl, rfl, rfl, by decide +kernel, rfl, by decide +kernel, by decide +kernel⟩
def q_all_places : PickS PySem.Challenge.pw_sightsums_k04_whole_totals_of_lists.main.body 19 := ⟨_, by conv => lhs; whnf⟩
def s_all_places : Stmt := q_all_places.st
theorem sc_all_places : FnScope ["shape"] ["shape"] (defScope s_all_places) := ⟨rfl, rfl, rfl, by decide +kernel, rfl, by decide +kernel, by decide +kernel⟩
def q_words_over : PickS PySem.Challenge.pw_sightsums_k04_whole_totals_of_lists.main.body 20 := ⟨_, by conv => lhs; whnf⟩
def s_words_over : Stmt := q_words_over.st
theorem sc_words_over : FnScope ["shape", "lot", "found", "place", "word", "letter"] ["shape", "lot"] (defScope s_words_over) := ⟨rfl, rfl, rfl, by decide +kernel, rfl, by decide +kernel, by decide +kernel⟩
def q_reduced : PickS PySem.Challenge.pw_sightsums_k04_whole_totals_of_lists.main.body 23 := ⟨_, by conv => lhs; whnf⟩
def s_reduced : Stmt := q_reduced.st
theorem sc_reduced : FnScope ["m", "integer"] ["m", "integer"] (defScope s_reduced) := ⟨rfl, rfl, rfl, by decide +kernel, rfl, by decide +kernel, by decide +kernel⟩
def q_many_words : PickS PySem.Challenge.pw_sightsums_k04_whole_totals_of_lists.main.body 24 := ⟨_, by conv => lhs; whnf⟩
def s_many_words : Stmt := q_many_words.st
theorem sc_many_words : FnScope ["shape", "lot", "many", "place"] ["shape", "lot"] (defScope s_many_words) := ⟨rfl, rfl, rfl, by decide +kernel, rfl, by decide +kernel, by decide +kernel⟩
def q_met_entry : PickS PySem.Challenge.pw_sightsums_k04_whole_totals_of_lists.main.body 28 := ⟨_, by conv => lhs; whnf⟩
def s_met_entry : Stmt := q_met_entry.st
theorem sc_met_entry : FnScope ["shape", "lot", "entries", "world", "at", "place"] ["shape", "lot", "entries", "world"] (defScope s_met_entry) := ⟨rfl, rfl, rfl, by decide +kernel, rfl, by decide +kernel, by decide +kernel⟩
def q__law_deck : PickS PySem.Challenge.pw_sightsums_k04_whole_totals_of_lists.main.body 35 := ⟨_, by conv => lhs; whnf⟩
def s__law_deck : Stmt := q__law_deck.st
theorem sc__law_deck : FnScope ["script", "seed", "mixed", "cell"] ["script", "seed"] (defScope s__law_deck) := ⟨rfl, rfl, rfl, by decide +kernel, rfl, by decide +kernel, by decide +kernel⟩
def q__law_draw : PickS PySem.Challenge.pw_sightsums_k04_whole_totals_of_lists.main.body 36 := ⟨_, by conv => lhs; whnf⟩
def s__law_draw : Stmt := q__law_draw.st
theorem sc__law_draw : FnScope ["deck", "many", "cell", "figure"] ["deck", "many"] (defScope s__law_draw) := ⟨rfl, rfl, rfl, by decide +kernel, rfl, by decide +kernel, by decide +kernel⟩
def q__law_by : PickS PySem.Challenge.pw_sightsums_k04_whole_totals_of_lists.main.body 39 := ⟨_, by conv => lhs; whnf⟩
def s__law_by : Stmt := q__law_by.st
theorem sc__law_by : FnScope ["m", "x"] ["m", "x"] (defScope s__law_by) := ⟨rfl, rfl, rfl, by decide +kernel, rfl, by decide +kernel, by decide +kernel⟩
def q__law_worlds : PickS PySem.Challenge.pw_sightsums_k04_whole_totals_of_lists.main.body 40 := ⟨_, by conv => lhs; whnf⟩
def s__law_worlds : Stmt := q__law_worlds.st
theorem sc__law_worlds : FnScope ["shape", "found", "many", "longer", "world", "letter"] ["shape"] (defScope s__law_worlds) := ⟨rfl, rfl, rfl, by decide +kernel, rfl, by decide +kernel, by decide +kernel⟩
def q__law_word_of : PickS PySem.Challenge.pw_sightsums_k04_whole_totals_of_lists.main.body 42 := ⟨_, by conv => lhs; whnf⟩
def s__law_word_of : Stmt := q__law_word_of.st
theorem sc__law_word_of : FnScope ["lot", "world", "place"] ["lot", "world"] (defScope s__law_word_of) := ⟨rfl, rfl, rfl, by decide +kernel, rfl, by decide +kernel, by decide +kernel⟩
def q__law_lots : PickS PySem.Challenge.pw_sightsums_k04_whole_totals_of_lists.main.body 43 := ⟨_, by conv => lhs; whnf⟩
def s__law_lots : Stmt := q__law_lots.st
theorem sc__law_lots : FnScope ["many", "found", "place", "lot"] ["many"] (defScope s__law_lots) := ⟨rfl, rfl, rfl, by decide +kernel, rfl, by decide +kernel, by decide +kernel⟩
def q_is_below : PickS PySem.Challenge.pw_sightsums_k04_whole_totals_of_lists.main.body 11 := ⟨_, by conv => lhs; whnf⟩
def s_is_below : Stmt := q_is_below.st
theorem sc_is_below : FnScope ["thing", "bound"] ["thing", "bound"] (defScope s_is_below) := ⟨rfl, rfl, rfl, by decide +kernel, rfl, by decide +kernel, by decide +kernel⟩
def q_is_shape : PickS PySem.Challenge.pw_sightsums_k04_whole_totals_of_lists.main.body 13 := ⟨_, by conv => lhs; whnf⟩
def s_is_shape : Stmt := q_is_shape.st
theorem sc_is_shape : FnScope ["thing", "many"] ["thing"] (defScope s_is_shape) := ⟨rfl, rfl, rfl, by decide +kernel, rfl, by decide +kernel, by decide +kernel⟩
def q_is_modulus : PickS PySem.Challenge.pw_sightsums_k04_whole_totals_of_lists.main.body 14 := ⟨_, by conv => lhs; whnf⟩
def s_is_modulus : Stmt := q_is_modulus.st
theorem sc_is_modulus : FnScope ["thing"] ["thing"] (defScope s_is_modulus) := ⟨rfl, rfl, rfl, by decide +kernel, rfl, by decide +kernel, by decide +kernel⟩
def q_met_sum : PickS PySem.Challenge.pw_sightsums_k04_whole_totals_of_lists.main.body 32 := ⟨_, by conv => lhs; whnf⟩
def s_met_sum : Stmt := q_met_sum.st
theorem sc_met_sum : FnScope ["shape", "m", "lots", "lists", "world", "lot", "entries"] ["shape", "m", "lots", "lists", "world"] (defScope s_met_sum) := ⟨rfl, rfl, rfl, by decide +kernel, rfl, by decide +kernel, by decide +kernel⟩
def q__law_great : PickS PySem.Challenge.pw_sightsums_k04_whole_totals_of_lists.main.body 37 := ⟨_, by conv => lhs; whnf⟩
def s__law_great : Stmt := q__law_great.st
theorem sc__law_great : FnScope ["deck", "many", "found", "left"] ["deck", "many"] (defScope s__law_great) := ⟨rfl, rfl, rfl, by decide +kernel, rfl, by decide +kernel, by decide +kernel⟩
def q__law_pick : PickS PySem.Challenge.pw_sightsums_k04_whole_totals_of_lists.main.body 38 := ⟨_, by conv => lhs; whnf⟩
def s__law_pick : Stmt := q__law_pick.st
theorem sc__law_pick : FnScope ["deck", "some"] ["deck", "some"] (defScope s__law_pick) := ⟨rfl, rfl, rfl, by decide +kernel, rfl, by decide +kernel, by decide +kernel⟩
def q__law_words : PickS PySem.Challenge.pw_sightsums_k04_whole_totals_of_lists.main.body 41 := ⟨_, by conv => lhs; whnf⟩
def s__law_words : Stmt := q__law_words.st
theorem sc__law_words : FnScope ["shape", "lot", "place"] ["shape", "lot"] (defScope s__law_words) := ⟨rfl, rfl, rfl, by decide +kernel, rfl, by decide +kernel, by decide +kernel⟩
def q__law_times : PickS PySem.Challenge.pw_sightsums_k04_whole_totals_of_lists.main.body 50 := ⟨_, by conv => lhs; whnf⟩
def s__law_times : Stmt := q__law_times.st
theorem sc__law_times : FnScope ["m", "k", "entries", "x"] ["m", "k", "entries"] (defScope s__law_times) := ⟨rfl, rfl, rfl, by decide +kernel, rfl, by decide +kernel, by decide +kernel⟩
def q__law_put_together : PickS PySem.Challenge.pw_sightsums_k04_whole_totals_of_lists.main.body 52 := ⟨_, by conv => lhs; whnf⟩
def s__law_put_together : Stmt := q__law_put_together.st
theorem sc__law_put_together : FnScope ["m", "lots", "lists", "by", "lot", "entries", "some", "x", "y"] ["m", "lots", "lists"] (defScope s__law_put_together) := ⟨rfl, rfl, rfl, by decide +kernel, rfl, by decide +kernel, by decide +kernel⟩
def q_need_shape : PickS PySem.Challenge.pw_sightsums_k04_whole_totals_of_lists.main.body 15 := ⟨_, by conv => lhs; whnf⟩
def s_need_shape : Stmt := q_need_shape.st
theorem sc_need_shape : FnScope ["shape"] ["shape"] (defScope s_need_shape) := ⟨rfl, rfl, rfl, by decide +kernel, rfl, by decide +kernel, by decide +kernel⟩
def q_need_modulus : PickS PySem.Challenge.pw_sightsums_k04_whole_totals_of_lists.main.body 16 := ⟨_, by conv => lhs; whnf⟩
def s_need_modulus : Stmt := q_need_modulus.st
theorem sc_need_modulus : FnScope ["m"] ["m"] (defScope s_need_modulus) := ⟨rfl, rfl, rfl, by decide +kernel, rfl, by decide +kernel, by decide +kernel⟩
def q_is_number : PickS PySem.Challenge.pw_sightsums_k04_whole_totals_of_lists.main.body 22 := ⟨_, by conv => lhs; whnf⟩
def s_is_number : Stmt := q_is_number.st
theorem sc_is_number : FnScope ["m", "thing"] ["m", "thing"] (defScope s_is_number) := ⟨rfl, rfl, rfl, by decide +kernel, rfl, by decide +kernel, by decide +kernel⟩
def q__law_spread : PickS PySem.Challenge.pw_sightsums_k04_whole_totals_of_lists.main.body 44 := ⟨_, by conv => lhs; whnf⟩
def s__law_spread : Stmt := q__law_spread.st
theorem sc__law_spread : FnScope ["shape", "lot", "entries", "by", "world"] ["shape", "lot", "entries"] (defScope s__law_spread) := ⟨rfl, rfl, rfl, by decide +kernel, rfl, by decide +kernel, by decide +kernel⟩
def q__law_shape : PickS PySem.Challenge.pw_sightsums_k04_whole_totals_of_lists.main.body 46 := ⟨_, by conv => lhs; whnf⟩
def s__law_shape : Stmt := q__law_shape.st
theorem sc__law_shape : FnScope ["deck", "most", "found", "turn", "place"] ["deck", "most"] (defScope s__law_shape) := ⟨rfl, rfl, rfl, by decide +kernel, rfl, by decide +kernel, by decide +kernel⟩
def q__law_modulus : PickS PySem.Challenge.pw_sightsums_k04_whole_totals_of_lists.main.body 47 := ⟨_, by conv => lhs; whnf⟩
def s__law_modulus : Stmt := q__law_modulus.st
theorem sc__law_modulus : FnScope ["deck"] ["deck"] (defScope s__law_modulus) := ⟨rfl, rfl, rfl, by decide +kernel, rfl, by decide +kernel, by decide +kernel⟩
def q__law_number : PickS PySem.Challenge.pw_sightsums_k04_whole_totals_of_lists.main.body 48 := ⟨_, by conv => lhs; whnf⟩
def s__law_number : Stmt := q__law_number.st
theorem sc__law_number : FnScope ["deck", "m", "size"] ["deck", "m", "size"] (defScope s__law_number) := ⟨rfl, rfl, rfl, by decide +kernel, rfl, by decide +kernel, by decide +kernel⟩
def q__law_divisor : PickS PySem.Challenge.pw_sightsums_k04_whole_totals_of_lists.main.body 51 := ⟨_, by conv => lhs; whnf⟩
def s__law_divisor : Stmt := q__law_divisor.st
theorem sc__law_divisor : FnScope ["deck", "m", "some", "k"] ["deck", "m"] (defScope s__law_divisor) := ⟨rfl, rfl, rfl, by decide +kernel, rfl, by decide +kernel, by decide +kernel⟩
def q_is_lot : PickS PySem.Challenge.pw_sightsums_k04_whole_totals_of_lists.main.body 17 := ⟨_, by conv => lhs; whnf⟩
def s_is_lot : Stmt := q_is_lot.st
theorem sc_is_lot : FnScope ["shape", "thing", "place"] ["shape", "thing"] (defScope s_is_lot) := ⟨rfl, rfl, rfl, by decide +kernel, rfl, by decide +kernel, by decide +kernel⟩
def q_worlds : PickS PySem.Challenge.pw_sightsums_k04_whole_totals_of_lists.main.body 21 := ⟨_, by conv => lhs; whnf⟩
def s_worlds : Stmt := q_worlds.st
theorem sc_worlds : FnScope ["shape"] ["shape"] (defScope s_worlds) := ⟨rfl, rfl, rfl, by decide +kernel, rfl, by decide +kernel, by decide +kernel⟩
def q_is_list_over : PickS PySem.Challenge.pw_sightsums_k04_whole_totals_of_lists.main.body 25 := ⟨_, by conv => lhs; whnf⟩
def s_is_list_over : Stmt := q_is_list_over.st
theorem sc_is_list_over : FnScope ["shape", "m", "lot", "thing", "entry"] ["shape", "m", "lot", "thing"] (defScope s_is_list_over) := ⟨rfl, rfl, rfl, by decide +kernel, rfl, by decide +kernel, by decide +kernel⟩
def q__law_total : PickS PySem.Challenge.pw_sightsums_k04_whole_totals_of_lists.main.body 45 := ⟨_, by conv => lhs; whnf⟩
def s__law_total : Stmt := q__law_total.st
theorem sc__law_total : FnScope ["shape", "m", "lots", "lists", "found", "lot", "entries", "x", "y"] ["shape", "m", "lots", "lists"] (defScope s__law_total) := ⟨rfl, rfl, rfl, by decide +kernel, rfl, by decide +kernel, by decide +kernel⟩
def q__law_entries : PickS PySem.Challenge.pw_sightsums_k04_whole_totals_of_lists.main.body 49 := ⟨_, by conv => lhs; whnf⟩
def s__law_entries : Stmt := q__law_entries.st
theorem sc__law_entries : FnScope ["deck", "shape", "m", "lot", "size", "word"] ["deck", "shape", "m", "lot", "size"] (defScope s__law_entries) := ⟨rfl, rfl, rfl, by decide +kernel, rfl, by decide +kernel, by decide +kernel⟩
def q_need_lot : PickS PySem.Challenge.pw_sightsums_k04_whole_totals_of_lists.main.body 18 := ⟨_, by conv => lhs; whnf⟩
def s_need_lot : Stmt := q_need_lot.st
theorem sc_need_lot : FnScope ["shape", "lot"] ["shape", "lot"] (defScope s_need_lot) := ⟨rfl, rfl, rfl, by decide +kernel, rfl, by decide +kernel, by decide +kernel⟩
def q_need_list : PickS PySem.Challenge.pw_sightsums_k04_whole_totals_of_lists.main.body 27 := ⟨_, by conv => lhs; whnf⟩
def s_need_list : Stmt := q_need_list.st
theorem sc_need_list : FnScope ["shape", "m", "lot", "entries"] ["shape", "m", "lot", "entries"] (defScope s_need_list) := ⟨rfl, rfl, rfl, by decide +kernel, rfl, by decide +kernel, by decide +kernel⟩
def q_is_tuple_of_lots : PickS PySem.Challenge.pw_sightsums_k04_whole_totals_of_lists.main.body 30 := ⟨_, by conv => lhs; whnf⟩
def s_is_tuple_of_lots : Stmt := q_is_tuple_of_lots.st
theorem sc_is_tuple_of_lots : FnScope ["shape", "thing", "lot"] ["shape", "thing"] (defScope s_is_tuple_of_lots) := ⟨rfl, rfl, rfl, by decide +kernel, rfl, by decide +kernel, by decide +kernel⟩
def q_are_lists_over : PickS PySem.Challenge.pw_sightsums_k04_whole_totals_of_lists.main.body 31 := ⟨_, by conv => lhs; whnf⟩
def s_are_lists_over : Stmt := q_are_lists_over.st
theorem sc_are_lists_over : FnScope ["shape", "m", "lots", "thing", "lot", "entries"] ["shape", "m", "lots", "thing"] (defScope s_are_lists_over) := ⟨rfl, rfl, rfl, by decide +kernel, rfl, by decide +kernel, by decide +kernel⟩
def q_is_list : PickS PySem.Challenge.pw_sightsums_k04_whole_totals_of_lists.main.body 26 := ⟨_, by conv => lhs; whnf⟩
def s_is_list : Stmt := q_is_list.st
theorem sc_is_list : FnScope ["shape", "m", "lot", "thing"] ["shape", "m", "lot", "thing"] (defScope s_is_list) := ⟨rfl, rfl, rfl, by decide +kernel, rfl, by decide +kernel, by decide +kernel⟩
def q_spread : PickS PySem.Challenge.pw_sightsums_k04_whole_totals_of_lists.main.body 29 := ⟨_, by conv => lhs; whnf⟩
def s_spread : Stmt := q_spread.st
theorem sc_spread : FnScope ["shape", "m", "lot", "entries", "world"] ["shape", "m", "lot", "entries"] (defScope s_spread) := ⟨rfl, rfl, rfl, by decide +kernel, rfl, by decide +kernel, by decide +kernel⟩
def q_total : PickS PySem.Challenge.pw_sightsums_k04_whole_totals_of_lists.main.body 33 := ⟨_, by conv => lhs; whnf⟩
def s_total : Stmt := q_total.st
theorem sc_total : FnScope ["shape", "m", "lots", "lists", "world"] ["shape", "m", "lots", "lists"] (defScope s_total) := ⟨rfl, rfl, rfl, by decide +kernel, rfl, by decide +kernel, by decide +kernel⟩
def q__law_is_turned_right : PickS PySem.Challenge.pw_sightsums_k04_whole_totals_of_lists.main.body 53 := ⟨_, by conv => lhs; whnf⟩
def s__law_is_turned_right : Stmt := q__law_is_turned_right.st
theorem sc__law_is_turned_right : FnScope ["deck", "shape", "m", "lots", "lists", "due", "whole", "half", "near", "far", "parts", "some", "others", "lot", "entries", "told"] ["deck", "shape", "m", "lots", "lists", "due"] (defScope s__law_is_turned_right) := ⟨rfl, rfl, rfl, by decide +kernel, rfl, by decide +kernel, by decide +kernel⟩
def q_law : PickS PySem.Challenge.pw_sightsums_k04_whole_totals_of_lists.main.body 54 := ⟨_, by conv => lhs; whnf⟩
def s_law : Stmt := q_law.st
theorem sc_law : FnScope ["script", "deck", "shape", "m", "lots", "size", "lists", "due", "k", "low", "much", "less", "near", "lot", "entries", "table", "turn", "it"] ["script"] (defScope s_law) := ⟨rfl, rfl, rfl, by decide +kernel, rfl, by decide +kernel, by decide +kernel⟩
/-! the mirrors -/
def B_is_plain_integer : En → M Fl := (sRet (eAndV (eUn (isT .int) (eVar 0)) (eNotV (eUn (isT .bool) (eVar 0)))))
def F_is_plain_integer : List D → M D := runF 1 B_is_plain_integer
def B_is_ascending : En → M Fl := (sRet (eMapA (g1 allD) (eAcons (eFrz (eLc (eMapI gZip (eAcons (eVar 0) (eAcons (eSlice (eVar 0) (ePart (eC (.int 1))) eNoPart) eAnil))) (.tp [(.nm 1), (.nm 2)]) [1, 2] tYes' (eOp ltD (eVar 1) (eVar 2)))) eAnil)))
def F_is_ascending : List D → M D := runF 3 B_is_ascending
def B_all_places : En → M Fl := (sRet (eMapA (gTupR gRange1) (eAcons (eMapA (g1 lenD) (eAcons (eVar 0) eAnil)) eAnil)))
def F_all_places : List D → M D := runF 1 B_all_places
def B_words_over : En → M Fl := (sSeq (sAsg (.nm 2) (eFrz (eMapO gLstO (eAcons (eMapA gTupD eAnil) eAnil)))) (sSeq (sFor (eItems (eVar 1)) (.nm 3) (sAsg (.nm 2) (eFrz (eLc2 (eItems (eVar 2)) (.nm 4) [4, 5] tYes' (eMapI gRange1 (eAcons (eOp ixD (eVar 0) (eVar 3)) eAnil)) [5] (.nm 5) tYes' (eMapA gTupD (eAstar (eVar 4) (eAcons (eVar 5) eAnil))))))) (sRet (eMapA (g1 tupleD) (eAcons (eVar 2) eAnil)))))
def F_words_over : List D → M D := runF 6 B_words_over
def B_reduced : En → M Fl := (sSeq (sIf (tVal (eOp eqD (eVar 0) (eC (.int 0)))) (sRet (eVar 1)) sNext) (sRet (eOp modD (eVar 1) (eVar 0))))
def F_reduced : List D → M D := runF 2 B_reduced
def B_many_words : En → M Fl := (sSeq (sAsg (.nm 2) (eC (.int 1))) (sSeq (sFor (eItems (eVar 1)) (.nm 3) (sAsg (.nm 2) (eOp mulD (eVar 2) (eOp ixD (eVar 0) (eVar 3))))) (sRet (eVar 2))))
def F_many_words : List D → M D := runF 4 B_many_words
def B_met_entry : En → M Fl := (sSeq (sAsg (.nm 4) (eC (.int 0))) (sSeq (sFor (eItems (eVar 1)) (.nm 5) (sAsg (.nm 4) (eOp addD (eOp mulD (eVar 4) (eOp ixD (eVar 0) (eVar 5))) (eOp ixD (eVar 3) (eVar 5))))) (sRet (eOp ixD (eVar 2) (eVar 4)))))
def F_met_entry : List D → M D := runF 6 B_met_entry
-- HAND _law_deck
def B__law_draw : En → M Fl := (sSeq (sDkSet 0 .draws (eOp addD (eDkI 0 .draws) (eC (.int 1)))) (sSeq (sIf (tDkNe 0) (sSeq (sAsg (.nm 2) (eDkPop 0)) (sSeq (sIf (tVal (eOp geD (eVar 2) (eOp powD (eC (.int 10)) (eC (.int 18))))) (sSeq (sDkApp 0 (eOp fdivD (eVar 2) (eMapA gMax (eAcons (eC (.int 2)) (eAcons (eVar 1) eAnil))))) (sRet (eOp modD (eMapA (g1 intD) (eAcons (eVar 2) eAnil)) (eVar 1)))) sNext) (sDkSet 0 .mixed (eOp modD (eMapA (g1 intD) (eAcons (eOp addD (eOp addD (eOp mulD (eDkI 0 .mixed) (eC (.int 39373))) (eOp modD (eMapA (g1 intD) (eAcons (eVar 2) eAnil)) (eC (.int 2147483629)))) (eC (.int 13))) eAnil)) (eC (.int 2147483587)))))) sNext) (sSeq (sAsg (.nm 3) (eOp modD (eMapA (g1 intD) (eAcons (eOp addD (eDkI 0 .mixed) (eOp mulD (eC (.int 31337)) (eDkI 0 .draws))) eAnil)) (eC (.int 2147483647)))) (sSeq (sAsg (.nm 3) (eOp modD (eMapA (g1 intD) (eAcons (eOp addD (eOp addD (eOp mulD (eVar 3) (eVar 3)) (eOp mulD (eC (.int 48271)) (eDkI 0 .draws))) (eC (.int 17))) eAnil)) (eC (.int 2147483629)))) (sSeq (sAsg (.nm 3) (eOp modD (eMapA (g1 intD) (eAcons (eOp addD (eOp mulD (eVar 3) (eC (.int 69621))) (eC (.int 77))) eAnil)) (eC (.int 2147483563)))) (sRet (eOp modD (eMapA (g1 intD) (eAcons (eOp fdivD (eVar 3) (eC (.int 64))) eAnil)) (eVar 1))))))))
def F__law_draw : List D → M D := runF 4 B__law_draw
def B__law_by : En → M Fl := (sRet (eIf (tVal (eOp eqD (eVar 0) (eC (.int 0)))) (eVar 1) (eOp modD (eMapA (g1 intD) (eAcons (eVar 1) eAnil)) (eVar 0))))
def F__law_by : List D → M D := runF 2 B__law_by
def B__law_worlds : En → M Fl := (sSeq (sAsg (.nm 1) (eFrz (eMapO gLstO (eAcons (eMapA gTupD eAnil) eAnil)))) (sSeq (sFor (eItems (eVar 0)) (.nm 2) (sSeq (sAsgO 3 (eMapO gLstO eAnil)) (sSeq (sFor (eItems (eVar 1)) (.nm 4) (sExtend 3 (eLc (eMapI gRange1 (eAcons (eVar 2) eAnil)) (.nm 5) [5] tYes' (eOp addD (eVar 4) (eMapA gTupD (eAcons (eVar 5) eAnil)))))) (sFrz [3] (sAsg (.nm 1) (eVar 3)))))) (sRet (eMapA (g1 tupleD) (eAcons (eVar 1) eAnil)))))
def F__law_worlds : List D → M D := runF 6 B__law_worlds
def B__law_word_of : En → M Fl := (sRet (eMapA (g1 tupleD) (eAcons (eFrz (eLc (eItems (eVar 0)) (.nm 2) [2] tYes' (eOp ixD (eVar 1) (eVar 2)))) eAnil)))
def F__law_word_of : List D → M D := runF 3 B__law_word_of
def B__law_lots : En → M Fl := (sSeq (sAsgO 1 (eMapO gLstO (eAcons (eMapA gTupD eAnil) eAnil))) (sSeq (sFor (eMapI gRange1 (eAcons (eVar 0) eAnil)) (.nm 2) (sExtend 1 (eLc (eOwnItems 1) (.nm 3) [3] tYes' (eOp addD (eVar 3) (eMapA gTupD (eAcons (eVar 2) eAnil)))))) (sFrz [1] (sRet (eFrz (eMapO gSorted (eAcons (eVar 1) eAnil)))))))
def F__law_lots : List D → M D := runF 4 B__law_lots
def B_is_below : En → M Fl := (sRet (eAndV (eCall (cN 1 F_is_plain_integer) (eAcons (eVar 0) eAnil)) (eChain leD ltD (eC (.int 0)) (eVar 0) (eVar 1))))
def F_is_below : List D → M D := runF 2 B_is_below
def B_is_shape : En → M Fl := (sSeq (sIf (tOr' (tNot' (tVal (eUn (isT .tuple) (eVar 0)))) (tNot' (tVal (eChain leD leD (eC (.int 1)) (eMapA (g1 lenD) (eAcons (eVar 0) eAnil)) (eC (.int 4)))))) (sRet (eC (.bl false))) sNext) (sRet (eMapA (g1 allD) (eAcons (eFrz (eLc (eItems (eVar 0)) (.nm 1) [1] tYes' (eAndV (eCall (cN 1 F_is_plain_integer) (eAcons (eVar 1) eAnil)) (eChain leD leD (eC (.int 1)) (eVar 1) (eC (.int 4)))))) eAnil))))
def F_is_shape : List D → M D := runF 2 B_is_shape
def B_is_modulus : En → M Fl := (sRet (eAndV (eCall (cN 1 F_is_plain_integer) (eAcons (eVar 0) eAnil)) (eOrV (eOp eqD (eVar 0) (eC (.int 0))) (eOp geD (eVar 0) (eC (.int 2))))))
def F_is_modulus : List D → M D := runF 1 B_is_modulus
def B_met_sum : En → M Fl := (sRet (eCall (cN 2 F_reduced) (eAcons (eVar 1) (eAcons (eMapA (g1 sumD) (eAcons (eFrz (eLc (eMapI gZip (eAcons (eVar 2) (eAcons (eVar 3) eAnil))) (.tp [(.nm 5), (.nm 6)]) [5, 6] tYes' (eCall (cN 4 F_met_entry) (eAcons (eVar 0) (eAcons (eVar 5) (eAcons (eVar 6) (eAcons (eVar 4) eAnil))))))) eAnil)) eAnil))))
def F_met_sum : List D → M D := runF 7 B_met_sum
def B__law_great : En → M Fl := (sSeq (sAsg2 [2, 3] (e2val (eC (.int 0)) (e2val (eVar 1) e2nil))) (sSeq (sWhile 100 (tVal (eOp gtD (eVar 3) (eC (.int 0)))) (sAsg2 [2, 3] (e2val (eOp addD (eOp mulD (eVar 2) (eOp powD (eC (.int 10)) (eC (.int 6)))) (eCall (cN 2 F__law_draw) (eAcons (eVar 0) (eAcons (eOp powD (eC (.int 10)) (eC (.int 6))) eAnil)))) (e2val (eOp fdivD (eVar 3) (eOp powD (eC (.int 10)) (eC (.int 6)))) e2nil)))) (sRet (eOp modD (eMapA (g1 intD) (eAcons (eVar 2) eAnil)) (eVar 1)))))
def F__law_great : List D → M D := runF 4 B__law_great
def B__law_pick : En → M Fl := (sRet (eOp ixD (eVar 1) (eCall (cN 2 F__law_draw) (eAcons (eVar 0) (eAcons (eMapA (g1 lenD) (eAcons (eVar 1) eAnil)) eAnil)))))
def F__law_pick : List D → M D := runF 2 B__law_pick
def B__law_words : En → M Fl := (sRet (eCall (cN 1 F__law_worlds) (eAcons (eFrz (eLc (eItems (eVar 1)) (.nm 2) [2] tYes' (eOp ixD (eVar 0) (eVar 2)))) eAnil)))
def F__law_words : List D → M D := runF 3 B__law_words
def B__law_times : En → M Fl := (sRet (eMapA (g1 tupleD) (eAcons (eFrz (eLc (eItems (eVar 2)) (.nm 3) [3] tYes' (eCall (cN 2 F__law_by) (eAcons (eVar 0) (eAcons (eOp mulD (eVar 1) (eVar 3)) eAnil))))) eAnil)))
def F__law_times : List D → M D := runF 4 B__law_times
def B__law_put_together : En → M Fl := (sSeq (sAsgO 3 eDnewT) (sSeq (sFor (eMapI gZip (eAcons (eVar 1) (eAcons (eVar 2) eAnil))) (.tp [(.nm 4), (.nm 5)]) (sDput 3 (eVar 4) (eMapA (g1 tupleD) (eAcons (eFrz (eLc (eMapI gZip (eAcons (eOwnGet 3 (eVar 4) (eOp mulT (eMapA gTupD (eAcons (eC (.int 0)) eAnil)) (eMapA (g1 lenD) (eAcons (eVar 5) eAnil)))) (eAcons (eVar 5) eAnil))) (.tp [(.nm 7), (.nm 8)]) [7, 8] tYes' (eCall (cN 2 F__law_by) (eAcons (eVar 0) (eAcons (eOp addD (eVar 7) (eVar 8)) eAnil))))) eAnil)))) (sSeq (sFrz [3] (sAsg (.nm 6) (eFrz (eMapO (g1O sortedDT) (eAcons (eVar 3) eAnil))))) (sRet (eMapA gTupD (eAcons (eMapA (g1 tupleD) (eAcons (eVar 6) eAnil)) (eAcons (eMapA (g1 tupleD) (eAcons (eFrz (eLc (eItems (eVar 6)) (.nm 4) [4] tYes' (eOp ixD (eVar 3) (eVar 4)))) eAnil)) eAnil)))))))
def F__law_put_together : List D → M D := runF 9 B__law_put_together
def B_need_shape : En → M Fl := (sIf (tNot' (tVal (eCall (cN 1 F_is_shape) (eAcons (eVar 0) eAnil)))) sBad sNext)
def F_need_shape : List D → M D := runF 1 B_need_shape
def B_need_modulus : En → M Fl := (sIf (tNot' (tVal (eCall (cN 1 F_is_modulus) (eAcons (eVar 0) eAnil)))) sBad sNext)
def F_need_modulus : List D → M D := runF 1 B_need_modulus
def B_is_number : En → M Fl := (sSeq (sIf (tVal (eOp eqD (eVar 0) (eC (.int 0)))) (sRet (eCall (cN 1 F_is_plain_integer) (eAcons (eVar 1) eAnil))) sNext) (sRet (eCall (cN 2 F_is_below) (eAcons (eVar 1) (eAcons (eVar 0) eAnil)))))
def F_is_number : List D → M D := runF 2 B_is_number
def B__law_spread : En → M Fl := (sSeq (sAsg (.nm 3) (eFrz (eMapO gDict (eAcons (eFrz (eMapO gLstZip (eAcons (eCall (cN 2 F__law_words) (eAcons (eVar 0) (eAcons (eVar 1) eAnil))) (eAcons (eVar 2) eAnil)))) eAnil)))) (sRet (eMapA (g1 tupleD) (eAcons (eFrz (eLc (eItems (eCall (cN 1 F__law_worlds) (eAcons (eVar 0) eAnil))) (.nm 4) [4] tYes' (eOp ixD (eVar 3) (eCall (cN 2 F__law_word_of) (eAcons (eVar 1) (eAcons (eVar 4) eAnil)))))) eAnil))))
def F__law_spread : List D → M D := runF 5 B__law_spread
def B__law_shape : En → M Fl := (sSeq (sAsgO 2 (eLc (eMapI gRange1 (eAcons (eCall (cN 2 F__law_pick) (eAcons (eVar 0) (eAcons (eFrz (eMapO gLstO (eAcons (eC (.int 2)) (eAcons (eC (.int 3)) (eAcons (eC (.int 1)) (eAcons (eC (.int 2)) (eAcons (eC (.int 4)) (eAcons (eC (.int 3)) eAnil)))))))) eAnil))) eAnil)) (.nm 4) [4] tYes' (eOp addD (eC (.int 1)) (eCall (cN 2 F__law_draw) (eAcons (eVar 0) (eAcons (eC (.int 4)) eAnil)))))) (sSeq (sFor (eMapI gRange1 (eAcons (eOwnLen 2) eAnil)) (.nm 3) (sIf (tBor [2] (tVal (eOp gtD (eMapA (g1 lenD) (eAcons (eCall (cN 1 F__law_worlds) (eAcons (eVar 2) eAnil)) eAnil)) (eVar 1)))) (sStore 2 (eVar 3) (eIf (tVal (eOp ltD (eVar 3) (eC (.int 2)))) (eCall (cN 2 F__law_pick) (eAcons (eVar 0) (eAcons (eFrz (eMapO gLstO (eAcons (eC (.int 1)) (eAcons (eC (.int 2)) (eAcons (eC (.int 2)) eAnil))))) eAnil))) (eC (.int 1)))) sNext)) (sFrz [2] (sRet (eMapA (g1 tupleD) (eAcons (eVar 2) eAnil))))))
def F__law_shape : List D → M D := runF 5 B__law_shape
def B__law_modulus : En → M Fl := (sRet (eCall (cN 2 F__law_pick) (eAcons (eVar 0) (eAcons (eFrz (eMapO gLstO (eAcons (eC (.int 0)) (eAcons (eC (.int 2)) (eAcons (eC (.int 3)) (eAcons (eC (.int 4)) (eAcons (eC (.int 5)) (eAcons (eC (.int 6)) (eAcons (eC (.int 0)) (eAcons (eC (.int 8)) (eAcons (eC (.int 9)) (eAcons (eC (.int 12)) (eAcons (eC (.int 7)) (eAcons (eC (.int 30)) (eAcons (eOp powD (eC (.int 10)) (eC (.int 12))) (eAcons (eC (.int 999999999989)) (eAcons (eC (.int 2)) eAnil))))))))))))))))) eAnil))))
def F__law_modulus : List D → M D := runF 1 B__law_modulus
def B__law_number : En → M Fl := (sSeq (sIf (tVal (eOp eqD (eVar 1) (eC (.int 0)))) (sRet (eOp mulD (eCall (cN 2 F__law_great) (eAcons (eVar 0) (eAcons (eOp addD (eVar 2) (eC (.int 1))) eAnil))) (eCall (cN 2 F__law_pick) (eAcons (eVar 0) (eAcons (eFrz (eMapO gLstO (eAcons (eC (.int 1)) (eAcons (eUn negD (eC (.int 1))) eAnil)))) eAnil))))) sNext) (sRet (eCall (cN 2 F__law_great) (eAcons (eVar 0) (eAcons (eVar 1) eAnil)))))
def F__law_number : List D → M D := runF 3 B__law_number
def B__law_divisor : En → M Fl := (sSeq (sIf (tVal (eOp eqD (eVar 1) (eC (.int 0)))) (sRet (eCall (cN 2 F__law_pick) (eAcons (eVar 0) (eAcons (eFrz (eMapO gLstO (eAcons (eC (.int 2)) (eAcons (eC (.int 3)) (eAcons (eC (.int 4)) (eAcons (eC (.int 10)) (eAcons (eC (.int 97)) (eAcons (eOp powD (eC (.int 10)) (eC (.int 12))) eAnil)))))))) eAnil)))) sNext) (sSeq (sAsg (.nm 2) (eFrz (eLc (eItems (eMapA gTupD (eAcons (eC (.int 2)) (eAcons (eC (.int 3)) (eAcons (eC (.int 4)) (eAcons (eC (.int 5)) (eAcons (eC (.int 6)) (eAcons (eC (.int 8)) (eAcons (eC (.int 9)) (eAcons (eC (.int 10)) (eAcons (eC (.int 15)) (eAcons (eOp powD (eC (.int 10)) (eC (.int 6))) (eAcons (eVar 1) eAnil))))))))))))) (.nm 3) [3] (tVal (eOp eqD (eOp modD (eMapA (g1 intD) (eAcons (eVar 1) eAnil)) (eVar 3)) (eC (.int 0)))) (eVar 3)))) (sRet (eCall (cN 2 F__law_pick) (eAcons (eVar 0) (eAcons (eVar 2) eAnil))))))
def F__law_divisor : List D → M D := runF 4 B__law_divisor
def B_is_lot : En → M Fl := (sSeq (sDrop (eCall (cN 1 F_need_shape) (eAcons (eVar 0) eAnil))) (sSeq (sIf (tNot' (tVal (eUn (isT .tuple) (eVar 1)))) (sRet (eC (.bl false))) sNext) (sRet (eAndV (eMapA (g1 allD) (eAcons (eFrz (eLc (eItems (eVar 1)) (.nm 2) [2] tYes' (eCall (cN 2 F_is_below) (eAcons (eVar 2) (eAcons (eMapA (g1 lenD) (eAcons (eVar 0) eAnil)) eAnil))))) eAnil)) (eCall (cN 1 F_is_ascending) (eAcons (eVar 1) eAnil))))))
def F_is_lot : List D → M D := runF 3 B_is_lot
def B_worlds : En → M Fl := (sSeq (sDrop (eCall (cN 1 F_need_shape) (eAcons (eVar 0) eAnil))) (sRet (eCall (cN 2 F_words_over) (eAcons (eVar 0) (eAcons (eCall (cN 1 F_all_places) (eAcons (eVar 0) eAnil)) eAnil)))))
def F_worlds : List D → M D := runF 1 B_worlds
def B_is_list_over : En → M Fl := (sSeq (sIf (tOr' (tNot' (tVal (eUn (isT .tuple) (eVar 3)))) (tVal (eOp neD (eMapA (g1 lenD) (eAcons (eVar 3) eAnil)) (eCall (cN 2 F_many_words) (eAcons (eVar 0) (eAcons (eVar 2) eAnil)))))) (sRet (eC (.bl false))) sNext) (sRet (eMapA (g1 allD) (eAcons (eFrz (eLc (eItems (eVar 3)) (.nm 4) [4] tYes' (eCall (cN 2 F_is_number) (eAcons (eVar 1) (eAcons (eVar 4) eAnil))))) eAnil))))
def F_is_list_over : List D → M D := runF 5 B_is_list_over
def B__law_total : En → M Fl := (sSeq (sAsg (.nm 4) (eFrz (eOpO gRepO (eFrz (eMapO gLstO (eAcons (eC (.int 0)) eAnil))) (eMapA (g1 lenD) (eAcons (eCall (cN 1 F__law_worlds) (eAcons (eVar 0) eAnil)) eAnil))))) (sSeq (sFor (eMapI gZip (eAcons (eVar 2) (eAcons (eVar 3) eAnil))) (.tp [(.nm 5), (.nm 6)]) (sAsg (.nm 4) (eFrz (eLc (eMapI gZip (eAcons (eVar 4) (eAcons (eCall (cN 3 F__law_spread) (eAcons (eVar 0) (eAcons (eVar 5) (eAcons (eVar 6) eAnil)))) eAnil))) (.tp [(.nm 7), (.nm 8)]) [7, 8] tYes' (eCall (cN 2 F__law_by) (eAcons (eVar 1) (eAcons (eOp addD (eVar 7) (eVar 8)) eAnil))))))) (sRet (eMapA (g1 tupleD) (eAcons (eVar 4) eAnil)))))
def F__law_total : List D → M D := runF 9 B__law_total
def B__law_entries : En → M Fl := (sRet (eMapA (g1 tupleD) (eAcons (eFrz (eLc (eItems (eCall (cN 2 F__law_words) (eAcons (eVar 1) (eAcons (eVar 3) eAnil)))) (.nm 5) [5] tYes' (eIf (tVal (eOp gtD (eCall (cN 2 F__law_draw) (eAcons (eVar 0) (eAcons (eC (.int 5)) eAnil))) (eC (.int 0)))) (eCall (cN 3 F__law_number) (eAcons (eVar 0) (eAcons (eVar 2) (eAcons (eVar 4) eAnil)))) (eC (.int 0))))) eAnil)))
def F__law_entries : List D → M D := runF 6 B__law_entries
def B_need_lot : En → M Fl := (sIf (tNot' (tVal (eCall (cN 2 F_is_lot) (eAcons (eVar 0) (eAcons (eVar 1) eAnil))))) sBad sNext)
def F_need_lot : List D → M D := runF 2 B_need_lot
def B_need_list : En → M Fl := (sIf (tNot' (tVal (eCall (cN 4 F_is_list_over) (eAcons (eVar 0) (eAcons (eVar 1) (eAcons (eVar 2) (eAcons (eVar 3) eAnil))))))) sBad sNext)
def F_need_list : List D → M D := runF 4 B_need_list
def B_is_tuple_of_lots : En → M Fl := (sRet (eAndV (eUn (isT .tuple) (eVar 1)) (eMapA (g1 allD) (eAcons (eFrz (eLc (eItems (eVar 1)) (.nm 2) [2] tYes' (eCall (cN 2 F_is_lot) (eAcons (eVar 0) (eAcons (eVar 2) eAnil))))) eAnil))))
def F_is_tuple_of_lots : List D → M D := runF 3 B_is_tuple_of_lots
def B_are_lists_over : En → M Fl := (sSeq (sIf (tOr' (tNot' (tVal (eUn (isT .tuple) (eVar 3)))) (tVal (eOp neD (eMapA (g1 lenD) (eAcons (eVar 3) eAnil)) (eMapA (g1 lenD) (eAcons (eVar 2) eAnil))))) (sRet (eC (.bl false))) sNext) (sRet (eMapA (g1 allD) (eAcons (eFrz (eLc (eMapI gZip (eAcons (eVar 2) (eAcons (eVar 3) eAnil))) (.tp [(.nm 4), (.nm 5)]) [4, 5] tYes' (eCall (cN 4 F_is_list_over) (eAcons (eVar 0) (eAcons (eVar 1) (eAcons (eVar 4) (eAcons (eVar 5) eAnil))))))) eAnil))))
def F_are_lists_over : List D → M D := runF 6 B_are_lists_over
def B_is_list : En → M Fl := (sSeq (sDrop (eCall (cN 1 F_need_shape) (eAcons (eVar 0) eAnil))) (sSeq (sDrop (eCall (cN 1 F_need_modulus) (eAcons (eVar 1) eAnil))) (sSeq (sDrop (eCall (cN 2 F_need_lot) (eAcons (eVar 0) (eAcons (eVar 2) eAnil)))) (sRet (eCall (cN 4 F_is_list_over) (eAcons (eVar 0) (eAcons (eVar 1) (eAcons (eVar 2) (eAcons (eVar 3) eAnil)))))))))
def F_is_list : List D → M D := runF 4 B_is_list
def B_spread : En → M Fl := (sSeq (sDrop (eCall (cN 1 F_need_shape) (eAcons (eVar 0) eAnil))) (sSeq (sDrop (eCall (cN 1 F_need_modulus) (eAcons (eVar 1) eAnil))) (sSeq (sDrop (eCall (cN 2 F_need_lot) (eAcons (eVar 0) (eAcons (eVar 2) eAnil)))) (sSeq (sDrop (eCall (cN 4 F_need_list) (eAcons (eVar 0) (eAcons (eVar 1) (eAcons (eVar 2) (eAcons (eVar 3) eAnil)))))) (sRet (eMapA (g1 tupleD) (eAcons (eFrz (eLc (eItems (eCall (cN 1 F_worlds) (eAcons (eVar 0) eAnil))) (.nm 4) [4] tYes' (eCall (cN 4 F_met_entry) (eAcons (eVar 0) (eAcons (eVar 2) (eAcons (eVar 3) (eAcons (eVar 4) eAnil))))))) eAnil)))))))
def F_spread : List D → M D := runF 5 B_spread
def B_total : En → M Fl := (sSeq (sDrop (eCall (cN 1 F_need_shape) (eAcons (eVar 0) eAnil))) (sSeq (sDrop (eCall (cN 1 F_need_modulus) (eAcons (eVar 1) eAnil))) (sSeq (sIf (tNot' (tVal (eCall (cN 2 F_is_tuple_of_lots) (eAcons (eVar 0) (eAcons (eVar 2) eAnil))))) sBad sNext) (sSeq (sIf (tNot' (tVal (eCall (cN 4 F_are_lists_over) (eAcons (eVar 0) (eAcons (eVar 1) (eAcons (eVar 2) (eAcons (eVar 3) eAnil))))))) sBad sNext) (sRet (eMapA (g1 tupleD) (eAcons (eFrz (eLc (eItems (eCall (cN 1 F_worlds) (eAcons (eVar 0) eAnil))) (.nm 4) [4] tYes' (eCall (cN 5 F_met_sum) (eAcons (eVar 0) (eAcons (eVar 1) (eAcons (eVar 2) (eAcons (eVar 3) (eAcons (eVar 4) eAnil)))))))) eAnil)))))))
def F_total : List D → M D := runF 5 B_total
def B__law_is_turned_right : En → M Fl := (sSeq (sAsg (.nm 6) (eMapA (gTupR gRange1) (eAcons (eMapA (g1 lenD) (eAcons (eVar 1) eAnil)) eAnil))) (sSeq (sIf (tVal (eOp neD (eMapA (g1 reprD) (eAcons (eCall (cN 4 F_total) (eAcons (eVar 1) (eAcons (eVar 2) (eAcons (eUn revTD (eVar 3)) (eAcons (eUn revTD (eVar 4)) eAnil))))) eAnil)) (eMapA (g1 reprD) (eAcons (eVar 5) eAnil)))) (sRet (eC (.bl false))) sNext) (sSeq (sAsg (.nm 7) (eCall (cN 2 F__law_draw) (eAcons (eVar 0) (eAcons (eOp addD (eMapA (g1 lenD) (eAcons (eVar 3) eAnil)) (eC (.int 1))) eAnil)))) (sSeq (sAsg2 [8, 9] (e2val (eCall (cN 4 F_total) (eAcons (eVar 1) (eAcons (eVar 2) (eAcons (eSlice (eVar 3) eNoPart (ePart (eVar 7))) (eAcons (eSlice (eVar 4) eNoPart (ePart (eVar 7))) eAnil))))) (e2val (eCallK (cN 4 F_total) [3, 2, 1, 0] (eAcons (eSlice (eVar 4) (ePart (eVar 7)) eNoPart) (eAcons (eSlice (eVar 3) (ePart (eVar 7)) eNoPart) (eAcons (eVar 2) (eAcons (eVar 1) eAnil))))) e2nil))) (sSeq (sAsg (.nm 10) (eMapA gTupD (eAcons (eCall (cN 4 F__law_total) (eAcons (eVar 1) (eAcons (eVar 2) (eAcons (eSlice (eVar 3) eNoPart (ePart (eVar 7))) (eAcons (eSlice (eVar 4) eNoPart (ePart (eVar 7))) eAnil))))) (eAcons (eCall (cN 4 F__law_total) (eAcons (eVar 1) (eAcons (eVar 2) (eAcons (eSlice (eVar 3) (ePart (eVar 7)) eNoPart) (eAcons (eSlice (eVar 4) (ePart (eVar 7)) eNoPart) eAnil))))) eAnil)))) (sSeq (sIf (tOr' (tVal (eOp neD (eMapA (g1 reprD) (eAcons (eMapA gTupD (eAcons (eVar 8) (eAcons (eVar 9) eAnil))) eAnil)) (eMapA (g1 reprD) (eAcons (eVar 10) eAnil)))) (tVal (eOp isntD (eCall (cN 4 F_is_list) (eAcons (eVar 1) (eAcons (eVar 2) (eAcons (eVar 6) (eAcons (eVar 8) eAnil))))) (eC (.bl true))))) (sRet (eC (.bl false))) sNext) (sSeq (sIf (tVal (eOp neD (eMapA (g1 reprD) (eAcons (eCall (cN 4 F_total) (eAcons (eVar 1) (eAcons (eVar 2) (eAcons (eMapA gTupD (eAcons (eVar 6) (eAcons (eVar 6) eAnil))) (eAcons (eVar 10) eAnil))))) eAnil)) (eMapA (g1 reprD) (eAcons (eVar 5) eAnil)))) (sRet (eC (.bl false))) sNext) (sSeq (sAsg (.tp [(.nm 11), (.nm 12)]) (eCall (cN 3 F__law_put_together) (eAcons (eVar 2) (eAcons (eVar 3) (eAcons (eVar 4) eAnil))))) (sSeq (sIf (tVal (eOp neD (eMapA (g1 reprD) (eAcons (eCall (cN 4 F_total) (eAcons (eVar 1) (eAcons (eVar 2) (eAcons (eVar 11) (eAcons (eVar 12) eAnil))))) eAnil)) (eMapA (g1 reprD) (eAcons (eVar 5) eAnil)))) (sRet (eC (.bl false))) sNext) (sSeq (sAsg (.nm 13) (eCall (cN 2 F__law_pick) (eAcons (eVar 0) (eAcons (eCall (cN 1 F__law_lots) (eAcons (eMapA (g1 lenD) (eAcons (eVar 1) eAnil)) eAnil)) eAnil)))) (sSeq (sAsg (.nm 14) (eCall (cN 5 F__law_entries) (eAcons (eVar 0) (eAcons (eVar 1) (eAcons (eVar 2) (eAcons (eVar 13) (eAcons (eOp powD (eC (.int 10)) (eC (.int 9))) eAnil))))))) (sSeq (sAsg (.nm 15) (eCall (cN 4 F_total) (eAcons (eVar 1) (eAcons (eVar 2) (eAcons (eOp addD (eOp addD (eMapA gTupD (eAcons (eVar 13) eAnil)) (eVar 3)) (eMapA gTupD (eAcons (eVar 13) eAnil))) (eAcons (eOp addD (eOp addD (eMapA gTupD (eAcons (eVar 14) eAnil)) (eVar 4)) (eMapA gTupD (eAcons (eCall (cN 3 F__law_times) (eAcons (eVar 2) (eAcons (eUn negD (eC (.int 1))) (eAcons (eVar 14) eAnil)))) eAnil))) eAnil)))))) (sRet (eOp eqD (eMapA (g1 reprD) (eAcons (eVar 15) eAnil)) (eMapA (g1 reprD) (eAcons (eVar 5) eAnil))))))))))))))))
def F__law_is_turned_right : List D → M D := runF 16 B__law_is_turned_right
def B_law : En → M Fl := (sSeq (sAsg2 [2, 3] (e2val (eCall (cN 2 F__law_shape) (eAcons (eVar 1) (eAcons (eC (.int 24)) eAnil))) (e2val (eCall (cN 1 F__law_modulus) (eAcons (eVar 1) eAnil)) e2nil))) (sSeq (sAsg (.nm 4) (eMapA (g1 tupleD) (eAcons (eFrz (eLc (eMapI gRange1 (eAcons (eCall (cN 2 F__law_draw) (eAcons (eVar 1) (eAcons (eC (.int 7)) eAnil))) eAnil)) (.nm 16) [16] tYes' (eCall (cN 2 F__law_pick) (eAcons (eVar 1) (eAcons (eCall (cN 1 F__law_lots) (eAcons (eMapA (g1 lenD) (eAcons (eVar 2) eAnil)) eAnil)) eAnil))))) eAnil))) (sSeq (sAsg (.nm 5) (eCall (cN 2 F__law_pick) (eAcons (eVar 1) (eAcons (eFrz (eMapO gLstO (eAcons (eC (.int 9)) (eAcons (eC (.int 99)) (eAcons (eOp powD (eC (.int 10)) (eC (.int 28))) eAnil))))) eAnil)))) (sSeq (sAsg (.nm 6) (eMapA (g1 tupleD) (eAcons (eFrz (eLc (eItems (eVar 4)) (.nm 13) [13] tYes' (eCall (cN 5 F__law_entries) (eAcons (eVar 1) (eAcons (eVar 2) (eAcons (eVar 3) (eAcons (eVar 13) (eAcons (eVar 5) eAnil)))))))) eAnil))) (sSeq (sAsg (.nm 7) (eCall (cN 4 F__law_total) (eAcons (eVar 2) (eAcons (eVar 3) (eAcons (eVar 4) (eAcons (eVar 6) eAnil)))))) (sSeq (sIf (tVal (eOp neD (eMapA (g1 reprD) (eAcons (eMapA gTupD (eAcons (eCall (cN 4 F_total) (eAcons (eVar 2) (eAcons (eVar 3) (eAcons (eVar 4) (eAcons (eVar 6) eAnil))))) (eAcons (eCallK (cN 4 F_total) [3, 1, 2, 0] (eAcons (eVar 6) (eAcons (eVar 3) (eAcons (eVar 4) (eAcons (eVar 2) eAnil))))) eAnil))) eAnil)) (eMapA (g1 reprD) (eAcons (eMapA gTupD (eAcons (eVar 7) (eAcons (eVar 7) eAnil))) eAnil)))) (sRet (eC (.bl false))) sNext) (sSeq (sIf (tNot' (tVal (eCall (cN 6 F__law_is_turned_right) (eAcons (eVar 1) (eAcons (eVar 2) (eAcons (eVar 3) (eAcons (eVar 4) (eAcons (eVar 6) (eAcons (eVar 7) eAnil))))))))) (sRet (eC (.bl false))) sNext) (sSeq (sAsg2 [8, 9] (e2val (eOp subD (eCall (cN 2 F__law_draw) (eAcons (eVar 1) (eAcons (eC (.int 19)) eAnil))) (eC (.int 9))) (e2val (eCall (cN 2 F__law_divisor) (eAcons (eVar 1) (eAcons (eVar 3) eAnil))) e2nil))) (sSeq (sAsg2 [10, 11] (e2val (eMapA (g1 tupleD) (eAcons (eFrz (eLc (eItems (eVar 6)) (.nm 17) [17] tYes' (eCall (cN 3 F__law_times) (eAcons (eVar 3) (eAcons (eVar 8) (eAcons (eVar 17) eAnil)))))) eAnil)) (e2val (eMapA (g1 tupleD) (eAcons (eFrz (eLc (eItems (eVar 6)) (.nm 17) [17] tYes' (eCall (cN 3 F__law_times) (eAcons (eVar 9) (eAcons (eC (.int 1)) (eAcons (eVar 17) eAnil)))))) eAnil)) e2nil))) (sSeq (sIf (tVal (eOp neD (eMapA (g1 reprD) (eAcons (eMapA gTupD (eAcons (eCall (cN 4 F_total) (eAcons (eVar 2) (eAcons (eVar 3) (eAcons (eVar 4) (eAcons (eVar 10) eAnil))))) (eAcons (eCall (cN 4 F_total) (eAcons (eVar 2) (eAcons (eVar 9) (eAcons (eVar 4) (eAcons (eVar 11) eAnil))))) eAnil))) eAnil)) (eMapA (g1 reprD) (eAcons (eMapA gTupD (eAcons (eCall (cN 3 F__law_times) (eAcons (eVar 3) (eAcons (eVar 8) (eAcons (eVar 7) eAnil)))) (eAcons (eCall (cN 3 F__law_times) (eAcons (eVar 9) (eAcons (eC (.int 1)) (eAcons (eVar 7) eAnil)))) eAnil))) eAnil)))) (sRet (eC (.bl false))) sNext) (sSeq (sIf (tVal (eOp neD (eMapA (g1 reprD) (eAcons (eCall (cN 4 F_total) (eAcons (eVar 2) (eAcons (eVar 3) (eAcons (eMapA gTupD eAnil) (eAcons (eMapA gTupD eAnil) eAnil))))) eAnil)) (eMapA (g1 reprD) (eAcons (eOp mulT (eMapA gTupD (eAcons (eC (.int 0)) eAnil)) (eMapA (g1 lenD) (eAcons (eVar 7) eAnil))) eAnil)))) (sRet (eC (.bl false))) sNext) (sSeq (sIf (tVal (eOp neD (eVar 4) (eMapA gTupD eAnil))) (sSeq (sAsg (.nm 12) (eOp addD (eMapA gTupD (eAcons (eMapA (gTupR gRange1) (eAcons (eMapA (g1 lenD) (eAcons (eVar 2) eAnil)) eAnil)) eAnil)) (eSlice (eVar 4) (ePart (eC (.int 1))) eNoPart))) (sIf (tVal (eOp neD (eMapA (g1 reprD) (eAcons (eCall (cN 4 F_total) (eAcons (eVar 2) (eAcons (eVar 3) (eAcons (eVar 12) (eAcons (eOp addD (eMapA gTupD (eAcons (eCall (cN 3 F__law_spread) (eAcons (eVar 2) (eAcons (eOp ixD (eVar 4) (eC (.int 0))) (eAcons (eOp ixD (eVar 6) (eC (.int 0))) eAnil)))) eAnil)) (eSlice (eVar 6) (ePart (eC (.int 1))) eNoPart)) eAnil))))) eAnil)) (eMapA (g1 reprD) (eAcons (eVar 7) eAnil)))) (sRet (eC (.bl false))) sNext)) sNext) (sSeq (sFor (eItems (eSlice (eFrz (eMapO gLstZip (eAcons (eVar 4) (eAcons (eVar 6) eAnil)))) eNoPart (ePart (eC (.int 2))))) (.tp [(.nm 13), (.nm 14)]) (sSeq (sAsg (.nm 15) (eCall (cN 3 F__law_spread) (eAcons (eVar 2) (eAcons (eVar 13) (eAcons (eVar 14) eAnil))))) (sIf (tVal (eOp neD (eMapA (g1 reprD) (eAcons (eMapA gTupD (eAcons (eCall (cN 4 F_total) (eAcons (eVar 2) (eAcons (eVar 3) (eAcons (eMapA gTupD (eAcons (eVar 13) eAnil)) (eAcons (eMapA gTupD (eAcons (eVar 14) eAnil)) eAnil))))) (eAcons (eCall (cN 4 F_spread) (eAcons (eVar 2) (eAcons (eVar 3) (eAcons (eVar 13) (eAcons (eVar 14) eAnil))))) eAnil))) eAnil)) (eMapA (g1 reprD) (eAcons (eMapA gTupD (eAcons (eVar 15) (eAcons (eVar 15) eAnil))) eAnil)))) (sRet (eC (.bl false))) sNext))) (sRet (eC (.bl true))))))))))))))))
/-! what the module holds -/
end K04

end

section
set_option maxRecDepth 100000
set_option maxHeartbeats 4000000
namespace K04
open PySem PySem.Spec PyProof.Rows L2 PV
structure Txt (K : PySem.W.Frag) (mg : Str → Option Value) where
  b_all : mg "all" = none
  b_bool : mg "bool" = none
  b_dict : mg "dict" = none
  b_int : mg "int" = none
  b_isinstance : mg "isinstance" = none
  b_len : mg "len" = none
  b_list : mg "list" = none
  b_max : mg "max" = none
  b_range : mg "range" = none
  b_repr : mg "repr" = none
  b_sorted : mg "sorted" = none
  b_sum : mg "sum" = none
  b_tuple : mg "tuple" = none
  b_zip : mg "zip" = none
  c_MOST_PLACES : ∃ t, mg "MOST_PLACES" = some (.int 4 t)
  c_MOST_LETTERS : ∃ t, mg "MOST_LETTERS" = some (.int 4 t)
  a_is_plain_integer : Addr
  d_is_plain_integer : FuncData
  f_is_plain_integer : Fun K "is_plain_integer" "is_plain_integer" s_is_plain_integer a_is_plain_integer d_is_plain_integer
  m_is_plain_integer : mg "is_plain_integer" = some (.ref a_is_plain_integer)
  a_is_ascending : Addr
  d_is_ascending : FuncData
  f_is_ascending : Fun K "is_ascending" "is_ascending" s_is_ascending a_is_ascending d_is_ascending
  m_is_ascending : mg "is_ascending" = some (.ref a_is_ascending)
  a_all_places : Addr
  d_all_places : FuncData
  f_all_places : Fun K "all_places" "all_places" s_all_places a_all_places d_all_places
  m_all_places : mg "all_places" = some (.ref a_all_places)
  a_words_over : Addr
  d_words_over : FuncData
  f_words_over : Fun K "words_over" "words_over" s_words_over a_words_over d_words_over
  m_words_over : mg "words_over" = some (.ref a_words_over)
  a_reduced : Addr
  d_reduced : FuncData
  f_reduced : Fun K "reduced" "reduced" s_reduced a_reduced d_reduced
  m_reduced : mg "reduced" = some (.ref a_reduced)
  a_many_words : Addr
  d_many_words : FuncData
  f_many_words : Fun K "many_words" "many_words" s_many_words a_many_words d_many_words
  m_many_words : mg "many_words" = some (.ref a_many_words)
  a_met_entry : Addr
  d_met_entry : FuncData
  f_met_entry : Fun K "met_entry" "met_entry" s_met_entry a_met_entry d_met_entry
  m_met_entry : mg "met_entry" = some (.ref a_met_entry)
  a__law_deck : Addr
  d__law_deck : FuncData
  f__law_deck : Fun K "_law_deck" "_law_deck" s__law_deck a__law_deck d__law_deck
  m__law_deck : mg "_law_deck" = some (.ref a__law_deck)
  a__law_draw : Addr
  d__law_draw : FuncData
  f__law_draw : Fun K "_law_draw" "_law_draw" s__law_draw a__law_draw d__law_draw
  m__law_draw : mg "_law_draw" = some (.ref a__law_draw)
  a__law_by : Addr
  d__law_by : FuncData
  f__law_by : Fun K "_law_by" "_law_by" s__law_by a__law_by d__law_by
  m__law_by : mg "_law_by" = some (.ref a__law_by)
  a__law_worlds : Addr
  d__law_worlds : FuncData
  f__law_worlds : Fun K "_law_worlds" "_law_worlds" s__law_worlds a__law_worlds d__law_worlds
  m__law_worlds : mg "_law_worlds" = some (.ref a__law_worlds)
  a__law_word_of : Addr
  d__law_word_of : FuncData
  f__law_word_of : Fun K "_law_word_of" "_law_word_of" s__law_word_of a__law_word_of d__law_word_of
  m__law_word_of : mg "_law_word_of" = some (.ref a__law_word_of)
  a__law_lots : Addr
  d__law_lots : FuncData
  f__law_lots : Fun K "_law_lots" "_law_lots" s__law_lots a__law_lots d__law_lots
  m__law_lots : mg "_law_lots" = some (.ref a__law_lots)
  a_is_below : Addr
  d_is_below : FuncData
  f_is_below : Fun K "is_below" "is_below" s_is_below a_is_below d_is_below
  m_is_below : mg "is_below" = some (.ref a_is_below)
  a_is_shape : Addr
  d_is_shape : FuncData
  f_is_shape : Fun K "is_shape" "is_shape" s_is_shape a_is_shape d_is_shape
  m_is_shape : mg "is_shape" = some (.ref a_is_shape)
  a_is_modulus : Addr
  d_is_modulus : FuncData
  f_is_modulus : Fun K "is_modulus" "is_modulus" s_is_modulus a_is_modulus d_is_modulus
  m_is_modulus : mg "is_modulus" = some (.ref a_is_modulus)
  a_met_sum : Addr
  d_met_sum : FuncData
  f_met_sum : Fun K "met_sum" "met_sum" s_met_sum a_met_sum d_met_sum
  m_met_sum : mg "met_sum" = some (.ref a_met_sum)
  a__law_great : Addr
  d__law_great : FuncData
  f__law_great : Fun K "_law_great" "_law_great" s__law_great a__law_great d__law_great
  m__law_great : mg "_law_great" = some (.ref a__law_great)
  a__law_pick : Addr
  d__law_pick : FuncData
  f__law_pick : Fun K "_law_pick" "_law_pick" s__law_pick a__law_pick d__law_pick
  m__law_pick : mg "_law_pick" = some (.ref a__law_pick)
  a__law_words : Addr
  d__law_words : FuncData
  f__law_words : Fun K "_law_words" "_law_words" s__law_words a__law_words d__law_words
  m__law_words : mg "_law_words" = some (.ref a__law_words)
  a__law_times : Addr
  d__law_times : FuncData
  f__law_times : Fun K "_law_times" "_law_times" s__law_times a__law_times d__law_times
  m__law_times : mg "_law_times" = some (.ref a__law_times)
  a__law_put_together : Addr
  d__law_put_together : FuncData
  f__law_put_together : Fun K "_law_put_together" "_law_put_together" s__law_put_together a__law_put_together d__law_put_together
  m__law_put_together : mg "_law_put_together" = some (.ref a__law_put_together)
  a_need_shape : Addr
  d_need_shape : FuncData
  f_need_shape : Fun K "need_shape" "need_shape" s_need_shape a_need_shape d_need_shape
  m_need_shape : mg "need_shape" = some (.ref a_need_shape)
  a_need_modulus : Addr
  d_need_modulus : FuncData
  f_need_modulus : Fun K "need_modulus" "need_modulus" s_need_modulus a_need_modulus d_need_modulus
  m_need_modulus : mg "need_modulus" = some (.ref a_need_modulus)
  a_is_number : Addr
  d_is_number : FuncData
  f_is_number : Fun K "is_number" "is_number" s_is_number a_is_number d_is_number
  m_is_number : mg "is_number" = some (.ref a_is_number)
  a__law_spread : Addr
  d__law_spread : FuncData
  f__law_spread : Fun K "_law_spread" "_law_spread" s__law_spread a__law_spread d__law_spread
  m__law_spread : mg "_law_spread" = some (.ref a__law_spread)
  a__law_shape : Addr
  d__law_shape : FuncData
  f__law_shape : Fun K "_law_shape" "_law_shape" s__law_shape a__law_shape d__law_shape
  m__law_shape : mg "_law_shape" = some (.ref a__law_shape)
  a__law_modulus : Addr
  d__law_modulus : FuncData
  f__law_modulus : Fun K "_law_modulus" "_law_modulus" s__law_modulus a__law_modulus d__law_modulus
  m__law_modulus : mg "_law_modulus" = some (.ref a__law_modulus)
  a__law_number : Addr
  d__law_number : FuncData
  f__law_number : Fun K "_law_number" "_law_number" s__law_number a__law_number d__law_number
  m__law_number : mg "_law_number" = some (.ref a__law_number)
  a__law_divisor : Addr
  d__law_divisor : FuncData
  f__law_divisor : Fun K "_law_divisor" "_law_divisor" s__law_divisor a__law_divisor d__law_divisor
  m__law_divisor : mg "_law_divisor" = some (.ref a__law_divisor)
  a_is_lot : Addr
  d_is_lot : FuncData
  f_is_lot : Fun K "is_lot" "is_lot" s_is_lot a_is_lot d_is_lot
  m_is_lot : mg "is_lot" = some (.ref a_is_lot)
  a_worlds : Addr
  d_worlds : FuncData
  f_worlds : Fun K "worlds" "worlds" s_worlds a_worlds d_worlds
  m_worlds : mg "worlds" = some (.ref a_worlds)
  a_is_list_over : Addr
  d_is_list_over : FuncData
  f_is_list_over : Fun K "is_list_over" "is_list_over" s_is_list_over a_is_list_over d_is_list_over
  m_is_list_over : mg "is_list_over" = some (.ref a_is_list_over)
  a__law_total : Addr
  d__law_total : FuncData
  f__law_total : Fun K "_law_total" "_law_total" s__law_total a__law_total d__law_total
  m__law_total : mg "_law_total" = some (.ref a__law_total)
  a__law_entries : Addr
  d__law_entries : FuncData
  f__law_entries : Fun K "_law_entries" "_law_entries" s__law_entries a__law_entries d__law_entries
  m__law_entries : mg "_law_entries" = some (.ref a__law_entries)
  a_need_lot : Addr
  d_need_lot : FuncData
  f_need_lot : Fun K "need_lot" "need_lot" s_need_lot a_need_lot d_need_lot
  m_need_lot : mg "need_lot" = some (.ref a_need_lot)
  a_need_list : Addr
  d_need_list : FuncData
  f_need_list : Fun K "need_list" "need_list" s_need_list a_need_list d_need_list
  m_need_list : mg "need_list" = some (.ref a_need_list)
  a_is_tuple_of_lots : Addr
  d_is_tuple_of_lots : FuncData
  f_is_tuple_of_lots : Fun K "is_tuple_of_lots" "is_tuple_of_lots" s_is_tuple_of_lots a_is_tuple_of_lots d_is_tuple_of_lots
  m_is_tuple_of_lots : mg "is_tuple_of_lots" = some (.ref a_is_tuple_of_lots)
  a_are_lists_over : Addr
  d_are_lists_over : FuncData
  f_are_lists_over : Fun K "are_lists_over" "are_lists_over" s_are_lists_over a_are_lists_over d_are_lists_over
  m_are_lists_over : mg "are_lists_over" = some (.ref a_are_lists_over)
  a_is_list : Addr
  d_is_list : FuncData
  f_is_list : Fun K "is_list" "is_list" s_is_list a_is_list d_is_list
  m_is_list : mg "is_list" = some (.ref a_is_list)
  a_spread : Addr
  d_spread : FuncData
  f_spread : Fun K "spread" "spread" s_spread a_spread d_spread
  m_spread : mg "spread" = some (.ref a_spread)
  a_total : Addr
  d_total : FuncData
  f_total : Fun K "total" "total" s_total a_total d_total
  m_total : mg "total" = some (.ref a_total)
  a__law_is_turned_right : Addr
  d__law_is_turned_right : FuncData
  f__law_is_turned_right : Fun K "_law_is_turned_right" "_law_is_turned_right" s__law_is_turned_right a__law_is_turned_right d__law_is_turned_right
  m__law_is_turned_right : mg "_law_is_turned_right" = some (.ref a__law_is_turned_right)
  a_law : Addr
  d_law : FuncData
  f_law : Fun K "law" "law" s_law a_law d_law
  m_law : mg "law" = some (.ref a_law)
section
variable {P : Program} {w : World} {K : PySem.W.Frag} {mg : Str → Option Value} {base : Heap}
theorem Txt.k_is_plain_integer (T : Txt K mg) : Binds K T.d_is_plain_integer ["thing"] [] := T.f_is_plain_integer.binds fun _ _ _ _ _ _ us hl => match us, hl with | [_], _ => rfl
theorem Txt.k_is_ascending (T : Txt K mg) : Binds K T.d_is_ascending ["things"] [] := T.f_is_ascending.binds fun _ _ _ _ _ _ us hl => match us, hl with | [_], _ => rfl
theorem Txt.k_all_places (T : Txt K mg) : Binds K T.d_all_places ["shape"] [] := T.f_all_places.binds fun _ _ _ _ _ _ us hl => match us, hl with | [_], _ => rfl
theorem Txt.k_words_over (T : Txt K mg) : Binds K T.d_words_over ["shape", "lot"] [] := T.f_words_over.binds fun _ _ _ _ _ _ us hl => match us, hl with | [_, _], _ => rfl
theorem Txt.k_reduced (T : Txt K mg) : Binds K T.d_reduced ["m", "integer"] [] := T.f_reduced.binds fun _ _ _ _ _ _ us hl => match us, hl with | [_, _], _ => rfl
theorem Txt.k_many_words (T : Txt K mg) : Binds K T.d_many_words ["shape", "lot"] [] := T.f_many_words.binds fun _ _ _ _ _ _ us hl => match us, hl with | [_, _], _ => rfl
theorem Txt.k_met_entry (T : Txt K mg) : Binds K T.d_met_entry ["shape", "lot", "entries", "world"] [] := T.f_met_entry.binds fun _ _ _ _ _ _ us hl => match us, hl with | [_, _, _, _], _ => rfl
theorem Txt.k__law_deck (T : Txt K mg) : Binds K T.d__law_deck ["script", "seed"] [] := T.f__law_deck.binds fun _ _ _ _ _ _ us hl => match us, hl with | [_, _], _ => rfl
theorem Txt.k__law_draw (T : Txt K mg) : Binds K T.d__law_draw ["deck", "many"] [] := T.f__law_draw.binds fun _ _ _ _ _ _ us hl => match us, hl with | [_, _], _ => rfl
theorem Txt.k__law_by (T : Txt K mg) : Binds K T.d__law_by ["m", "x"] [] := T.f__law_by.binds fun _ _ _ _ _ _ us hl => match us, hl with | [_, _], _ => rfl
theorem Txt.k__law_worlds (T : Txt K mg) : Binds K T.d__law_worlds ["shape"] [] := T.f__law_worlds.binds fun _ _ _ _ _ _ us hl => match us, hl with | [_], _ => rfl
theorem Txt.k__law_word_of (T : Txt K mg) : Binds K T.d__law_word_of ["lot", "world"] [] := T.f__law_word_of.binds fun _ _ _ _ _ _ us hl => match us, hl with | [_, _], _ => rfl
theorem Txt.k__law_lots (T : Txt K mg) : Binds K T.d__law_lots ["many"] [] := T.f__law_lots.binds fun _ _ _ _ _ _ us hl => match us, hl with | [_], _ => rfl
theorem Txt.k_is_below (T : Txt K mg) : Binds K T.d_is_below ["thing", "bound"] [] := T.f_is_below.binds fun _ _ _ _ _ _ us hl => match us, hl with | [_, _], _ => rfl
theorem Txt.k_is_shape (T : Txt K mg) : Binds K T.d_is_shape ["thing"] [] := T.f_is_shape.binds fun _ _ _ _ _ _ us hl => match us, hl with | [_], _ => rfl
theorem Txt.k_is_modulus (T : Txt K mg) : Binds K T.d_is_modulus ["thing"] [] := T.f_is_modulus.binds fun _ _ _ _ _ _ us hl => match us, hl with | [_], _ => rfl
theorem Txt.k_met_sum (T : Txt K mg) : Binds K T.d_met_sum ["shape", "m", "lots", "lists", "world"] [] := T.f_met_sum.binds fun _ _ _ _ _ _ us hl => match us, hl with | [_, _, _, _, _], _ => rfl
theorem Txt.k__law_great (T : Txt K mg) : Binds K T.d__law_great ["deck", "many"] [] := T.f__law_great.binds fun _ _ _ _ _ _ us hl => match us, hl with | [_, _], _ => rfl
theorem Txt.k__law_pick (T : Txt K mg) : Binds K T.d__law_pick ["deck", "some"] [] := T.f__law_pick.binds fun _ _ _ _ _ _ us hl => match us, hl with | [_, _], _ => rfl
theorem Txt.k__law_words (T : Txt K mg) : Binds K T.d__law_words ["shape", "lot"] [] := T.f__law_words.binds fun _ _ _ _ _ _ us hl => match us, hl with | [_, _], _ => rfl
theorem Txt.k__law_times (T : Txt K mg) : Binds K T.d__law_times ["m", "k", "entries"] [] := T.f__law_times.binds fun _ _ _ _ _ _ us hl => match us, hl with | [_, _, _], _ => rfl
theorem Txt.k__law_put_together (T : Txt K mg) : Binds K T.d__law_put_together ["m", "lots", "lists"] [] := T.f__law_put_together.binds fun _ _ _ _ _ _ us hl => match us, hl with | [_, _, _], _ => rfl
theorem Txt.k_need_shape (T : Txt K mg) : Binds K T.d_need_shape ["shape"] [] := T.f_need_shape.binds fun _ _ _ _ _ _ us hl => match us, hl with | [_], _ => rfl
theorem Txt.k_need_modulus (T : Txt K mg) : Binds K T.d_need_modulus ["m"] [] := T.f_need_modulus.binds fun _ _ _ _ _ _ us hl => match us, hl with | [_], _ => rfl
theorem Txt.k_is_number (T : Txt K mg) : Binds K T.d_is_number ["m", "thing"] [] := T.f_is_number.binds fun _ _ _ _ _ _ us hl => match us, hl with | [_, _], _ => rfl
theorem Txt.k__law_spread (T : Txt K mg) : Binds K T.d__law_spread ["shape", "lot", "entries"] [] := T.f__law_spread.binds fun _ _ _ _ _ _ us hl => match us, hl with | [_, _, _], _ => rfl
theorem Txt.k__law_shape (T : Txt K mg) : Binds K T.d__law_shape ["deck", "most"] [] := T.f__law_shape.binds fun _ _ _ _ _ _ us hl => match us, hl with | [_, _], _ => rfl
theorem Txt.k__law_modulus (T : Txt K mg) : Binds K T.d__law_modulus ["deck"] [] := T.f__law_modulus.binds fun _ _ _ _ _ _ us hl => match us, hl with | [_], _ => rfl
theorem Txt.k__law_number (T : Txt K mg) : Binds K T.d__law_number ["deck", "m", "size"] [] := T.f__law_number.binds fun _ _ _ _ _ _ us hl => match us, hl with | [_, _, _], _ => rfl
theorem Txt.k__law_divisor (T : Txt K mg) : Binds K T.d__law_divisor ["deck", "m"] [] := T.f__law_divisor.binds fun _ _ _ _ _ _ us hl => match us, hl with | [_, _], _ => rfl
theorem Txt.k_is_lot (T : Txt K mg) : Binds K T.d_is_lot ["shape", "thing"] [] := T.f_is_lot.binds fun _ _ _ _ _ _ us hl => match us, hl with | [_, _], _ => rfl
theorem Txt.k_worlds (T : Txt K mg) : Binds K T.d_worlds ["shape"] [] := T.f_worlds.binds fun _ _ _ _ _ _ us hl => match us, hl with | [_], _ => rfl
theorem Txt.k_is_list_over (T : Txt K mg) : Binds K T.d_is_list_over ["shape", "m", "lot", "thing"] [] := T.f_is_list_over.binds fun _ _ _ _ _ _ us hl => match us, hl with | [_, _, _, _], _ => rfl
theorem Txt.k__law_total (T : Txt K mg) : Binds K T.d__law_total ["shape", "m", "lots", "lists"] [] := T.f__law_total.binds fun _ _ _ _ _ _ us hl => match us, hl with | [_, _, _, _], _ => rfl
theorem Txt.k__law_entries (T : Txt K mg) : Binds K T.d__law_entries ["deck", "shape", "m", "lot", "size"] [] := T.f__law_entries.binds fun _ _ _ _ _ _ us hl => match us, hl with | [_, _, _, _, _], _ => rfl
theorem Txt.k_need_lot (T : Txt K mg) : Binds K T.d_need_lot ["shape", "lot"] [] := T.f_need_lot.binds fun _ _ _ _ _ _ us hl => match us, hl with | [_, _], _ => rfl
theorem Txt.k_need_list (T : Txt K mg) : Binds K T.d_need_list ["shape", "m", "lot", "entries"] [] := T.f_need_list.binds fun _ _ _ _ _ _ us hl => match us, hl with | [_, _, _, _], _ => rfl
theorem Txt.k_is_tuple_of_lots (T : Txt K mg) : Binds K T.d_is_tuple_of_lots ["shape", "thing"] [] := T.f_is_tuple_of_lots.binds fun _ _ _ _ _ _ us hl => match us, hl with | [_, _], _ => rfl
theorem Txt.k_are_lists_over (T : Txt K mg) : Binds K T.d_are_lists_over ["shape", "m", "lots", "thing"] [] := T.f_are_lists_over.binds fun _ _ _ _ _ _ us hl => match us, hl with | [_, _, _, _], _ => rfl
theorem Txt.k_is_list (T : Txt K mg) : Binds K T.d_is_list ["shape", "m", "lot", "thing"] [] := T.f_is_list.binds fun _ _ _ _ _ _ us hl => match us, hl with | [_, _, _, _], _ => rfl
theorem Txt.k_spread (T : Txt K mg) : Binds K T.d_spread ["shape", "m", "lot", "entries"] [] := T.f_spread.binds fun _ _ _ _ _ _ us hl => match us, hl with | [_, _, _, _], _ => rfl
theorem Txt.k_total (T : Txt K mg) : Binds K T.d_total ["shape", "m", "lots", "lists"] [] := T.f_total.binds fun _ _ _ _ _ _ us hl => match us, hl with | [_, _, _, _], _ => rfl
theorem Txt.kw_total_3_2_1_0 (T : Txt K mg) : ∀ ws : List Value, (permL [3, 2, 1, 0] ws).length = (["shape", "m", "lots", "lists"] : List Str).length → bindArgs T.d_total ⟨[], (["lists", "lots", "m", "shape"] : List Str).zip ws⟩ = pure ((["shape", "m", "lots", "lists"] : List Str).zip (permL [3, 2, 1, 0] ws)) := bindsK T.f_total _ _ fun _ _ _ _ _ _ us hl => match us, hl with | _ :: _ :: _ :: _ :: _, _ => rfl | [], h => (by simp [permL] at h) | [_], h => (by simp [permL] at h) | [_, _], h => (by simp [permL] at h) | [_, _, _], h => (by simp [permL] at h)
theorem Txt.kw_total_3_1_2_0 (T : Txt K mg) : ∀ ws : List Value, (permL [3, 1, 2, 0] ws).length = (["shape", "m", "lots", "lists"] : List Str).length → bindArgs T.d_total ⟨[], (["lists", "m", "lots", "shape"] : List Str).zip ws⟩ = pure ((["shape", "m", "lots", "lists"] : List Str).zip (permL [3, 1, 2, 0] ws)) := bindsK T.f_total _ _ fun _ _ _ _ _ _ us hl => match us, hl with | _ :: _ :: _ :: _ :: _, _ => rfl | [], h => (by simp [permL] at h) | [_], h => (by simp [permL] at h) | [_, _], h => (by simp [permL] at h) | [_, _, _], h => (by simp [permL] at h)
theorem Txt.k__law_is_turned_right (T : Txt K mg) : Binds K T.d__law_is_turned_right ["deck", "shape", "m", "lots", "lists", "due"] [] := T.f__law_is_turned_right.binds fun _ _ _ _ _ _ us hl => match us, hl with | [_, _, _, _, _, _], _ => rfl
theorem Txt.k_law (T : Txt K mg) : Binds K T.d_law ["script"] [] := T.f_law.binds fun _ _ _ _ _ _ us hl => match us, hl with | [_], _ => rfl
end
end K04

end

section
set_option maxRecDepth 100000
set_option maxHeartbeats 400000
namespace K04
open PySem PySem.Spec PyProof.Rows L2 PV
section
variable {P : Program} {w : World} {K : PySem.W.Frag} {mg : Str → Option Value} {base : Heap}
theorem ok__law_deck (T : Txt K mg) : FnG P w K mg base 1 T.a__law_deck T.d__law_deck ["script", "seed"] (spDk K) := by
  have nd := sc__law_deck.nd
  refine fng_of T.f__law_deck sc__law_deck (fun vs H Q E h => ?_) fun cdv A outer z H vs Q E hG hr h => ?_
  · obtain ⟨a, ns, n, e, _⟩ := h
    rw [e]; rfl
  · obtain ⟨a, ns, n, e, hS, hl, q⟩ := h
    subst e
    refine ⟨_, pss_cons (ps_set (i := 2) nd rfl (.inl rfl) (pv 1)) (pss_cons (ps_for (passes_of rfl) rfl (pi_list (pe_slice sl_list (pv 0) po_none (po_some pe_int))) (pg_name (i := 3) nd rfl (.inl rfl))
      (pss_one (ps_set (i := 2) nd rfl (.inl rfl) (pe_op op_modN (pe_callTy call_int1 (by rfl) T.b_int bt_int (pa_cons (pe_op op_add (pe_op op_add (pe_op op_mul (pv 2) pe_int) (pe_op op_modN (pe_callTy call_int1 (by rfl) T.b_int bt_int (pa_cons (pv 3) pa_nil)) pe_int)) pe_int) pa_nil)) pe_int))))
      (pss_one (ps_ret (pe_disp (pps_cons pe_str (pe_revL (pe_callTy call_list_of (by rfl) T.b_list bt_list (pa_cons (pe_slice sl_list (pv 0) po_none (po_some pe_int)) pa_nil))) (pps_cons pe_str (pv 2) (pps_cons pe_str pe_int pps_nil))) rfl rfl (by intro z; cases z) (by decide))))), ?_⟩
    refine ⟨.int n, rfl, ?_⟩
    obtain ⟨ms, em, lm⟩ := cut_ints ns none (some 63)
    refine ⟨.ref a, rfl, 63, rfl, a, _, rfl, hS, fun c nc => ⟨c, rfl, ⟨_, .of upd_same⟩, ?_⟩⟩
    rw [em]
    have kc : ∀ b o, H b = some o → upd H c (.lst (ms.map V.int)) b = some o := fun b o e => by rw [upd_ne (ne_of_none e nc)]; exact e
    refine for_list (xs := ms.map V.int) (fun i σ H3 => H3 = upd H c (.lst (ms.map V.int)) ∧ ∃ (m : Int) (y : Option V), σ = [some (.ref a), some (.int n), some (.int m), y]) ⟨rfl, n, none, rfl⟩ (fun i σ H3 _ h => ?_) (fun i x σ H3 hx h => ?_) fun σ H3 h => ?_
    · obtain ⟨rfl, _⟩ := h
      exact .of upd_same
    · obtain ⟨rfl, m, y, rfl⟩ := h
      rw [List.getElem?_map] at hx
      cases hz : ms[i]? with
      | none => rw [hz] at hx; cases hx
      | some zc =>
        rw [hz] at hx
        cases hx
        exact ⟨.int m, rfl, _, _, rfl, rfl, .inr ⟨by decide, by decide⟩, .int zc, rfl, .inl ⟨zc, rfl, _, _, rfl, rfl, (show (2147483629 : Int) ≠ 0 by decide), _, _, rfl, rfl, _, _, rfl, rfl, .inl ⟨_, rfl, _, _, rfl, rfl, (show (2147483563 : Int) ≠ 0 by decide), rfl, _, _, rfl⟩⟩⟩
    · obtain ⟨rfl, m, y, rfl⟩ := h
      intro p hp
      have hpc : p ≠ c := fun z => by subst z; rw [upd_same] at hp; cases hp
      have hpH : H p = none := by rw [upd_ne hpc] at hp; exact hp
      have k1 : ∀ b o, H b = some o → upd (upd H c (.lst (ms.map V.int))) p (.dK []) b = some o := fun b o e => by rw [upd_ne (ne_of_none e hpH)]; exact kc b o e
      refine ⟨.ref a, rfl, 63, rfl, a, _, rfl, Sm.sqL k1 hS, fun c2 nc2 => ?_⟩
      rw [em]
      refine ⟨c2, _, rfl, .inl (.of upd_same), fun l1 nl1 => ⟨l1, _, rfl, .of upd_same, fun l nl => ⟨.int m, rfl, ?_⟩⟩⟩
      have n2 : p ≠ c2 := ne_of_none upd_same nc2
      have e2 : upd (upd (upd H c (.lst (ms.map V.int))) p (.dK [])) c2 (.lst (ms.map V.int)) p = some (.dK []) := by rw [upd_ne n2]; exact upd_same
      have n3 : p ≠ l1 := ne_of_none e2 nl1
      have e3 : upd (upd (upd (upd H c (.lst (ms.map V.int))) p (.dK [])) c2 (.lst (ms.map V.int))) l1 (.lst (ms.map V.int)) p = some (.dK []) := by rw [upd_ne n3]; exact e2
      have n4 : p ≠ l := ne_of_none e3 nl
      have e4 : upd (upd (upd (upd (upd H c (.lst (ms.map V.int))) p (.dK [])) c2 (.lst (ms.map V.int))) l1 (.lst (ms.map V.int))) l (.lst (ms.map V.int).reverse) p = some (.dK []) := by rw [upd_ne n4]; exact e3
      refine ⟨e4, [(.inr "left", .ref l), (.inr "mixed", .int m), (.inr "draws", .int 0)], rfl, (show 3 ≤ 15 by decide), ?_⟩
      have k2 : ∀ b o, H b = some o → upd (upd (upd (upd (upd H c (.lst (ms.map V.int))) p (.dK [])) c2 (.lst (ms.map V.int))) l1 (.lst (ms.map V.int))) l (.lst (ms.map V.int).reverse) b = some o := fun b o e => by
        have h1 := k1 b o e
        have h2 : upd (upd (upd H c (.lst (ms.map V.int))) p (.dK [])) c2 (.lst (ms.map V.int)) b = some o := by rw [upd_ne (ne_of_none h1 nc2)]; exact h1
        have h3 : upd (upd (upd (upd H c (.lst (ms.map V.int))) p (.dK [])) c2 (.lst (ms.map V.int))) l1 (.lst (ms.map V.int)) b = some o := by rw [upd_ne (ne_of_none h2 nl1)]; exact h2
        rw [upd_ne (ne_of_none h3 nl)]; exact h3
      refine q _ p l ⟨ms.reverse, m, 0⟩ (fun b o e => ?_) (by rw [upd_same]; rfl) ?_ (by show ms.reverse.length ≤ 63; rw [List.length_reverse]; omega)
      · rw [upd_ne (ne_of_none e hpH)]
        exact k2 b o e
      · rw [upd_ne n4.symm, upd_same, List.map_reverse]
theorem ok_is_plain_integer (T : Txt K mg) : FnG P w K mg base 1 T.a_is_plain_integer T.d_is_plain_integer ["thing"] (spF K 1 F_is_plain_integer) := by
  have nd := sc_is_plain_integer.nd
  have h := fun b => @def_rule P w K mg base _ _ _ _ _ _ _ 0 B_is_plain_integer T.f_is_plain_integer sc_is_plain_integer b
  have e : spF K ((["thing"] : List Str).length) (runF ((["thing"] : List Str).length) B_is_plain_integer) = spF K 1 F_is_plain_integer := rfl
  rw [e] at h
  refine h (fun cdv A outer z H0 E dk l I0 hG hr => ?_)
  have un := hr.un
  have hu0 : (A.deeper (envOfC "is_plain_integer" (defScope s_is_plain_integer) z.heap.objs.size T.a_is_plain_integer cdv)).units < cLine := by omega
  have hu1 : (A.deeper (envOfC "is_plain_integer" (defScope s_is_plain_integer) z.heap.objs.size T.a_is_plain_integer cdv)).units + 1 < cLine := by omega
  have hu8 : (A.deeper (envOfC "is_plain_integer" (defScope s_is_plain_integer) z.heap.objs.size T.a_is_plain_integer cdv)).units + 8 < cLine := by omega
  have hu64 : (A.deeper (envOfC "is_plain_integer" (defScope s_is_plain_integer) z.heap.objs.size T.a_is_plain_integer cdv)).units + 64 < cLine := by omega
  have hu128 : (A.deeper (envOfC "is_plain_integer" (defScope s_is_plain_integer) z.heap.objs.size T.a_is_plain_integer cdv)).units + 128 < cLine := by omega
  exact (p_one (p_ret (r_andV (r_isi .int (by rfl) T.b_isinstance (by rfl) T.b_int bt_int (r_var 0 (ta := tVar 0) (pv 0)) bt_isinstance) (r_one (r_notV (r_isi .bool (by rfl) T.b_isinstance (by rfl) T.b_bool bt_bool (r_var 0 (ta := tVar 0) (pv 0)) bt_isinstance))))))
theorem ok_is_ascending (T : Txt K mg) : FnG P w K mg base 1 T.a_is_ascending T.d_is_ascending ["things"] (spF K 1 F_is_ascending) := by
  have nd := sc_is_ascending.nd
  have h := fun b => @def_rule P w K mg base _ _ _ _ _ _ _ 0 B_is_ascending T.f_is_ascending sc_is_ascending b
  have e : spF K ((["things"] : List Str).length) (runF ((["things", "low", "high"] : List Str).length) B_is_ascending) = spF K 1 F_is_ascending := rfl
  rw [e] at h
  refine h (fun cdv A outer z H0 E dk l I0 hG hr => ?_)
  have un := hr.un
  have hu0 : (A.deeper (envOfC "is_ascending" (defScope s_is_ascending) z.heap.objs.size T.a_is_ascending cdv)).units < cLine := by omega
  have hu1 : (A.deeper (envOfC "is_ascending" (defScope s_is_ascending) z.heap.objs.size T.a_is_ascending cdv)).units + 1 < cLine := by omega
  have hu8 : (A.deeper (envOfC "is_ascending" (defScope s_is_ascending) z.heap.objs.size T.a_is_ascending cdv)).units + 8 < cLine := by omega
  have hu64 : (A.deeper (envOfC "is_ascending" (defScope s_is_ascending) z.heap.objs.size T.a_is_ascending cdv)).units + 64 < cLine := by omega
  have hu128 : (A.deeper (envOfC "is_ascending" (defScope s_is_ascending) z.heap.objs.size T.a_is_ascending cdv)).units + 128 < cLine := by omega
  exact (p_one (p_ret (r_callB (c_all rfl) (by rfl) T.b_all bt_all (r_acons (r_frz (r_lc (own := [("low", 1), ("high", 2)]) rfl nd (r_B (r_zip (by rfl) T.b_zip (r_acons (r_var 0 (ta := tVar 0) (pv 0)) (r_acons (r_slice (r_var 0 (ta := tVar 0) (pv 0)) (r_psome r_int) r_pno) r_anil)))) (blkOk_by (N := ["things", "low", "high"]) (sc := defScope s_is_ascending) (by decide +kernel)) (fun _ _ _ _ _ => (pgT rfl (pgsC (pgN (pg_name nd (i := 1) (by rfl) (by first | exact .inl rfl | exact .inr rfl))) (pgsC (pgN (pg_name nd (i := 2) (by rfl) (by first | exact .inl rfl | exact .inr rfl))) pgsN)))) (fun _ _ _ _ _ => r_pts_nil) (fun _ _ _ _ _ => (r_cmp (o_lt hu0) (r_var 1 (ta := tVar 1) (pv 1)) (r_var 2 (ta := tVar 2) (pv 2)) (nomark _))) (by decide))) r_anil))))
theorem ok_all_places (T : Txt K mg) : FnG P w K mg base 1 T.a_all_places T.d_all_places ["shape"] (spF K 1 F_all_places) := by
  have nd := sc_all_places.nd
  have h := fun b => @def_rule P w K mg base _ _ _ _ _ _ _ 0 B_all_places T.f_all_places sc_all_places b
  have e : spF K ((["shape"] : List Str).length) (runF ((["shape"] : List Str).length) B_all_places) = spF K 1 F_all_places := rfl
  rw [e] at h
  refine h (fun cdv A outer z H0 E dk l I0 hG hr => ?_)
  have un := hr.un
  have hu0 : (A.deeper (envOfC "all_places" (defScope s_all_places) z.heap.objs.size T.a_all_places cdv)).units < cLine := by omega
  have hu1 : (A.deeper (envOfC "all_places" (defScope s_all_places) z.heap.objs.size T.a_all_places cdv)).units + 1 < cLine := by omega
  have hu8 : (A.deeper (envOfC "all_places" (defScope s_all_places) z.heap.objs.size T.a_all_places cdv)).units + 8 < cLine := by omega
  have hu64 : (A.deeper (envOfC "all_places" (defScope s_all_places) z.heap.objs.size T.a_all_places cdv)).units + 64 < cLine := by omega
  have hu128 : (A.deeper (envOfC "all_places" (defScope s_all_places) z.heap.objs.size T.a_all_places cdv)).units + 128 < cLine := by omega
  exact (p_one (p_ret (r_tupRange1 rfl (by rfl) T.b_tuple (by rfl) T.b_range (r_callB c_len (by rfl) T.b_len PySem.boot_len (r_acons (r_var 0 (ta := tVar 0) (pv 0)) r_anil)))))
theorem ok_words_over (T : Txt K mg) : FnG P w K mg base 1 T.a_words_over T.d_words_over ["shape", "lot"] (spF K 2 F_words_over) := by
  have nd := sc_words_over.nd
  have h := fun b => @def_rule P w K mg base _ _ _ _ _ _ _ 0 B_words_over T.f_words_over sc_words_over b
  have e : spF K ((["shape", "lot"] : List Str).length) (runF ((["shape", "lot", "found", "place", "word", "letter"] : List Str).length) B_words_over) = spF K 2 F_words_over := rfl
  rw [e] at h
  refine h (fun cdv A outer z H0 E dk l I0 hG hr => ?_)
  have un := hr.un
  have hu0 : (A.deeper (envOfC "words_over" (defScope s_words_over) z.heap.objs.size T.a_words_over cdv)).units < cLine := by omega
  have hu1 : (A.deeper (envOfC "words_over" (defScope s_words_over) z.heap.objs.size T.a_words_over cdv)).units + 1 < cLine := by omega
  have hu8 : (A.deeper (envOfC "words_over" (defScope s_words_over) z.heap.objs.size T.a_words_over cdv)).units + 8 < cLine := by omega
  have hu64 : (A.deeper (envOfC "words_over" (defScope s_words_over) z.heap.objs.size T.a_words_over cdv)).units + 64 < cLine := by omega
  have hu128 : (A.deeper (envOfC "words_over" (defScope s_words_over) z.heap.objs.size T.a_words_over cdv)).units + 128 < cLine := by omega
  exact (p_cons (p_asg (r_frz (r_lst (r_acons (r_tup r_anil) r_anil))) (pgN (pg_name nd (i := 2) (by rfl) (by first | exact .inl rfl | exact .inr rfl)))) (p_cons (p_for (passes_of rfl) rfl (r_items (r_var 1 (ta := tVar 1) (pv 1))) (pgN (pg_name nd (i := 3) (by rfl) (by first | exact .inl rfl | exact .inr rfl))) (p_one (p_setLc2V (i := 2) (own := [("word", 4), ("letter", 5)]) (vs1 := [5]) rfl nd (by rfl) (by rfl) (sw_true rfl (by rfl) (by rfl) (by decide +kernel)) (r_B (r_items (r_var 2 (ta := tVar 2) (pv 2)))) (blkOk_by (N := ["shape", "lot", "found", "place", "word", "letter"]) (sc := defScope s_words_over) (by decide +kernel)) (by decide) (fun _ _ _ _ _ => (pgN (pg_name nd (i := 4) (by rfl) (by first | exact .inl rfl | exact .inr rfl)))) (fun _ _ _ _ _ => r_pts_nil) (fun _ _ _ _ _ => (r_B (r_range1 (by rfl) T.b_range (r_acons (r_ix hu1 (r_var 0 (ta := tVar 0) (pv 0)) (r_var 3 (ta := tVar 3) (pv 3)) (fun _ _ => rfl)) r_anil)))) (fun _ _ _ _ _ => (pgN (pg_name nd (i := 5) (by rfl) (by first | exact .inl rfl | exact .inr rfl)))) (fun _ _ _ _ _ => r_pts_nil) (fun _ _ _ _ _ => (r_tup (r_astar (r_var 4 (ta := tVar 4) (pv 4)) (r_acons (r_var 5 (ta := tVar 5) (pv 5)) r_anil)))) (by decide) (by decide)))) (p_one (p_ret (r_callT c_tuple (by rfl) T.b_tuple bt_tuple (r_acons (r_var 2 (ta := tVar 2) (pv 2)) r_anil))))))
theorem ok_reduced (T : Txt K mg) : FnG P w K mg base 1 T.a_reduced T.d_reduced ["m", "integer"] (spF K 2 F_reduced) := by
  have nd := sc_reduced.nd
  have h := fun b => @def_rule P w K mg base _ _ _ _ _ _ _ 0 B_reduced T.f_reduced sc_reduced b
  have e : spF K ((["m", "integer"] : List Str).length) (runF ((["m", "integer"] : List Str).length) B_reduced) = spF K 2 F_reduced := rfl
  rw [e] at h
  refine h (fun cdv A outer z H0 E dk l I0 hG hr => ?_)
  have un := hr.un
  have hu0 : (A.deeper (envOfC "reduced" (defScope s_reduced) z.heap.objs.size T.a_reduced cdv)).units < cLine := by omega
  have hu1 : (A.deeper (envOfC "reduced" (defScope s_reduced) z.heap.objs.size T.a_reduced cdv)).units + 1 < cLine := by omega
  have hu8 : (A.deeper (envOfC "reduced" (defScope s_reduced) z.heap.objs.size T.a_reduced cdv)).units + 8 < cLine := by omega
  have hu64 : (A.deeper (envOfC "reduced" (defScope s_reduced) z.heap.objs.size T.a_reduced cdv)).units + 64 < cLine := by omega
  have hu128 : (A.deeper (envOfC "reduced" (defScope s_reduced) z.heap.objs.size T.a_reduced cdv)).units + 128 < cLine := by omega
  exact (p_cons (p_if (r_tcmp (o_eq hu64) (r_var 0 (ta := tVar 0) (pv 0)) r_int (nomark _)) (p_one (p_ret (r_var 1 (ta := tVar 1) (pv 1)))) p_nil) (p_one (p_ret (r_op o_mod (r_var 1 (ta := tVar 1) (pv 1)) (r_var 0 (ta := tVar 0) (pv 0))))))
theorem ok_many_words (T : Txt K mg) : FnG P w K mg base 1 T.a_many_words T.d_many_words ["shape", "lot"] (spF K 2 F_many_words) := by
  have nd := sc_many_words.nd
  have h := fun b => @def_rule P w K mg base _ _ _ _ _ _ _ 0 B_many_words T.f_many_words sc_many_words b
  have e : spF K ((["shape", "lot"] : List Str).length) (runF ((["shape", "lot", "many", "place"] : List Str).length) B_many_words) = spF K 2 F_many_words := rfl
  rw [e] at h
  refine h (fun cdv A outer z H0 E dk l I0 hG hr => ?_)
  have un := hr.un
  have hu0 : (A.deeper (envOfC "many_words" (defScope s_many_words) z.heap.objs.size T.a_many_words cdv)).units < cLine := by omega
  have hu1 : (A.deeper (envOfC "many_words" (defScope s_many_words) z.heap.objs.size T.a_many_words cdv)).units + 1 < cLine := by omega
  have hu8 : (A.deeper (envOfC "many_words" (defScope s_many_words) z.heap.objs.size T.a_many_words cdv)).units + 8 < cLine := by omega
  have hu64 : (A.deeper (envOfC "many_words" (defScope s_many_words) z.heap.objs.size T.a_many_words cdv)).units + 64 < cLine := by omega
  have hu128 : (A.deeper (envOfC "many_words" (defScope s_many_words) z.heap.objs.size T.a_many_words cdv)).units + 128 < cLine := by omega
  exact (p_cons (p_asg r_int (pgN (pg_name nd (i := 2) (by rfl) (by first | exact .inl rfl | exact .inr rfl)))) (p_cons (p_for (passes_of rfl) rfl (r_items (r_var 1 (ta := tVar 1) (pv 1))) (pgN (pg_name nd (i := 3) (by rfl) (by first | exact .inl rfl | exact .inr rfl))) (p_one (p_asg (r_op o_mul (r_var 2 (ta := tVar 2) (pv 2)) (r_ix hu1 (r_var 0 (ta := tVar 0) (pv 0)) (r_var 3 (ta := tVar 3) (pv 3)) (fun _ _ => rfl))) (pgN (pg_name nd (i := 2) (by rfl) (by first | exact .inl rfl | exact .inr rfl)))))) (p_one (p_ret (r_var 2 (ta := tVar 2) (pv 2))))))
theorem ok_met_entry (T : Txt K mg) : FnG P w K mg base 1 T.a_met_entry T.d_met_entry ["shape", "lot", "entries", "world"] (spF K 4 F_met_entry) := by
  have nd := sc_met_entry.nd
  have h := fun b => @def_rule P w K mg base _ _ _ _ _ _ _ 0 B_met_entry T.f_met_entry sc_met_entry b
  have e : spF K ((["shape", "lot", "entries", "world"] : List Str).length) (runF ((["shape", "lot", "entries", "world", "at", "place"] : List Str).length) B_met_entry) = spF K 4 F_met_entry := rfl
  rw [e] at h
  refine h (fun cdv A outer z H0 E dk l I0 hG hr => ?_)
  have un := hr.un
  have hu0 : (A.deeper (envOfC "met_entry" (defScope s_met_entry) z.heap.objs.size T.a_met_entry cdv)).units < cLine := by omega
  have hu1 : (A.deeper (envOfC "met_entry" (defScope s_met_entry) z.heap.objs.size T.a_met_entry cdv)).units + 1 < cLine := by omega
  have hu8 : (A.deeper (envOfC "met_entry" (defScope s_met_entry) z.heap.objs.size T.a_met_entry cdv)).units + 8 < cLine := by omega
  have hu64 : (A.deeper (envOfC "met_entry" (defScope s_met_entry) z.heap.objs.size T.a_met_entry cdv)).units + 64 < cLine := by omega
  have hu128 : (A.deeper (envOfC "met_entry" (defScope s_met_entry) z.heap.objs.size T.a_met_entry cdv)).units + 128 < cLine := by omega
  exact (p_cons (p_asg r_int (pgN (pg_name nd (i := 4) (by rfl) (by first | exact .inl rfl | exact .inr rfl)))) (p_cons (p_for (passes_of rfl) rfl (r_items (r_var 1 (ta := tVar 1) (pv 1))) (pgN (pg_name nd (i := 5) (by rfl) (by first | exact .inl rfl | exact .inr rfl))) (p_one (p_asg (r_op o_add (r_op o_mul (r_var 4 (ta := tVar 4) (pv 4)) (r_ix hu1 (r_var 0 (ta := tVar 0) (pv 0)) (r_var 5 (ta := tVar 5) (pv 5)) (fun _ _ => rfl))) (r_ix hu1 (r_var 3 (ta := tVar 3) (pv 3)) (r_var 5 (ta := tVar 5) (pv 5)) (fun _ _ => rfl))) (pgN (pg_name nd (i := 4) (by rfl) (by first | exact .inl rfl | exact .inr rfl)))))) (p_one (p_ret (r_ix hu1 (r_var 2 (ta := tVar 2) (pv 2)) (r_var 4 (ta := tVar 4) (pv 4)) (fun _ _ => rfl))))))

theorem ok__law_draw (T : Txt K mg) : FnG P w K mg base 1 T.a__law_draw T.d__law_draw ["deck", "many"] (spF K 2 F__law_draw) := by
  have nd := sc__law_draw.nd
  have h := fun b => @def_rule P w K mg base _ _ _ _ _ _ _ 0 B__law_draw T.f__law_draw sc__law_draw b
  have e : spF K ((["deck", "many"] : List Str).length) (runF ((["deck", "many", "cell", "figure"] : List Str).length) B__law_draw) = spF K 2 F__law_draw := rfl
  rw [e] at h
  refine h (fun cdv A outer z H0 E dk l I0 hG hr => ?_)
  have un := hr.un
  have hu0 : (A.deeper (envOfC "_law_draw" (defScope s__law_draw) z.heap.objs.size T.a__law_draw cdv)).units < cLine := by omega
  have hu1 : (A.deeper (envOfC "_law_draw" (defScope s__law_draw) z.heap.objs.size T.a__law_draw cdv)).units + 1 < cLine := by omega
  have hu8 : (A.deeper (envOfC "_law_draw" (defScope s__law_draw) z.heap.objs.size T.a__law_draw cdv)).units + 8 < cLine := by omega
  have hu64 : (A.deeper (envOfC "_law_draw" (defScope s__law_draw) z.heap.objs.size T.a__law_draw cdv)).units + 64 < cLine := by omega
  have hu128 : (A.deeper (envOfC "_law_draw" (defScope s__law_draw) z.heap.objs.size T.a__law_draw cdv)).units + 128 < cLine := by omega
  exact (p_cons (p_dkSet 0 .draws hu1 (pv 0) (r_op o_add (r_dkI 0 .draws hu1 (pv 0)) r_int)) (p_cons (p_if (r_dkNe 0 hu1 hu64 (pv 0)) (p_cons (p_asg (r_dkPop 0 hu1 (pv 0)) (pgN (pg_name nd (i := 2) (by rfl) (by first | exact .inl rfl | exact .inr rfl)))) (p_cons (p_if (r_tcmp o_ge (r_var 2 (ta := tVar 2) (pv 2)) (r_op o_pow r_int r_int) (nomark _)) (p_cons (p_dkApp 0 hu1 (pv 0) (r_op o_fdiv (r_var 2 (ta := tVar 2) (pv 2)) (r_callB (c_max rfl) (by rfl) T.b_max bt_max (r_acons r_int (r_acons (r_var 1 (ta := tVar 1) (pv 1)) r_anil))))) (p_one (p_ret (r_op o_mod (r_callT c_int (by rfl) T.b_int bt_int (r_acons (r_var 2 (ta := tVar 2) (pv 2)) r_anil)) (r_var 1 (ta := tVar 1) (pv 1)))))) p_nil) (p_one (p_dkSet 0 .mixed hu1 (pv 0) (r_op o_mod (r_callT c_int (by rfl) T.b_int bt_int (r_acons (r_op o_add (r_op o_add (r_op o_mul (r_dkI 0 .mixed hu1 (pv 0)) r_int) (r_op o_mod (r_callT c_int (by rfl) T.b_int bt_int (r_acons (r_var 2 (ta := tVar 2) (pv 2)) r_anil)) r_int)) r_int) r_anil)) r_int))))) p_nil) (p_cons (p_asg (r_op o_mod (r_callT c_int (by rfl) T.b_int bt_int (r_acons (r_op o_add (r_dkI 0 .mixed hu1 (pv 0)) (r_op o_mul r_int (r_dkI 0 .draws hu1 (pv 0)))) r_anil)) r_int) (pgN (pg_name nd (i := 3) (by rfl) (by first | exact .inl rfl | exact .inr rfl)))) (p_cons (p_asg (r_op o_mod (r_callT c_int (by rfl) T.b_int bt_int (r_acons (r_op o_add (r_op o_add (r_op o_mul (r_var 3 (ta := tVar 3) (pv 3)) (r_var 3 (ta := tVar 3) (pv 3))) (r_op o_mul r_int (r_dkI 0 .draws hu1 (pv 0)))) r_int) r_anil)) r_int) (pgN (pg_name nd (i := 3) (by rfl) (by first | exact .inl rfl | exact .inr rfl)))) (p_cons (p_asg (r_op o_mod (r_callT c_int (by rfl) T.b_int bt_int (r_acons (r_op o_add (r_op o_mul (r_var 3 (ta := tVar 3) (pv 3)) r_int) r_int) r_anil)) r_int) (pgN (pg_name nd (i := 3) (by rfl) (by first | exact .inl rfl | exact .inr rfl)))) (p_one (p_ret (r_op o_mod (r_callT c_int (by rfl) T.b_int bt_int (r_acons (r_op o_fdiv (r_var 3 (ta := tVar 3) (pv 3)) r_int) r_anil)) (r_var 1 (ta := tVar 1) (pv 1))))))))))
theorem ok__law_by (T : Txt K mg) : FnG P w K mg base 1 T.a__law_by T.d__law_by ["m", "x"] (spF K 2 F__law_by) := by
  have nd := sc__law_by.nd
  have h := fun b => @def_rule P w K mg base _ _ _ _ _ _ _ 0 B__law_by T.f__law_by sc__law_by b
  have e : spF K ((["m", "x"] : List Str).length) (runF ((["m", "x"] : List Str).length) B__law_by) = spF K 2 F__law_by := rfl
  rw [e] at h
  refine h (fun cdv A outer z H0 E dk l I0 hG hr => ?_)
  have un := hr.un
  have hu0 : (A.deeper (envOfC "_law_by" (defScope s__law_by) z.heap.objs.size T.a__law_by cdv)).units < cLine := by omega
  have hu1 : (A.deeper (envOfC "_law_by" (defScope s__law_by) z.heap.objs.size T.a__law_by cdv)).units + 1 < cLine := by omega
  have hu8 : (A.deeper (envOfC "_law_by" (defScope s__law_by) z.heap.objs.size T.a__law_by cdv)).units + 8 < cLine := by omega
  have hu64 : (A.deeper (envOfC "_law_by" (defScope s__law_by) z.heap.objs.size T.a__law_by cdv)).units + 64 < cLine := by omega
  have hu128 : (A.deeper (envOfC "_law_by" (defScope s__law_by) z.heap.objs.size T.a__law_by cdv)).units + 128 < cLine := by omega
  exact (p_one (p_ret (r_if (r_tcmp (o_eq hu64) (r_var 0 (ta := tVar 0) (pv 0)) r_int (nomark _)) (r_var 1 (ta := tVar 1) (pv 1)) (r_op o_mod (r_callT c_int (by rfl) T.b_int bt_int (r_acons (r_var 1 (ta := tVar 1) (pv 1)) r_anil)) (r_var 0 (ta := tVar 0) (pv 0))))))
theorem ok__law_worlds (T : Txt K mg) : FnG P w K mg base 1 T.a__law_worlds T.d__law_worlds ["shape"] (spF K 1 F__law_worlds) := by
  have nd := sc__law_worlds.nd
  have h := fun b => @def_rule P w K mg base _ _ _ _ _ _ _ 0 B__law_worlds T.f__law_worlds sc__law_worlds b
  have e : spF K ((["shape"] : List Str).length) (runF ((["shape", "found", "many", "longer", "world", "letter"] : List Str).length) B__law_worlds) = spF K 1 F__law_worlds := rfl
  rw [e] at h
  refine h (fun cdv A outer z H0 E dk l I0 hG hr => ?_)
  have un := hr.un
  have hu0 : (A.deeper (envOfC "_law_worlds" (defScope s__law_worlds) z.heap.objs.size T.a__law_worlds cdv)).units < cLine := by omega
  have hu1 : (A.deeper (envOfC "_law_worlds" (defScope s__law_worlds) z.heap.objs.size T.a__law_worlds cdv)).units + 1 < cLine := by omega
  have hu8 : (A.deeper (envOfC "_law_worlds" (defScope s__law_worlds) z.heap.objs.size T.a__law_worlds cdv)).units + 8 < cLine := by omega
  have hu64 : (A.deeper (envOfC "_law_worlds" (defScope s__law_worlds) z.heap.objs.size T.a__law_worlds cdv)).units + 64 < cLine := by omega
  have hu128 : (A.deeper (envOfC "_law_worlds" (defScope s__law_worlds) z.heap.objs.size T.a__law_worlds cdv)).units + 128 < cLine := by omega
  exact (p_cons (p_asg (r_frz (r_lst (r_acons (r_tup r_anil) r_anil))) (pgN (pg_name nd (i := 1) (by rfl) (by first | exact .inl rfl | exact .inr rfl)))) (p_cons (p_for (passes_of rfl) rfl (r_items (r_var 0 (ta := tVar 0) (pv 0))) (pgN (pg_name nd (i := 2) (by rfl) (by first | exact .inl rfl | exact .inr rfl))) (p_cons (p_asgO (r_lst r_anil) (pg_name nd (i := 3) (by rfl) (by first | exact .inl rfl | exact .inr rfl))) (p_cons (p_for (passes_of rfl) rfl (r_items (r_var 1 (ta := tVar 1) (pv 1))) (pgN (pg_name nd (i := 4) (by rfl) (by first | exact .inl rfl | exact .inr rfl))) (p_one (p_extend (pv 3) (r_lc (own := [("letter", 5)]) rfl nd (r_B (r_range1 (by rfl) T.b_range (r_acons (r_var 2 (ta := tVar 2) (pv 2)) r_anil))) (blkOk_by (N := ["shape", "found", "many", "longer", "world", "letter"]) (sc := defScope s__law_worlds) (by decide +kernel)) (fun _ _ _ _ _ => (pgN (pg_name nd (i := 5) (by rfl) (by first | exact .inl rfl | exact .inr rfl)))) (fun _ _ _ _ _ => r_pts_nil) (fun _ _ _ _ _ => (r_op o_add (r_var 4 (ta := tVar 4) (pv 4)) (r_tup (r_acons (r_var 5 (ta := tVar 5) (pv 5)) r_anil)))) (by decide))))) (p_one (p_frz [3] (p_asg (r_var 3 (ta := tVar 3) (pv 3)) (pgN (pg_name nd (i := 1) (by rfl) (by first | exact .inl rfl | exact .inr rfl))))))))) (p_one (p_ret (r_callT c_tuple (by rfl) T.b_tuple bt_tuple (r_acons (r_var 1 (ta := tVar 1) (pv 1)) r_anil))))))
theorem ok__law_word_of (T : Txt K mg) : FnG P w K mg base 1 T.a__law_word_of T.d__law_word_of ["lot", "world"] (spF K 2 F__law_word_of) := by
  have nd := sc__law_word_of.nd
  have h := fun b => @def_rule P w K mg base _ _ _ _ _ _ _ 0 B__law_word_of T.f__law_word_of sc__law_word_of b
  have e : spF K ((["lot", "world"] : List Str).length) (runF ((["lot", "world", "place"] : List Str).length) B__law_word_of) = spF K 2 F__law_word_of := rfl
  rw [e] at h
  refine h (fun cdv A outer z H0 E dk l I0 hG hr => ?_)
  have un := hr.un
  have hu0 : (A.deeper (envOfC "_law_word_of" (defScope s__law_word_of) z.heap.objs.size T.a__law_word_of cdv)).units < cLine := by omega
  have hu1 : (A.deeper (envOfC "_law_word_of" (defScope s__law_word_of) z.heap.objs.size T.a__law_word_of cdv)).units + 1 < cLine := by omega
  have hu8 : (A.deeper (envOfC "_law_word_of" (defScope s__law_word_of) z.heap.objs.size T.a__law_word_of cdv)).units + 8 < cLine := by omega
  have hu64 : (A.deeper (envOfC "_law_word_of" (defScope s__law_word_of) z.heap.objs.size T.a__law_word_of cdv)).units + 64 < cLine := by omega
  have hu128 : (A.deeper (envOfC "_law_word_of" (defScope s__law_word_of) z.heap.objs.size T.a__law_word_of cdv)).units + 128 < cLine := by omega
  exact (p_one (p_ret (r_callT c_tuple (by rfl) T.b_tuple bt_tuple (r_acons (r_frz (r_lc (own := [("place", 2)]) rfl nd (r_B (r_items (r_var 0 (ta := tVar 0) (pv 0)))) (blkOk_by (N := ["lot", "world", "place"]) (sc := defScope s__law_word_of) (by decide +kernel)) (fun _ _ _ _ _ => (pgN (pg_name nd (i := 2) (by rfl) (by first | exact .inl rfl | exact .inr rfl)))) (fun _ _ _ _ _ => r_pts_nil) (fun _ _ _ _ _ => (r_ix hu1 (r_var 1 (ta := tVar 1) (pv 1)) (r_var 2 (ta := tVar 2) (pv 2)) (fun _ _ => rfl))) (by decide))) r_anil))))
theorem ok__law_lots (T : Txt K mg) : FnG P w K mg base 1 T.a__law_lots T.d__law_lots ["many"] (spF K 1 F__law_lots) := by
  have nd := sc__law_lots.nd
  have h := fun b => @def_rule P w K mg base _ _ _ _ _ _ _ 0 B__law_lots T.f__law_lots sc__law_lots b
  have e : spF K ((["many"] : List Str).length) (runF ((["many", "found", "place", "lot"] : List Str).length) B__law_lots) = spF K 1 F__law_lots := rfl
  rw [e] at h
  refine h (fun cdv A outer z H0 E dk l I0 hG hr => ?_)
  have un := hr.un
  have hu0 : (A.deeper (envOfC "_law_lots" (defScope s__law_lots) z.heap.objs.size T.a__law_lots cdv)).units < cLine := by omega
  have hu1 : (A.deeper (envOfC "_law_lots" (defScope s__law_lots) z.heap.objs.size T.a__law_lots cdv)).units + 1 < cLine := by omega
  have hu8 : (A.deeper (envOfC "_law_lots" (defScope s__law_lots) z.heap.objs.size T.a__law_lots cdv)).units + 8 < cLine := by omega
  have hu64 : (A.deeper (envOfC "_law_lots" (defScope s__law_lots) z.heap.objs.size T.a__law_lots cdv)).units + 64 < cLine := by omega
  have hu128 : (A.deeper (envOfC "_law_lots" (defScope s__law_lots) z.heap.objs.size T.a__law_lots cdv)).units + 128 < cLine := by omega
  exact (p_cons (p_asgO (r_lst (r_acons (r_tup r_anil) r_anil)) (pg_name nd (i := 1) (by rfl) (by first | exact .inl rfl | exact .inr rfl))) (p_cons (p_for (passes_of rfl) rfl (r_range1 (by rfl) T.b_range (r_acons (r_var 0 (ta := tVar 0) (pv 0)) r_anil)) (pgN (pg_name nd (i := 2) (by rfl) (by first | exact .inl rfl | exact .inr rfl))) (p_one (p_extend (pv 1) (r_lc (own := [("lot", 3)]) rfl nd (r_ownItems 1 (pv 1)) (blkOk_by (N := ["many", "found", "place", "lot"]) (sc := defScope s__law_lots) (by decide +kernel)) (fun _ _ _ _ _ => (pgN (pg_name nd (i := 3) (by rfl) (by first | exact .inl rfl | exact .inr rfl)))) (fun _ _ _ _ _ => r_pts_nil) (fun _ _ _ _ _ => (r_op o_add (r_var 3 (ta := tVar 3) (pv 3)) (r_tup (r_acons (r_var 2 (ta := tVar 2) (pv 2)) r_anil)))) (by decide))))) (p_one (p_frz [1] (p_ret (r_frz (r_callBO (c_sorted hu8) (by rfl) T.b_sorted bt_sorted (r_acons (r_var 1 (ta := tVar 1) (pv 1)) r_anil))))))))
theorem ok_is_below (T : Txt K mg) : FnG P w K mg base 2 T.a_is_below T.d_is_below ["thing", "bound"] (spF K 2 F_is_below) := by
  have G_is_plain_integer := ok_is_plain_integer (P := P) (w := w) (base := base) T
  have nd := sc_is_below.nd
  have h := fun b => @def_rule P w K mg base _ _ _ _ _ _ _ 1 B_is_below T.f_is_below sc_is_below b
  have e : spF K ((["thing", "bound"] : List Str).length) (runF ((["thing", "bound"] : List Str).length) B_is_below) = spF K 2 F_is_below := rfl
  rw [e] at h
  refine h (fun cdv A outer z H0 E dk l I0 hG hr => ?_)
  have un := hr.un
  have hu0 : (A.deeper (envOfC "is_below" (defScope s_is_below) z.heap.objs.size T.a_is_below cdv)).units < cLine := by omega
  have hu1 : (A.deeper (envOfC "is_below" (defScope s_is_below) z.heap.objs.size T.a_is_below cdv)).units + 1 < cLine := by omega
  have hu8 : (A.deeper (envOfC "is_below" (defScope s_is_below) z.heap.objs.size T.a_is_below cdv)).units + 8 < cLine := by omega
  have hu64 : (A.deeper (envOfC "is_below" (defScope s_is_below) z.heap.objs.size T.a_is_below cdv)).units + 64 < cLine := by omega
  have hu128 : (A.deeper (envOfC "is_below" (defScope s_is_below) z.heap.objs.size T.a_is_below cdv)).units + 128 < cLine := by omega
  exact (p_one (p_ret (r_andV (r_call G_is_plain_integer hG (hr.mono (by decide)) (by rfl) T.m_is_plain_integer T.f_is_plain_integer.kp T.k_is_plain_integer (fun σ => passAt (takes_of rfl rfl rfl rfl) σ) (r_acons (r_var 0 (ta := tVar 0) (pv 0)) r_anil) rfl) (r_one (r_chain o_le (o_lt hu0) r_int (r_var 0 (ta := tVar 0) (pv 0)) (r_var 1 (ta := tVar 1) (pv 1)))))))
theorem ok_is_shape (T : Txt K mg) : FnG P w K mg base 2 T.a_is_shape T.d_is_shape ["thing"] (spF K 1 F_is_shape) := by
  have G_is_plain_integer := ok_is_plain_integer (P := P) (w := w) (base := base) T
  have nd := sc_is_shape.nd
  have h := fun b => @def_rule P w K mg base _ _ _ _ _ _ _ 1 B_is_shape T.f_is_shape sc_is_shape b
  have e : spF K ((["thing"] : List Str).length) (runF ((["thing", "many"] : List Str).length) B_is_shape) = spF K 1 F_is_shape := rfl
  rw [e] at h
  refine h (fun cdv A outer z H0 E dk l I0 hG hr => ?_)
  have un := hr.un
  have hu0 : (A.deeper (envOfC "is_shape" (defScope s_is_shape) z.heap.objs.size T.a_is_shape cdv)).units < cLine := by omega
  have hu1 : (A.deeper (envOfC "is_shape" (defScope s_is_shape) z.heap.objs.size T.a_is_shape cdv)).units + 1 < cLine := by omega
  have hu8 : (A.deeper (envOfC "is_shape" (defScope s_is_shape) z.heap.objs.size T.a_is_shape cdv)).units + 8 < cLine := by omega
  have hu64 : (A.deeper (envOfC "is_shape" (defScope s_is_shape) z.heap.objs.size T.a_is_shape cdv)).units + 64 < cLine := by omega
  have hu128 : (A.deeper (envOfC "is_shape" (defScope s_is_shape) z.heap.objs.size T.a_is_shape cdv)).units + 128 < cLine := by omega
  exact (p_cons (p_if ((r_or (r_not (r_tval (r_isi .tuple (by rfl) T.b_isinstance (by rfl) T.b_tuple bt_tuple (r_var 0 (ta := tVar 0) (pv 0)) bt_isinstance))) (r_or1 (r_not (r_tchain o_le o_le r_int (r_callB c_len (by rfl) T.b_len PySem.boot_len (r_acons (r_var 0 (ta := tVar 0) (pv 0)) r_anil)) (r_globI (by rfl) T.c_MOST_PLACES.choose_spec)))))).pt (p_one (p_ret r_bl)) p_nil) (p_one (p_ret (r_callB (c_all rfl) (by rfl) T.b_all bt_all (r_acons (r_frz (r_lc (own := [("many", 1)]) rfl nd (r_B (r_items (r_var 0 (ta := tVar 0) (pv 0)))) (blkOk_by (N := ["thing", "many"]) (sc := defScope s_is_shape) (by decide +kernel)) (fun _ _ _ _ _ => (pgN (pg_name nd (i := 1) (by rfl) (by first | exact .inl rfl | exact .inr rfl)))) (fun _ _ _ _ _ => r_pts_nil) (fun _ _ _ _ _ => (r_andV (r_call G_is_plain_integer hG (hr.mono (by decide)) (by rfl) T.m_is_plain_integer T.f_is_plain_integer.kp T.k_is_plain_integer pass0' (r_acons (r_var 1 (ta := tVar 1) (pv 1)) r_anil) rfl) (r_one (r_chain o_le o_le r_int (r_var 1 (ta := tVar 1) (pv 1)) (r_globI (by rfl) T.c_MOST_LETTERS.choose_spec))))) (by decide))) r_anil)))))
theorem ok_is_modulus (T : Txt K mg) : FnG P w K mg base 2 T.a_is_modulus T.d_is_modulus ["thing"] (spF K 1 F_is_modulus) := by
  have G_is_plain_integer := ok_is_plain_integer (P := P) (w := w) (base := base) T
  have nd := sc_is_modulus.nd
  have h := fun b => @def_rule P w K mg base _ _ _ _ _ _ _ 1 B_is_modulus T.f_is_modulus sc_is_modulus b
  have e : spF K ((["thing"] : List Str).length) (runF ((["thing"] : List Str).length) B_is_modulus) = spF K 1 F_is_modulus := rfl
  rw [e] at h
  refine h (fun cdv A outer z H0 E dk l I0 hG hr => ?_)
  have un := hr.un
  have hu0 : (A.deeper (envOfC "is_modulus" (defScope s_is_modulus) z.heap.objs.size T.a_is_modulus cdv)).units < cLine := by omega
  have hu1 : (A.deeper (envOfC "is_modulus" (defScope s_is_modulus) z.heap.objs.size T.a_is_modulus cdv)).units + 1 < cLine := by omega
  have hu8 : (A.deeper (envOfC "is_modulus" (defScope s_is_modulus) z.heap.objs.size T.a_is_modulus cdv)).units + 8 < cLine := by omega
  have hu64 : (A.deeper (envOfC "is_modulus" (defScope s_is_modulus) z.heap.objs.size T.a_is_modulus cdv)).units + 64 < cLine := by omega
  have hu128 : (A.deeper (envOfC "is_modulus" (defScope s_is_modulus) z.heap.objs.size T.a_is_modulus cdv)).units + 128 < cLine := by omega
  exact (p_one (p_ret (r_andV (r_call G_is_plain_integer hG (hr.mono (by decide)) (by rfl) T.m_is_plain_integer T.f_is_plain_integer.kp T.k_is_plain_integer (fun σ => passAt (takes_of rfl rfl rfl rfl) σ) (r_acons (r_var 0 (ta := tVar 0) (pv 0)) r_anil) rfl) (r_one (r_orV (r_cmp (o_eq hu64) (r_var 0 (ta := tVar 0) (pv 0)) r_int (nomark _)) (r_one (r_cmp o_ge (r_var 0 (ta := tVar 0) (pv 0)) r_int (nomark _))))))))
theorem ok_met_sum (T : Txt K mg) : FnG P w K mg base 2 T.a_met_sum T.d_met_sum ["shape", "m", "lots", "lists", "world"] (spF K 5 F_met_sum) := by
  have G_met_entry := ok_met_entry (P := P) (w := w) (base := base) T
  have G_reduced := ok_reduced (P := P) (w := w) (base := base) T
  have nd := sc_met_sum.nd
  have h := fun b => @def_rule P w K mg base _ _ _ _ _ _ _ 1 B_met_sum T.f_met_sum sc_met_sum b
  have e : spF K ((["shape", "m", "lots", "lists", "world"] : List Str).length) (runF ((["shape", "m", "lots", "lists", "world", "lot", "entries"] : List Str).length) B_met_sum) = spF K 5 F_met_sum := rfl
  rw [e] at h
  refine h (fun cdv A outer z H0 E dk l I0 hG hr => ?_)
  have un := hr.un
  have hu0 : (A.deeper (envOfC "met_sum" (defScope s_met_sum) z.heap.objs.size T.a_met_sum cdv)).units < cLine := by omega
  have hu1 : (A.deeper (envOfC "met_sum" (defScope s_met_sum) z.heap.objs.size T.a_met_sum cdv)).units + 1 < cLine := by omega
  have hu8 : (A.deeper (envOfC "met_sum" (defScope s_met_sum) z.heap.objs.size T.a_met_sum cdv)).units + 8 < cLine := by omega
  have hu64 : (A.deeper (envOfC "met_sum" (defScope s_met_sum) z.heap.objs.size T.a_met_sum cdv)).units + 64 < cLine := by omega
  have hu128 : (A.deeper (envOfC "met_sum" (defScope s_met_sum) z.heap.objs.size T.a_met_sum cdv)).units + 128 < cLine := by omega
  exact (p_one (p_ret (r_call G_reduced hG (hr.mono (by decide)) (by rfl) T.m_reduced T.f_reduced.kp T.k_reduced (fun σ => passAt (takes_of rfl rfl rfl rfl) σ) (r_acons (r_var 1 (ta := tVar 1) (pv 1)) (r_acons (r_callB (c_sum rfl) (by rfl) T.b_sum bt_sum (r_acons (r_frz (r_lc (own := [("lot", 5), ("entries", 6)]) rfl nd (r_B (r_zip (by rfl) T.b_zip (r_acons (r_var 2 (ta := tVar 2) (pv 2)) (r_acons (r_var 3 (ta := tVar 3) (pv 3)) r_anil)))) (blkOk_by (N := ["shape", "m", "lots", "lists", "world", "lot", "entries"]) (sc := defScope s_met_sum) (by decide +kernel)) (fun _ _ _ _ _ => (pgT rfl (pgsC (pgN (pg_name nd (i := 5) (by rfl) (by first | exact .inl rfl | exact .inr rfl))) (pgsC (pgN (pg_name nd (i := 6) (by rfl) (by first | exact .inl rfl | exact .inr rfl))) pgsN)))) (fun _ _ _ _ _ => r_pts_nil) (fun _ _ _ _ _ => (r_call G_met_entry hG (hr.mono (by decide)) (by rfl) T.m_met_entry T.f_met_entry.kp T.k_met_entry pass0' (r_acons (r_var 0 (ta := tVar 0) (pv 0)) (r_acons (r_var 5 (ta := tVar 5) (pv 5)) (r_acons (r_var 6 (ta := tVar 6) (pv 6)) (r_acons (r_var 4 (ta := tVar 4) (pv 4)) r_anil)))) rfl)) (by decide))) r_anil)) r_anil)) rfl)))
theorem ok__law_great (T : Txt K mg) : FnG P w K mg base 2 T.a__law_great T.d__law_great ["deck", "many"] (spF K 2 F__law_great) := by
  have G__law_draw := ok__law_draw (P := P) (w := w) (base := base) T
  have nd := sc__law_great.nd
  have h := fun b => @def_rule P w K mg base _ _ _ _ _ _ _ 1 B__law_great T.f__law_great sc__law_great b
  have e : spF K ((["deck", "many"] : List Str).length) (runF ((["deck", "many", "found", "left"] : List Str).length) B__law_great) = spF K 2 F__law_great := rfl
  rw [e] at h
  refine h (fun cdv A outer z H0 E dk l I0 hG hr => ?_)
  have un := hr.un
  have hu0 : (A.deeper (envOfC "_law_great" (defScope s__law_great) z.heap.objs.size T.a__law_great cdv)).units < cLine := by omega
  have hu1 : (A.deeper (envOfC "_law_great" (defScope s__law_great) z.heap.objs.size T.a__law_great cdv)).units + 1 < cLine := by omega
  have hu8 : (A.deeper (envOfC "_law_great" (defScope s__law_great) z.heap.objs.size T.a__law_great cdv)).units + 8 < cLine := by omega
  have hu64 : (A.deeper (envOfC "_law_great" (defScope s__law_great) z.heap.objs.size T.a__law_great cdv)).units + 64 < cLine := by omega
  have hu128 : (A.deeper (envOfC "_law_great" (defScope s__law_great) z.heap.objs.size T.a__law_great cdv)).units + 128 < cLine := by omega
  exact (p_cons (p_par2 rfl nd (i := 2) (j := 3) (by rfl) (by rfl) (by decide) (by rfl) (by rfl) (r_2val r_int (r_2val (r_var 1 (ta := tVar 1) (pv 1)) r_2nil)) (by rfl)) (p_cons (p_while 100 (passes_of rfl) (r_tcmp o_gt (r_var 3 (ta := tVar 3) (pv 3)) r_int (nomark _)) (p_one (p_par2 rfl nd (i := 2) (j := 3) (by rfl) (by rfl) (by decide) (by rfl) (by rfl) (r_2val (r_op o_add (r_op o_mul (r_var 2 (ta := tVar 2) (pv 2)) (r_op o_pow r_int r_int)) (r_call G__law_draw hG (hr.mono (by decide)) (by rfl) T.m__law_draw T.f__law_draw.kp T.k__law_draw (fun σ => passAt (takes_of rfl rfl rfl rfl) σ) (r_acons (r_var 0 (ta := tVar 0) (pv 0)) (r_acons (r_op o_pow r_int r_int) r_anil)) rfl)) (r_2val (r_op o_fdiv (r_var 3 (ta := tVar 3) (pv 3)) (r_op o_pow r_int r_int)) r_2nil)) (by rfl)))) (p_one (p_ret (r_op o_mod (r_callT c_int (by rfl) T.b_int bt_int (r_acons (r_var 2 (ta := tVar 2) (pv 2)) r_anil)) (r_var 1 (ta := tVar 1) (pv 1)))))))
theorem ok__law_pick (T : Txt K mg) : FnG P w K mg base 2 T.a__law_pick T.d__law_pick ["deck", "some"] (spF K 2 F__law_pick) := by
  have G__law_draw := ok__law_draw (P := P) (w := w) (base := base) T
  have nd := sc__law_pick.nd
  have h := fun b => @def_rule P w K mg base _ _ _ _ _ _ _ 1 B__law_pick T.f__law_pick sc__law_pick b
  have e : spF K ((["deck", "some"] : List Str).length) (runF ((["deck", "some"] : List Str).length) B__law_pick) = spF K 2 F__law_pick := rfl
  rw [e] at h
  refine h (fun cdv A outer z H0 E dk l I0 hG hr => ?_)
  have un := hr.un
  have hu0 : (A.deeper (envOfC "_law_pick" (defScope s__law_pick) z.heap.objs.size T.a__law_pick cdv)).units < cLine := by omega
  have hu1 : (A.deeper (envOfC "_law_pick" (defScope s__law_pick) z.heap.objs.size T.a__law_pick cdv)).units + 1 < cLine := by omega
  have hu8 : (A.deeper (envOfC "_law_pick" (defScope s__law_pick) z.heap.objs.size T.a__law_pick cdv)).units + 8 < cLine := by omega
  have hu64 : (A.deeper (envOfC "_law_pick" (defScope s__law_pick) z.heap.objs.size T.a__law_pick cdv)).units + 64 < cLine := by omega
  have hu128 : (A.deeper (envOfC "_law_pick" (defScope s__law_pick) z.heap.objs.size T.a__law_pick cdv)).units + 128 < cLine := by omega
  exact (p_one (p_ret (r_ix hu1 (r_var 1 (ta := tVar 1) (pv 1)) (r_call G__law_draw hG (hr.mono (by decide)) (by rfl) T.m__law_draw T.f__law_draw.kp T.k__law_draw (fun σ => passAt (takes_of rfl rfl rfl rfl) σ) (r_acons (r_var 0 (ta := tVar 0) (pv 0)) (r_acons (r_callB c_len (by rfl) T.b_len PySem.boot_len (r_acons (r_var 1 (ta := tVar 1) (pv 1)) r_anil)) r_anil)) rfl) (fun _ _ => rfl))))
theorem ok__law_words (T : Txt K mg) : FnG P w K mg base 2 T.a__law_words T.d__law_words ["shape", "lot"] (spF K 2 F__law_words) := by
  have G__law_worlds := ok__law_worlds (P := P) (w := w) (base := base) T
  have nd := sc__law_words.nd
  have h := fun b => @def_rule P w K mg base _ _ _ _ _ _ _ 1 B__law_words T.f__law_words sc__law_words b
  have e : spF K ((["shape", "lot"] : List Str).length) (runF ((["shape", "lot", "place"] : List Str).length) B__law_words) = spF K 2 F__law_words := rfl
  rw [e] at h
  refine h (fun cdv A outer z H0 E dk l I0 hG hr => ?_)
  have un := hr.un
  have hu0 : (A.deeper (envOfC "_law_words" (defScope s__law_words) z.heap.objs.size T.a__law_words cdv)).units < cLine := by omega
  have hu1 : (A.deeper (envOfC "_law_words" (defScope s__law_words) z.heap.objs.size T.a__law_words cdv)).units + 1 < cLine := by omega
  have hu8 : (A.deeper (envOfC "_law_words" (defScope s__law_words) z.heap.objs.size T.a__law_words cdv)).units + 8 < cLine := by omega
  have hu64 : (A.deeper (envOfC "_law_words" (defScope s__law_words) z.heap.objs.size T.a__law_words cdv)).units + 64 < cLine := by omega
  have hu128 : (A.deeper (envOfC "_law_words" (defScope s__law_words) z.heap.objs.size T.a__law_words cdv)).units + 128 < cLine := by omega
  exact (p_one (p_ret (r_call G__law_worlds hG (hr.mono (by decide)) (by rfl) T.m__law_worlds T.f__law_worlds.kp T.k__law_worlds (fun σ => passAt (takes_of rfl rfl rfl rfl) σ) (r_acons (r_frz (r_lc (own := [("place", 2)]) rfl nd (r_B (r_items (r_var 1 (ta := tVar 1) (pv 1)))) (blkOk_by (N := ["shape", "lot", "place"]) (sc := defScope s__law_words) (by decide +kernel)) (fun _ _ _ _ _ => (pgN (pg_name nd (i := 2) (by rfl) (by first | exact .inl rfl | exact .inr rfl)))) (fun _ _ _ _ _ => r_pts_nil) (fun _ _ _ _ _ => (r_ix hu1 (r_var 0 (ta := tVar 0) (pv 0)) (r_var 2 (ta := tVar 2) (pv 2)) (fun _ _ => rfl))) (by decide))) r_anil) rfl)))
theorem ok__law_times (T : Txt K mg) : FnG P w K mg base 2 T.a__law_times T.d__law_times ["m", "k", "entries"] (spF K 3 F__law_times) := by
  have G__law_by := ok__law_by (P := P) (w := w) (base := base) T
  have nd := sc__law_times.nd
  have h := fun b => @def_rule P w K mg base _ _ _ _ _ _ _ 1 B__law_times T.f__law_times sc__law_times b
  have e : spF K ((["m", "k", "entries"] : List Str).length) (runF ((["m", "k", "entries", "x"] : List Str).length) B__law_times) = spF K 3 F__law_times := rfl
  rw [e] at h
  refine h (fun cdv A outer z H0 E dk l I0 hG hr => ?_)
  have un := hr.un
  have hu0 : (A.deeper (envOfC "_law_times" (defScope s__law_times) z.heap.objs.size T.a__law_times cdv)).units < cLine := by omega
  have hu1 : (A.deeper (envOfC "_law_times" (defScope s__law_times) z.heap.objs.size T.a__law_times cdv)).units + 1 < cLine := by omega
  have hu8 : (A.deeper (envOfC "_law_times" (defScope s__law_times) z.heap.objs.size T.a__law_times cdv)).units + 8 < cLine := by omega
  have hu64 : (A.deeper (envOfC "_law_times" (defScope s__law_times) z.heap.objs.size T.a__law_times cdv)).units + 64 < cLine := by omega
  have hu128 : (A.deeper (envOfC "_law_times" (defScope s__law_times) z.heap.objs.size T.a__law_times cdv)).units + 128 < cLine := by omega
  exact (p_one (p_ret (r_callT c_tuple (by rfl) T.b_tuple bt_tuple (r_acons (r_frz (r_lc (own := [("x", 3)]) rfl nd (r_B (r_items (r_var 2 (ta := tVar 2) (pv 2)))) (blkOk_by (N := ["m", "k", "entries", "x"]) (sc := defScope s__law_times) (by decide +kernel)) (fun _ _ _ _ _ => (pgN (pg_name nd (i := 3) (by rfl) (by first | exact .inl rfl | exact .inr rfl)))) (fun _ _ _ _ _ => r_pts_nil) (fun _ _ _ _ _ => (r_call G__law_by hG (hr.mono (by decide)) (by rfl) T.m__law_by T.f__law_by.kp T.k__law_by pass0' (r_acons (r_var 0 (ta := tVar 0) (pv 0)) (r_acons (r_op o_mul (r_var 1 (ta := tVar 1) (pv 1)) (r_var 3 (ta := tVar 3) (pv 3))) r_anil)) rfl)) (by decide))) r_anil))))
theorem ok__law_put_together (T : Txt K mg) : FnG P w K mg base 2 T.a__law_put_together T.d__law_put_together ["m", "lots", "lists"] (spF K 3 F__law_put_together) := by
  have G__law_by := ok__law_by (P := P) (w := w) (base := base) T
  have nd := sc__law_put_together.nd
  have h := fun b => @def_rule P w K mg base _ _ _ _ _ _ _ 1 B__law_put_together T.f__law_put_together sc__law_put_together b
  have e : spF K ((["m", "lots", "lists"] : List Str).length) (runF ((["m", "lots", "lists", "by", "lot", "entries", "some", "x", "y"] : List Str).length) B__law_put_together) = spF K 3 F__law_put_together := rfl
  rw [e] at h
  refine h (fun cdv A outer z H0 E dk l I0 hG hr => ?_)
  have un := hr.un
  have hu0 : (A.deeper (envOfC "_law_put_together" (defScope s__law_put_together) z.heap.objs.size T.a__law_put_together cdv)).units < cLine := by omega
  have hu1 : (A.deeper (envOfC "_law_put_together" (defScope s__law_put_together) z.heap.objs.size T.a__law_put_together cdv)).units + 1 < cLine := by omega
  have hu8 : (A.deeper (envOfC "_law_put_together" (defScope s__law_put_together) z.heap.objs.size T.a__law_put_together cdv)).units + 8 < cLine := by omega
  have hu64 : (A.deeper (envOfC "_law_put_together" (defScope s__law_put_together) z.heap.objs.size T.a__law_put_together cdv)).units + 64 < cLine := by omega
  have hu128 : (A.deeper (envOfC "_law_put_together" (defScope s__law_put_together) z.heap.objs.size T.a__law_put_together cdv)).units + 128 < cLine := by omega
  exact (p_cons (p_asgO r_dnewT (pg_name nd (i := 3) (by rfl) (by first | exact .inl rfl | exact .inr rfl))) (p_cons (p_for (passes_of rfl) rfl (r_zip (by rfl) T.b_zip (r_acons (r_var 1 (ta := tVar 1) (pv 1)) (r_acons (r_var 2 (ta := tVar 2) (pv 2)) r_anil))) (pgT rfl (pgsC (pgN (pg_name nd (i := 4) (by rfl) (by first | exact .inl rfl | exact .inr rfl))) (pgsC (pgN (pg_name nd (i := 5) (by rfl) (by first | exact .inl rfl | exact .inr rfl))) pgsN))) (p_one (p_dput hu1 (pv 3) (r_var 4 (ta := tVar 4) (pv 4)) (r_callT c_tuple (by rfl) T.b_tuple bt_tuple (r_acons (r_frz (r_lc (own := [("x", 7), ("y", 8)]) rfl nd (r_B (r_zip (by rfl) T.b_zip (r_acons (r_ownGet hu1 (pv 3) (r_var 4 (ta := tVar 4) (pv 4)) (r_op o_mulT (r_tup (r_acons r_int r_anil)) (r_callB c_len (by rfl) T.b_len PySem.boot_len (r_acons (r_var 5 (ta := tVar 5) (pv 5)) r_anil))) ⟨by rfl, by rfl, by rfl, by rfl⟩) (r_acons (r_var 5 (ta := tVar 5) (pv 5)) r_anil)))) (blkOk_by (N := ["m", "lots", "lists", "by", "lot", "entries", "some", "x", "y"]) (sc := defScope s__law_put_together) (by decide +kernel)) (fun _ _ _ _ _ => (pgT rfl (pgsC (pgN (pg_name nd (i := 7) (by rfl) (by first | exact .inl rfl | exact .inr rfl))) (pgsC (pgN (pg_name nd (i := 8) (by rfl) (by first | exact .inl rfl | exact .inr rfl))) pgsN)))) (fun _ _ _ _ _ => r_pts_nil) (fun _ _ _ _ _ => (r_call G__law_by hG (hr.mono (by decide)) (by rfl) T.m__law_by T.f__law_by.kp T.k__law_by pass0' (r_acons (r_var 0 (ta := tVar 0) (pv 0)) (r_acons (r_op o_add (r_var 7 (ta := tVar 7) (pv 7)) (r_var 8 (ta := tVar 8) (pv 8))) r_anil)) rfl)) (by decide))) r_anil))))) (p_cons (p_frz [3] (p_asg (r_frz (r_callBO (c_sortedDT rfl hu8) (by rfl) T.b_sorted bt_sorted (r_acons (r_var 3 (ta := tVar 3) (pv 3)) r_anil))) (pgN (pg_name nd (i := 6) (by rfl) (by first | exact .inl rfl | exact .inr rfl))))) (p_one (p_ret (r_tup (r_acons (r_callT c_tuple (by rfl) T.b_tuple bt_tuple (r_acons (r_var 6 (ta := tVar 6) (pv 6)) r_anil)) (r_acons (r_callT c_tuple (by rfl) T.b_tuple bt_tuple (r_acons (r_frz (r_lc (own := [("lot", 4)]) rfl nd (r_B (r_items (r_var 6 (ta := tVar 6) (pv 6)))) (blkOk_by (N := ["m", "lots", "lists", "by", "lot", "entries", "some", "x", "y"]) (sc := defScope s__law_put_together) (by decide +kernel)) (fun _ _ _ _ _ => (pgN (pg_name nd (i := 4) (by rfl) (by first | exact .inl rfl | exact .inr rfl)))) (fun _ _ _ _ _ => r_pts_nil) (fun _ _ _ _ _ => (r_ix hu1 (r_var 3 (ta := tVar 3) (pv 3)) (r_var 4 (ta := tVar 4) (pv 4)) (fun _ _ => rfl))) (by decide))) r_anil)) r_anil))))))))
theorem ok_need_shape (T : Txt K mg) : FnG P w K mg base 3 T.a_need_shape T.d_need_shape ["shape"] (spF K 1 F_need_shape) := by
  have G_is_shape := ok_is_shape (P := P) (w := w) (base := base) T
  have nd := sc_need_shape.nd
  have h := fun b => @def_rule P w K mg base _ _ _ _ _ _ _ 2 B_need_shape T.f_need_shape sc_need_shape b
  have e : spF K ((["shape"] : List Str).length) (runF ((["shape"] : List Str).length) B_need_shape) = spF K 1 F_need_shape := rfl
  rw [e] at h
  refine h (fun cdv A outer z H0 E dk l I0 hG hr => ?_)
  have un := hr.un
  have hu0 : (A.deeper (envOfC "need_shape" (defScope s_need_shape) z.heap.objs.size T.a_need_shape cdv)).units < cLine := by omega
  have hu1 : (A.deeper (envOfC "need_shape" (defScope s_need_shape) z.heap.objs.size T.a_need_shape cdv)).units + 1 < cLine := by omega
  have hu8 : (A.deeper (envOfC "need_shape" (defScope s_need_shape) z.heap.objs.size T.a_need_shape cdv)).units + 8 < cLine := by omega
  have hu64 : (A.deeper (envOfC "need_shape" (defScope s_need_shape) z.heap.objs.size T.a_need_shape cdv)).units + 64 < cLine := by omega
  have hu128 : (A.deeper (envOfC "need_shape" (defScope s_need_shape) z.heap.objs.size T.a_need_shape cdv)).units + 128 < cLine := by omega
  exact (p_one (p_if (r_not (r_tval (r_call G_is_shape hG (hr.mono (by decide)) (by rfl) T.m_is_shape T.f_is_shape.kp T.k_is_shape (fun σ => passAt (takes_of rfl rfl rfl rfl) σ) (r_acons (r_var 0 (ta := tVar 0) (pv 0)) r_anil) rfl))) (p_one p_bad) p_nil))
theorem ok_need_modulus (T : Txt K mg) : FnG P w K mg base 3 T.a_need_modulus T.d_need_modulus ["m"] (spF K 1 F_need_modulus) := by
  have G_is_modulus := ok_is_modulus (P := P) (w := w) (base := base) T
  have nd := sc_need_modulus.nd
  have h := fun b => @def_rule P w K mg base _ _ _ _ _ _ _ 2 B_need_modulus T.f_need_modulus sc_need_modulus b
  have e : spF K ((["m"] : List Str).length) (runF ((["m"] : List Str).length) B_need_modulus) = spF K 1 F_need_modulus := rfl
  rw [e] at h
  refine h (fun cdv A outer z H0 E dk l I0 hG hr => ?_)
  have un := hr.un
  have hu0 : (A.deeper (envOfC "need_modulus" (defScope s_need_modulus) z.heap.objs.size T.a_need_modulus cdv)).units < cLine := by omega
  have hu1 : (A.deeper (envOfC "need_modulus" (defScope s_need_modulus) z.heap.objs.size T.a_need_modulus cdv)).units + 1 < cLine := by omega
  have hu8 : (A.deeper (envOfC "need_modulus" (defScope s_need_modulus) z.heap.objs.size T.a_need_modulus cdv)).units + 8 < cLine := by omega
  have hu64 : (A.deeper (envOfC "need_modulus" (defScope s_need_modulus) z.heap.objs.size T.a_need_modulus cdv)).units + 64 < cLine := by omega
  have hu128 : (A.deeper (envOfC "need_modulus" (defScope s_need_modulus) z.heap.objs.size T.a_need_modulus cdv)).units + 128 < cLine := by omega
  exact (p_one (p_if (r_not (r_tval (r_call G_is_modulus hG (hr.mono (by decide)) (by rfl) T.m_is_modulus T.f_is_modulus.kp T.k_is_modulus (fun σ => passAt (takes_of rfl rfl rfl rfl) σ) (r_acons (r_var 0 (ta := tVar 0) (pv 0)) r_anil) rfl))) (p_one p_bad) p_nil))
theorem ok_is_number (T : Txt K mg) : FnG P w K mg base 3 T.a_is_number T.d_is_number ["m", "thing"] (spF K 2 F_is_number) := by
  have G_is_below := ok_is_below (P := P) (w := w) (base := base) T
  have G_is_plain_integer := ok_is_plain_integer (P := P) (w := w) (base := base) T
  have nd := sc_is_number.nd
  have h := fun b => @def_rule P w K mg base _ _ _ _ _ _ _ 2 B_is_number T.f_is_number sc_is_number b
  have e : spF K ((["m", "thing"] : List Str).length) (runF ((["m", "thing"] : List Str).length) B_is_number) = spF K 2 F_is_number := rfl
  rw [e] at h
  refine h (fun cdv A outer z H0 E dk l I0 hG hr => ?_)
  have un := hr.un
  have hu0 : (A.deeper (envOfC "is_number" (defScope s_is_number) z.heap.objs.size T.a_is_number cdv)).units < cLine := by omega
  have hu1 : (A.deeper (envOfC "is_number" (defScope s_is_number) z.heap.objs.size T.a_is_number cdv)).units + 1 < cLine := by omega
  have hu8 : (A.deeper (envOfC "is_number" (defScope s_is_number) z.heap.objs.size T.a_is_number cdv)).units + 8 < cLine := by omega
  have hu64 : (A.deeper (envOfC "is_number" (defScope s_is_number) z.heap.objs.size T.a_is_number cdv)).units + 64 < cLine := by omega
  have hu128 : (A.deeper (envOfC "is_number" (defScope s_is_number) z.heap.objs.size T.a_is_number cdv)).units + 128 < cLine := by omega
  exact (p_cons (p_if (r_tcmp (o_eq hu64) (r_var 0 (ta := tVar 0) (pv 0)) r_int (nomark _)) (p_one (p_ret (r_call G_is_plain_integer hG (hr.mono (by decide)) (by rfl) T.m_is_plain_integer T.f_is_plain_integer.kp T.k_is_plain_integer (fun σ => passAt (takes_of rfl rfl rfl rfl) σ) (r_acons (r_var 1 (ta := tVar 1) (pv 1)) r_anil) rfl))) p_nil) (p_one (p_ret (r_call G_is_below hG (hr.mono (by decide)) (by rfl) T.m_is_below T.f_is_below.kp T.k_is_below (fun σ => passAt (takes_of rfl rfl rfl rfl) σ) (r_acons (r_var 1 (ta := tVar 1) (pv 1)) (r_acons (r_var 0 (ta := tVar 0) (pv 0)) r_anil)) rfl))))
theorem ok__law_spread (T : Txt K mg) : FnG P w K mg base 3 T.a__law_spread T.d__law_spread ["shape", "lot", "entries"] (spF K 3 F__law_spread) := by
  have G__law_word_of := ok__law_word_of (P := P) (w := w) (base := base) T
  have G__law_words := ok__law_words (P := P) (w := w) (base := base) T
  have G__law_worlds := ok__law_worlds (P := P) (w := w) (base := base) T
  have nd := sc__law_spread.nd
  have h := fun b => @def_rule P w K mg base _ _ _ _ _ _ _ 2 B__law_spread T.f__law_spread sc__law_spread b
  have e : spF K ((["shape", "lot", "entries"] : List Str).length) (runF ((["shape", "lot", "entries", "by", "world"] : List Str).length) B__law_spread) = spF K 3 F__law_spread := rfl
  rw [e] at h
  refine h (fun cdv A outer z H0 E dk l I0 hG hr => ?_)
  have un := hr.un
  have hu0 : (A.deeper (envOfC "_law_spread" (defScope s__law_spread) z.heap.objs.size T.a__law_spread cdv)).units < cLine := by omega
  have hu1 : (A.deeper (envOfC "_law_spread" (defScope s__law_spread) z.heap.objs.size T.a__law_spread cdv)).units + 1 < cLine := by omega
  have hu8 : (A.deeper (envOfC "_law_spread" (defScope s__law_spread) z.heap.objs.size T.a__law_spread cdv)).units + 8 < cLine := by omega
  have hu64 : (A.deeper (envOfC "_law_spread" (defScope s__law_spread) z.heap.objs.size T.a__law_spread cdv)).units + 64 < cLine := by omega
  have hu128 : (A.deeper (envOfC "_law_spread" (defScope s__law_spread) z.heap.objs.size T.a__law_spread cdv)).units + 128 < cLine := by omega
  exact (p_cons (p_asg (r_frz (r_callTO (c_dict rfl hu8) (by rfl) T.b_dict bt_dict (r_acons (r_frz (r_listZip rfl (by rfl) T.b_list (by rfl) T.b_zip (r_acons (r_call G__law_words hG (hr.mono (by decide)) (by rfl) T.m__law_words T.f__law_words.kp T.k__law_words (fun σ => passAt (takes_of rfl rfl rfl rfl) σ) (r_acons (r_var 0 (ta := tVar 0) (pv 0)) (r_acons (r_var 1 (ta := tVar 1) (pv 1)) r_anil)) rfl) (r_acons (r_var 2 (ta := tVar 2) (pv 2)) r_anil)))) r_anil))) (pgN (pg_name nd (i := 3) (by rfl) (by first | exact .inl rfl | exact .inr rfl)))) (p_one (p_ret (r_callT c_tuple (by rfl) T.b_tuple bt_tuple (r_acons (r_frz (r_lc (own := [("world", 4)]) rfl nd (r_B (r_items (r_call G__law_worlds hG (hr.mono (by decide)) (by rfl) T.m__law_worlds T.f__law_worlds.kp T.k__law_worlds (fun σ => passAt (takes_of rfl rfl rfl rfl) σ) (r_acons (r_var 0 (ta := tVar 0) (pv 0)) r_anil) rfl))) (blkOk_by (N := ["shape", "lot", "entries", "by", "world"]) (sc := defScope s__law_spread) (by decide +kernel)) (fun _ _ _ _ _ => (pgN (pg_name nd (i := 4) (by rfl) (by first | exact .inl rfl | exact .inr rfl)))) (fun _ _ _ _ _ => r_pts_nil) (fun _ _ _ _ _ => (r_ix hu1 (r_var 3 (ta := tVar 3) (pv 3)) (r_call G__law_word_of hG (hr.mono (by decide)) (by rfl) T.m__law_word_of T.f__law_word_of.kp T.k__law_word_of pass0' (r_acons (r_var 1 (ta := tVar 1) (pv 1)) (r_acons (r_var 4 (ta := tVar 4) (pv 4)) r_anil)) rfl) (fun _ _ => rfl))) (by decide))) r_anil)))))
theorem ok__law_shape (T : Txt K mg) : FnG P w K mg base 3 T.a__law_shape T.d__law_shape ["deck", "most"] (spF K 2 F__law_shape) := by
  have G__law_draw := ok__law_draw (P := P) (w := w) (base := base) T
  have G__law_pick := ok__law_pick (P := P) (w := w) (base := base) T
  have G__law_worlds := ok__law_worlds (P := P) (w := w) (base := base) T
  have nd := sc__law_shape.nd
  have h := fun b => @def_rule P w K mg base _ _ _ _ _ _ _ 2 B__law_shape T.f__law_shape sc__law_shape b
  have e : spF K ((["deck", "most"] : List Str).length) (runF ((["deck", "most", "found", "turn", "place"] : List Str).length) B__law_shape) = spF K 2 F__law_shape := rfl
  rw [e] at h
  refine h (fun cdv A outer z H0 E dk l I0 hG hr => ?_)
  have un := hr.un
  have hu0 : (A.deeper (envOfC "_law_shape" (defScope s__law_shape) z.heap.objs.size T.a__law_shape cdv)).units < cLine := by omega
  have hu1 : (A.deeper (envOfC "_law_shape" (defScope s__law_shape) z.heap.objs.size T.a__law_shape cdv)).units + 1 < cLine := by omega
  have hu8 : (A.deeper (envOfC "_law_shape" (defScope s__law_shape) z.heap.objs.size T.a__law_shape cdv)).units + 8 < cLine := by omega
  have hu64 : (A.deeper (envOfC "_law_shape" (defScope s__law_shape) z.heap.objs.size T.a__law_shape cdv)).units + 64 < cLine := by omega
  have hu128 : (A.deeper (envOfC "_law_shape" (defScope s__law_shape) z.heap.objs.size T.a__law_shape cdv)).units + 128 < cLine := by omega
  exact (p_cons (p_setLcO (i := 2) (own := [("place", 4)]) rfl nd (by rfl) (by rfl) (sw_true rfl (by rfl) (by rfl) (by decide +kernel)) (r_B (r_range1 (by rfl) T.b_range (r_acons (r_call G__law_pick hG (hr.mono (by decide)) (by rfl) T.m__law_pick T.f__law_pick.kp T.k__law_pick (fun σ => passAt (takes_of rfl rfl rfl rfl) σ) (r_acons (r_var 0 (ta := tVar 0) (pv 0)) (r_acons (r_frz (r_lst (r_acons r_int (r_acons r_int (r_acons r_int (r_acons r_int (r_acons r_int (r_acons r_int r_anil)))))))) r_anil)) rfl) r_anil))) (blkOk_by (N := ["deck", "most", "found", "turn", "place"]) (sc := defScope s__law_shape) (by decide +kernel)) (fun _ _ _ _ _ => (pgN (pg_name nd (i := 4) (by rfl) (by first | exact .inl rfl | exact .inr rfl)))) (fun _ _ _ _ _ => r_pts_nil) (fun _ _ _ _ _ => (r_op o_add r_int (r_call G__law_draw hG (hr.mono (by decide)) (by rfl) T.m__law_draw T.f__law_draw.kp T.k__law_draw pass0' (r_acons (r_var 0 (ta := tVar 0) (pv 0)) (r_acons r_int r_anil)) rfl))) (by decide)) (p_cons (p_for (passes_of rfl) rfl (r_range1 (by rfl) T.b_range (r_acons (r_ownLen 2 (x := "len") (by rfl) T.b_len (pv 2)) r_anil)) (pgN (pg_name nd (i := 3) (by rfl) (by first | exact .inl rfl | exact .inr rfl))) (p_one (p_if (r_tbor [2] (r_tcmp o_gt (r_callB c_len (by rfl) T.b_len PySem.boot_len (r_acons (r_call G__law_worlds hG (hr.mono (by decide)) (by rfl) T.m__law_worlds T.f__law_worlds.kp T.k__law_worlds (fun σ => passAt (takes_of rfl rfl rfl rfl) σ) (r_acons (r_var 2 (ta := tVar 2) (pv 2)) r_anil) rfl) r_anil)) (r_var 1 (ta := tVar 1) (pv 1)) (nomark _))) (p_one (p_store (pv 2) (r_var 3 (ta := tVar 3) (pv 3)) (r_if (r_tcmp (o_lt hu0) (r_var 3 (ta := tVar 3) (pv 3)) r_int (nomark _)) (r_call G__law_pick hG (hr.mono (by decide)) (by rfl) T.m__law_pick T.f__law_pick.kp T.k__law_pick (fun σ => passAt (takes_of rfl rfl rfl rfl) σ) (r_acons (r_var 0 (ta := tVar 0) (pv 0)) (r_acons (r_frz (r_lst (r_acons r_int (r_acons r_int (r_acons r_int r_anil))))) r_anil)) rfl) r_int) (pg_sub (pv 2) (r_var 3 (ta := tVar 3) (pv 3)) set_list))) p_nil))) (p_one (p_frz [2] (p_ret (r_callT c_tuple (by rfl) T.b_tuple bt_tuple (r_acons (r_var 2 (ta := tVar 2) (pv 2)) r_anil)))))))
theorem ok__law_modulus (T : Txt K mg) : FnG P w K mg base 3 T.a__law_modulus T.d__law_modulus ["deck"] (spF K 1 F__law_modulus) := by
  have G__law_pick := ok__law_pick (P := P) (w := w) (base := base) T
  have nd := sc__law_modulus.nd
  have h := fun b => @def_rule P w K mg base _ _ _ _ _ _ _ 2 B__law_modulus T.f__law_modulus sc__law_modulus b
  have e : spF K ((["deck"] : List Str).length) (runF ((["deck"] : List Str).length) B__law_modulus) = spF K 1 F__law_modulus := rfl
  rw [e] at h
  refine h (fun cdv A outer z H0 E dk l I0 hG hr => ?_)
  have un := hr.un
  have hu0 : (A.deeper (envOfC "_law_modulus" (defScope s__law_modulus) z.heap.objs.size T.a__law_modulus cdv)).units < cLine := by omega
  have hu1 : (A.deeper (envOfC "_law_modulus" (defScope s__law_modulus) z.heap.objs.size T.a__law_modulus cdv)).units + 1 < cLine := by omega
  have hu8 : (A.deeper (envOfC "_law_modulus" (defScope s__law_modulus) z.heap.objs.size T.a__law_modulus cdv)).units + 8 < cLine := by omega
  have hu64 : (A.deeper (envOfC "_law_modulus" (defScope s__law_modulus) z.heap.objs.size T.a__law_modulus cdv)).units + 64 < cLine := by omega
  have hu128 : (A.deeper (envOfC "_law_modulus" (defScope s__law_modulus) z.heap.objs.size T.a__law_modulus cdv)).units + 128 < cLine := by omega
  exact (p_one (p_ret (r_call G__law_pick hG (hr.mono (by decide)) (by rfl) T.m__law_pick T.f__law_pick.kp T.k__law_pick (fun σ => passAt (takes_of rfl rfl rfl rfl) σ) (r_acons (r_var 0 (ta := tVar 0) (pv 0)) (r_acons (r_frz (r_lst (r_acons r_int (r_acons r_int (r_acons r_int (r_acons r_int (r_acons r_int (r_acons r_int (r_acons r_int (r_acons r_int (r_acons r_int (r_acons r_int (r_acons r_int (r_acons r_int (r_acons (r_op o_pow r_int r_int) (r_acons r_int (r_acons r_int r_anil))))))))))))))))) r_anil)) rfl)))
theorem ok__law_number (T : Txt K mg) : FnG P w K mg base 3 T.a__law_number T.d__law_number ["deck", "m", "size"] (spF K 3 F__law_number) := by
  have G__law_great := ok__law_great (P := P) (w := w) (base := base) T
  have G__law_pick := ok__law_pick (P := P) (w := w) (base := base) T
  have nd := sc__law_number.nd
  have h := fun b => @def_rule P w K mg base _ _ _ _ _ _ _ 2 B__law_number T.f__law_number sc__law_number b
  have e : spF K ((["deck", "m", "size"] : List Str).length) (runF ((["deck", "m", "size"] : List Str).length) B__law_number) = spF K 3 F__law_number := rfl
  rw [e] at h
  refine h (fun cdv A outer z H0 E dk l I0 hG hr => ?_)
  have un := hr.un
  have hu0 : (A.deeper (envOfC "_law_number" (defScope s__law_number) z.heap.objs.size T.a__law_number cdv)).units < cLine := by omega
  have hu1 : (A.deeper (envOfC "_law_number" (defScope s__law_number) z.heap.objs.size T.a__law_number cdv)).units + 1 < cLine := by omega
  have hu8 : (A.deeper (envOfC "_law_number" (defScope s__law_number) z.heap.objs.size T.a__law_number cdv)).units + 8 < cLine := by omega
  have hu64 : (A.deeper (envOfC "_law_number" (defScope s__law_number) z.heap.objs.size T.a__law_number cdv)).units + 64 < cLine := by omega
  have hu128 : (A.deeper (envOfC "_law_number" (defScope s__law_number) z.heap.objs.size T.a__law_number cdv)).units + 128 < cLine := by omega
  exact (p_cons (p_if (r_tcmp (o_eq hu64) (r_var 1 (ta := tVar 1) (pv 1)) r_int (nomark _)) (p_one (p_ret (r_op o_mul (r_call G__law_great hG (hr.mono (by decide)) (by rfl) T.m__law_great T.f__law_great.kp T.k__law_great (fun σ => passAt (takes_of rfl rfl rfl rfl) σ) (r_acons (r_var 0 (ta := tVar 0) (pv 0)) (r_acons (r_op o_add (r_var 2 (ta := tVar 2) (pv 2)) r_int) r_anil)) rfl) (r_call G__law_pick hG (hr.mono (by decide)) (by rfl) T.m__law_pick T.f__law_pick.kp T.k__law_pick (fun σ => passAt (takes_of rfl rfl rfl rfl) σ) (r_acons (r_var 0 (ta := tVar 0) (pv 0)) (r_acons (r_frz (r_lst (r_acons r_int (r_acons (r_neg r_int) r_anil)))) r_anil)) rfl)))) p_nil) (p_one (p_ret (r_call G__law_great hG (hr.mono (by decide)) (by rfl) T.m__law_great T.f__law_great.kp T.k__law_great (fun σ => passAt (takes_of rfl rfl rfl rfl) σ) (r_acons (r_var 0 (ta := tVar 0) (pv 0)) (r_acons (r_var 1 (ta := tVar 1) (pv 1)) r_anil)) rfl))))
theorem ok__law_divisor (T : Txt K mg) : FnG P w K mg base 3 T.a__law_divisor T.d__law_divisor ["deck", "m"] (spF K 2 F__law_divisor) := by
  have G__law_pick := ok__law_pick (P := P) (w := w) (base := base) T
  have nd := sc__law_divisor.nd
  have h := fun b => @def_rule P w K mg base _ _ _ _ _ _ _ 2 B__law_divisor T.f__law_divisor sc__law_divisor b
  have e : spF K ((["deck", "m"] : List Str).length) (runF ((["deck", "m", "some", "k"] : List Str).length) B__law_divisor) = spF K 2 F__law_divisor := rfl
  rw [e] at h
  refine h (fun cdv A outer z H0 E dk l I0 hG hr => ?_)
  have un := hr.un
  have hu0 : (A.deeper (envOfC "_law_divisor" (defScope s__law_divisor) z.heap.objs.size T.a__law_divisor cdv)).units < cLine := by omega
  have hu1 : (A.deeper (envOfC "_law_divisor" (defScope s__law_divisor) z.heap.objs.size T.a__law_divisor cdv)).units + 1 < cLine := by omega
  have hu8 : (A.deeper (envOfC "_law_divisor" (defScope s__law_divisor) z.heap.objs.size T.a__law_divisor cdv)).units + 8 < cLine := by omega
  have hu64 : (A.deeper (envOfC "_law_divisor" (defScope s__law_divisor) z.heap.objs.size T.a__law_divisor cdv)).units + 64 < cLine := by omega
  have hu128 : (A.deeper (envOfC "_law_divisor" (defScope s__law_divisor) z.heap.objs.size T.a__law_divisor cdv)).units + 128 < cLine := by omega
  exact (p_cons (p_if (r_tcmp (o_eq hu64) (r_var 1 (ta := tVar 1) (pv 1)) r_int (nomark _)) (p_one (p_ret (r_call G__law_pick hG (hr.mono (by decide)) (by rfl) T.m__law_pick T.f__law_pick.kp T.k__law_pick (fun σ => passAt (takes_of rfl rfl rfl rfl) σ) (r_acons (r_var 0 (ta := tVar 0) (pv 0)) (r_acons (r_frz (r_lst (r_acons r_int (r_acons r_int (r_acons r_int (r_acons r_int (r_acons r_int (r_acons (r_op o_pow r_int r_int) r_anil)))))))) r_anil)) rfl))) p_nil) (p_cons (p_setLcV (i := 2) (own := [("k", 3)]) rfl nd (by rfl) (by rfl) (sw_true rfl (by rfl) (by rfl) (by decide +kernel)) (r_B (r_items (r_tup (r_acons r_int (r_acons r_int (r_acons r_int (r_acons r_int (r_acons r_int (r_acons r_int (r_acons r_int (r_acons r_int (r_acons r_int (r_acons (r_op o_pow r_int r_int) (r_acons (r_var 1 (ta := tVar 1) (pv 1)) r_anil)))))))))))))) (blkOk_by (N := ["deck", "m", "some", "k"]) (sc := defScope s__law_divisor) (by decide +kernel)) (fun _ _ _ _ _ => (pgN (pg_name nd (i := 3) (by rfl) (by first | exact .inl rfl | exact .inr rfl)))) (fun _ _ _ _ _ => (r_pts_one (r_tcmp (o_eq hu64) (r_op o_mod (r_callT c_int (by rfl) T.b_int bt_int (r_acons (r_var 1 (ta := tVar 1) (pv 1)) r_anil)) (r_var 3 (ta := tVar 3) (pv 3))) r_int (nomark _)))) (fun _ _ _ _ _ => (r_var 3 (ta := tVar 3) (pv 3))) (by decide)) (p_one (p_ret (r_call G__law_pick hG (hr.mono (by decide)) (by rfl) T.m__law_pick T.f__law_pick.kp T.k__law_pick (fun σ => passAt (takes_of rfl rfl rfl rfl) σ) (r_acons (r_var 0 (ta := tVar 0) (pv 0)) (r_acons (r_var 2 (ta := tVar 2) (pv 2)) r_anil)) rfl)))))
theorem ok_is_lot (T : Txt K mg) : FnG P w K mg base 4 T.a_is_lot T.d_is_lot ["shape", "thing"] (spF K 2 F_is_lot) := by
  have G_is_ascending := ok_is_ascending (P := P) (w := w) (base := base) T
  have G_is_below := ok_is_below (P := P) (w := w) (base := base) T
  have G_need_shape := ok_need_shape (P := P) (w := w) (base := base) T
  have nd := sc_is_lot.nd
  have h := fun b => @def_rule P w K mg base _ _ _ _ _ _ _ 3 B_is_lot T.f_is_lot sc_is_lot b
  have e : spF K ((["shape", "thing"] : List Str).length) (runF ((["shape", "thing", "place"] : List Str).length) B_is_lot) = spF K 2 F_is_lot := rfl
  rw [e] at h
  refine h (fun cdv A outer z H0 E dk l I0 hG hr => ?_)
  have un := hr.un
  have hu0 : (A.deeper (envOfC "is_lot" (defScope s_is_lot) z.heap.objs.size T.a_is_lot cdv)).units < cLine := by omega
  have hu1 : (A.deeper (envOfC "is_lot" (defScope s_is_lot) z.heap.objs.size T.a_is_lot cdv)).units + 1 < cLine := by omega
  have hu8 : (A.deeper (envOfC "is_lot" (defScope s_is_lot) z.heap.objs.size T.a_is_lot cdv)).units + 8 < cLine := by omega
  have hu64 : (A.deeper (envOfC "is_lot" (defScope s_is_lot) z.heap.objs.size T.a_is_lot cdv)).units + 64 < cLine := by omega
  have hu128 : (A.deeper (envOfC "is_lot" (defScope s_is_lot) z.heap.objs.size T.a_is_lot cdv)).units + 128 < cLine := by omega
  exact (p_cons (p_drop (r_call G_need_shape hG (hr.mono (by decide)) (by rfl) T.m_need_shape T.f_need_shape.kp T.k_need_shape (fun σ => passAt (takes_of rfl rfl rfl rfl) σ) (r_acons (r_var 0 (ta := tVar 0) (pv 0)) r_anil) rfl)) (p_cons (p_if (r_not (r_tval (r_isi .tuple (by rfl) T.b_isinstance (by rfl) T.b_tuple bt_tuple (r_var 1 (ta := tVar 1) (pv 1)) bt_isinstance))) (p_one (p_ret r_bl)) p_nil) (p_one (p_ret (r_andV (r_callB (c_all rfl) (by rfl) T.b_all bt_all (r_acons (r_frz (r_lc (own := [("place", 2)]) rfl nd (r_B (r_items (r_var 1 (ta := tVar 1) (pv 1)))) (blkOk_by (N := ["shape", "thing", "place"]) (sc := defScope s_is_lot) (by decide +kernel)) (fun _ _ _ _ _ => (pgN (pg_name nd (i := 2) (by rfl) (by first | exact .inl rfl | exact .inr rfl)))) (fun _ _ _ _ _ => r_pts_nil) (fun _ _ _ _ _ => (r_call G_is_below hG (hr.mono (by decide)) (by rfl) T.m_is_below T.f_is_below.kp T.k_is_below pass0' (r_acons (r_var 2 (ta := tVar 2) (pv 2)) (r_acons (r_callB c_len (by rfl) T.b_len PySem.boot_len (r_acons (r_var 0 (ta := tVar 0) (pv 0)) r_anil)) r_anil)) rfl)) (by decide))) r_anil)) (r_one (r_call G_is_ascending hG (hr.mono (by decide)) (by rfl) T.m_is_ascending T.f_is_ascending.kp T.k_is_ascending (fun σ => passAt (takes_of rfl rfl rfl rfl) σ) (r_acons (r_var 1 (ta := tVar 1) (pv 1)) r_anil) rfl)))))))
theorem ok_worlds (T : Txt K mg) : FnG P w K mg base 4 T.a_worlds T.d_worlds ["shape"] (spF K 1 F_worlds) := by
  have G_all_places := ok_all_places (P := P) (w := w) (base := base) T
  have G_need_shape := ok_need_shape (P := P) (w := w) (base := base) T
  have G_words_over := ok_words_over (P := P) (w := w) (base := base) T
  have nd := sc_worlds.nd
  have h := fun b => @def_rule P w K mg base _ _ _ _ _ _ _ 3 B_worlds T.f_worlds sc_worlds b
  have e : spF K ((["shape"] : List Str).length) (runF ((["shape"] : List Str).length) B_worlds) = spF K 1 F_worlds := rfl
  rw [e] at h
  refine h (fun cdv A outer z H0 E dk l I0 hG hr => ?_)
  have un := hr.un
  have hu0 : (A.deeper (envOfC "worlds" (defScope s_worlds) z.heap.objs.size T.a_worlds cdv)).units < cLine := by omega
  have hu1 : (A.deeper (envOfC "worlds" (defScope s_worlds) z.heap.objs.size T.a_worlds cdv)).units + 1 < cLine := by omega
  have hu8 : (A.deeper (envOfC "worlds" (defScope s_worlds) z.heap.objs.size T.a_worlds cdv)).units + 8 < cLine := by omega
  have hu64 : (A.deeper (envOfC "worlds" (defScope s_worlds) z.heap.objs.size T.a_worlds cdv)).units + 64 < cLine := by omega
  have hu128 : (A.deeper (envOfC "worlds" (defScope s_worlds) z.heap.objs.size T.a_worlds cdv)).units + 128 < cLine := by omega
  exact (p_cons (p_drop (r_call G_need_shape hG (hr.mono (by decide)) (by rfl) T.m_need_shape T.f_need_shape.kp T.k_need_shape (fun σ => passAt (takes_of rfl rfl rfl rfl) σ) (r_acons (r_var 0 (ta := tVar 0) (pv 0)) r_anil) rfl)) (p_one (p_ret (r_call G_words_over hG (hr.mono (by decide)) (by rfl) T.m_words_over T.f_words_over.kp T.k_words_over (fun σ => passAt (takes_of rfl rfl rfl rfl) σ) (r_acons (r_var 0 (ta := tVar 0) (pv 0)) (r_acons (r_call G_all_places hG (hr.mono (by decide)) (by rfl) T.m_all_places T.f_all_places.kp T.k_all_places (fun σ => passAt (takes_of rfl rfl rfl rfl) σ) (r_acons (r_var 0 (ta := tVar 0) (pv 0)) r_anil) rfl) r_anil)) rfl))))
theorem ok_is_list_over (T : Txt K mg) : FnG P w K mg base 4 T.a_is_list_over T.d_is_list_over ["shape", "m", "lot", "thing"] (spF K 4 F_is_list_over) := by
  have G_is_number := ok_is_number (P := P) (w := w) (base := base) T
  have G_many_words := ok_many_words (P := P) (w := w) (base := base) T
  have nd := sc_is_list_over.nd
  have h := fun b => @def_rule P w K mg base _ _ _ _ _ _ _ 3 B_is_list_over T.f_is_list_over sc_is_list_over b
  have e : spF K ((["shape", "m", "lot", "thing"] : List Str).length) (runF ((["shape", "m", "lot", "thing", "entry"] : List Str).length) B_is_list_over) = spF K 4 F_is_list_over := rfl
  rw [e] at h
  refine h (fun cdv A outer z H0 E dk l I0 hG hr => ?_)
  have un := hr.un
  have hu0 : (A.deeper (envOfC "is_list_over" (defScope s_is_list_over) z.heap.objs.size T.a_is_list_over cdv)).units < cLine := by omega
  have hu1 : (A.deeper (envOfC "is_list_over" (defScope s_is_list_over) z.heap.objs.size T.a_is_list_over cdv)).units + 1 < cLine := by omega
  have hu8 : (A.deeper (envOfC "is_list_over" (defScope s_is_list_over) z.heap.objs.size T.a_is_list_over cdv)).units + 8 < cLine := by omega
  have hu64 : (A.deeper (envOfC "is_list_over" (defScope s_is_list_over) z.heap.objs.size T.a_is_list_over cdv)).units + 64 < cLine := by omega
  have hu128 : (A.deeper (envOfC "is_list_over" (defScope s_is_list_over) z.heap.objs.size T.a_is_list_over cdv)).units + 128 < cLine := by omega
  exact (p_cons (p_if ((r_or (r_not (r_tval (r_isi .tuple (by rfl) T.b_isinstance (by rfl) T.b_tuple bt_tuple (r_var 3 (ta := tVar 3) (pv 3)) bt_isinstance))) (r_or1 (r_tcmp (o_ne hu64) (r_callB c_len (by rfl) T.b_len PySem.boot_len (r_acons (r_var 3 (ta := tVar 3) (pv 3)) r_anil)) (r_call G_many_words hG (hr.mono (by decide)) (by rfl) T.m_many_words T.f_many_words.kp T.k_many_words (fun σ => passAt (takes_of rfl rfl rfl rfl) σ) (r_acons (r_var 0 (ta := tVar 0) (pv 0)) (r_acons (r_var 2 (ta := tVar 2) (pv 2)) r_anil)) rfl) (nomark _))))).pt (p_one (p_ret r_bl)) p_nil) (p_one (p_ret (r_callB (c_all rfl) (by rfl) T.b_all bt_all (r_acons (r_frz (r_lc (own := [("entry", 4)]) rfl nd (r_B (r_items (r_var 3 (ta := tVar 3) (pv 3)))) (blkOk_by (N := ["shape", "m", "lot", "thing", "entry"]) (sc := defScope s_is_list_over) (by decide +kernel)) (fun _ _ _ _ _ => (pgN (pg_name nd (i := 4) (by rfl) (by first | exact .inl rfl | exact .inr rfl)))) (fun _ _ _ _ _ => r_pts_nil) (fun _ _ _ _ _ => (r_call G_is_number hG (hr.mono (by decide)) (by rfl) T.m_is_number T.f_is_number.kp T.k_is_number pass0' (r_acons (r_var 1 (ta := tVar 1) (pv 1)) (r_acons (r_var 4 (ta := tVar 4) (pv 4)) r_anil)) rfl)) (by decide))) r_anil)))))
theorem ok__law_total (T : Txt K mg) : FnG P w K mg base 4 T.a__law_total T.d__law_total ["shape", "m", "lots", "lists"] (spF K 4 F__law_total) := by
  have G__law_by := ok__law_by (P := P) (w := w) (base := base) T
  have G__law_spread := ok__law_spread (P := P) (w := w) (base := base) T
  have G__law_worlds := ok__law_worlds (P := P) (w := w) (base := base) T
  have nd := sc__law_total.nd
  have h := fun b => @def_rule P w K mg base _ _ _ _ _ _ _ 3 B__law_total T.f__law_total sc__law_total b
  have e : spF K ((["shape", "m", "lots", "lists"] : List Str).length) (runF ((["shape", "m", "lots", "lists", "found", "lot", "entries", "x", "y"] : List Str).length) B__law_total) = spF K 4 F__law_total := rfl
  rw [e] at h
  refine h (fun cdv A outer z H0 E dk l I0 hG hr => ?_)
  have un := hr.un
  have hu0 : (A.deeper (envOfC "_law_total" (defScope s__law_total) z.heap.objs.size T.a__law_total cdv)).units < cLine := by omega
  have hu1 : (A.deeper (envOfC "_law_total" (defScope s__law_total) z.heap.objs.size T.a__law_total cdv)).units + 1 < cLine := by omega
  have hu8 : (A.deeper (envOfC "_law_total" (defScope s__law_total) z.heap.objs.size T.a__law_total cdv)).units + 8 < cLine := by omega
  have hu64 : (A.deeper (envOfC "_law_total" (defScope s__law_total) z.heap.objs.size T.a__law_total cdv)).units + 64 < cLine := by omega
  have hu128 : (A.deeper (envOfC "_law_total" (defScope s__law_total) z.heap.objs.size T.a__law_total cdv)).units + 128 < cLine := by omega
  exact (p_cons (p_asg (r_frz (r_repO (r_frz (r_lst (r_acons r_int r_anil))) (r_callB c_len (by rfl) T.b_len PySem.boot_len (r_acons (r_call G__law_worlds hG (hr.mono (by decide)) (by rfl) T.m__law_worlds T.f__law_worlds.kp T.k__law_worlds (fun σ => passAt (takes_of rfl rfl rfl rfl) σ) (r_acons (r_var 0 (ta := tVar 0) (pv 0)) r_anil) rfl) r_anil)))) (pgN (pg_name nd (i := 4) (by rfl) (by first | exact .inl rfl | exact .inr rfl)))) (p_cons (p_for (passes_of rfl) rfl (r_zip (by rfl) T.b_zip (r_acons (r_var 2 (ta := tVar 2) (pv 2)) (r_acons (r_var 3 (ta := tVar 3) (pv 3)) r_anil))) (pgT rfl (pgsC (pgN (pg_name nd (i := 5) (by rfl) (by first | exact .inl rfl | exact .inr rfl))) (pgsC (pgN (pg_name nd (i := 6) (by rfl) (by first | exact .inl rfl | exact .inr rfl))) pgsN))) (p_one (p_setLcV (i := 4) (own := [("x", 7), ("y", 8)]) rfl nd (by rfl) (by rfl) (sw_true rfl (by rfl) (by rfl) (by decide +kernel)) (r_B (r_zip (by rfl) T.b_zip (r_acons (r_var 4 (ta := tVar 4) (pv 4)) (r_acons (r_call G__law_spread hG (hr.mono (by decide)) (by rfl) T.m__law_spread T.f__law_spread.kp T.k__law_spread (fun σ => passAt (takes_of rfl rfl rfl rfl) σ) (r_acons (r_var 0 (ta := tVar 0) (pv 0)) (r_acons (r_var 5 (ta := tVar 5) (pv 5)) (r_acons (r_var 6 (ta := tVar 6) (pv 6)) r_anil))) rfl) r_anil)))) (blkOk_by (N := ["shape", "m", "lots", "lists", "found", "lot", "entries", "x", "y"]) (sc := defScope s__law_total) (by decide +kernel)) (fun _ _ _ _ _ => (pgT rfl (pgsC (pgN (pg_name nd (i := 7) (by rfl) (by first | exact .inl rfl | exact .inr rfl))) (pgsC (pgN (pg_name nd (i := 8) (by rfl) (by first | exact .inl rfl | exact .inr rfl))) pgsN)))) (fun _ _ _ _ _ => r_pts_nil) (fun _ _ _ _ _ => (r_call G__law_by hG (hr.mono (by decide)) (by rfl) T.m__law_by T.f__law_by.kp T.k__law_by pass0' (r_acons (r_var 1 (ta := tVar 1) (pv 1)) (r_acons (r_op o_add (r_var 7 (ta := tVar 7) (pv 7)) (r_var 8 (ta := tVar 8) (pv 8))) r_anil)) rfl)) (by decide)))) (p_one (p_ret (r_callT c_tuple (by rfl) T.b_tuple bt_tuple (r_acons (r_var 4 (ta := tVar 4) (pv 4)) r_anil))))))
theorem ok__law_entries (T : Txt K mg) : FnG P w K mg base 4 T.a__law_entries T.d__law_entries ["deck", "shape", "m", "lot", "size"] (spF K 5 F__law_entries) := by
  have G__law_draw := ok__law_draw (P := P) (w := w) (base := base) T
  have G__law_number := ok__law_number (P := P) (w := w) (base := base) T
  have G__law_words := ok__law_words (P := P) (w := w) (base := base) T
  have nd := sc__law_entries.nd
  have h := fun b => @def_rule P w K mg base _ _ _ _ _ _ _ 3 B__law_entries T.f__law_entries sc__law_entries b
  have e : spF K ((["deck", "shape", "m", "lot", "size"] : List Str).length) (runF ((["deck", "shape", "m", "lot", "size", "word"] : List Str).length) B__law_entries) = spF K 5 F__law_entries := rfl
  rw [e] at h
  refine h (fun cdv A outer z H0 E dk l I0 hG hr => ?_)
  have un := hr.un
  have hu0 : (A.deeper (envOfC "_law_entries" (defScope s__law_entries) z.heap.objs.size T.a__law_entries cdv)).units < cLine := by omega
  have hu1 : (A.deeper (envOfC "_law_entries" (defScope s__law_entries) z.heap.objs.size T.a__law_entries cdv)).units + 1 < cLine := by omega
  have hu8 : (A.deeper (envOfC "_law_entries" (defScope s__law_entries) z.heap.objs.size T.a__law_entries cdv)).units + 8 < cLine := by omega
  have hu64 : (A.deeper (envOfC "_law_entries" (defScope s__law_entries) z.heap.objs.size T.a__law_entries cdv)).units + 64 < cLine := by omega
  have hu128 : (A.deeper (envOfC "_law_entries" (defScope s__law_entries) z.heap.objs.size T.a__law_entries cdv)).units + 128 < cLine := by omega
  exact (p_one (p_ret (r_callT c_tuple (by rfl) T.b_tuple bt_tuple (r_acons (r_frz (r_lc (own := [("word", 5)]) rfl nd (r_B (r_items (r_call G__law_words hG (hr.mono (by decide)) (by rfl) T.m__law_words T.f__law_words.kp T.k__law_words (fun σ => passAt (takes_of rfl rfl rfl rfl) σ) (r_acons (r_var 1 (ta := tVar 1) (pv 1)) (r_acons (r_var 3 (ta := tVar 3) (pv 3)) r_anil)) rfl))) (blkOk_by (N := ["deck", "shape", "m", "lot", "size", "word"]) (sc := defScope s__law_entries) (by decide +kernel)) (fun _ _ _ _ _ => (pgN (pg_name nd (i := 5) (by rfl) (by first | exact .inl rfl | exact .inr rfl)))) (fun _ _ _ _ _ => r_pts_nil) (fun _ _ _ _ _ => (r_if (r_tcmp o_gt (r_call G__law_draw hG (hr.mono (by decide)) (by rfl) T.m__law_draw T.f__law_draw.kp T.k__law_draw pass0' (r_acons (r_var 0 (ta := tVar 0) (pv 0)) (r_acons r_int r_anil)) rfl) r_int (nomark _)) (r_call G__law_number hG (hr.mono (by decide)) (by rfl) T.m__law_number T.f__law_number.kp T.k__law_number pass0' (r_acons (r_var 0 (ta := tVar 0) (pv 0)) (r_acons (r_var 2 (ta := tVar 2) (pv 2)) (r_acons (r_var 4 (ta := tVar 4) (pv 4)) r_anil))) rfl) r_int)) (by decide))) r_anil))))
theorem ok_need_lot (T : Txt K mg) : FnG P w K mg base 5 T.a_need_lot T.d_need_lot ["shape", "lot"] (spF K 2 F_need_lot) := by
  have G_is_lot := ok_is_lot (P := P) (w := w) (base := base) T
  have nd := sc_need_lot.nd
  have h := fun b => @def_rule P w K mg base _ _ _ _ _ _ _ 4 B_need_lot T.f_need_lot sc_need_lot b
  have e : spF K ((["shape", "lot"] : List Str).length) (runF ((["shape", "lot"] : List Str).length) B_need_lot) = spF K 2 F_need_lot := rfl
  rw [e] at h
  refine h (fun cdv A outer z H0 E dk l I0 hG hr => ?_)
  have un := hr.un
  have hu0 : (A.deeper (envOfC "need_lot" (defScope s_need_lot) z.heap.objs.size T.a_need_lot cdv)).units < cLine := by omega
  have hu1 : (A.deeper (envOfC "need_lot" (defScope s_need_lot) z.heap.objs.size T.a_need_lot cdv)).units + 1 < cLine := by omega
  have hu8 : (A.deeper (envOfC "need_lot" (defScope s_need_lot) z.heap.objs.size T.a_need_lot cdv)).units + 8 < cLine := by omega
  have hu64 : (A.deeper (envOfC "need_lot" (defScope s_need_lot) z.heap.objs.size T.a_need_lot cdv)).units + 64 < cLine := by omega
  have hu128 : (A.deeper (envOfC "need_lot" (defScope s_need_lot) z.heap.objs.size T.a_need_lot cdv)).units + 128 < cLine := by omega
  exact (p_one (p_if (r_not (r_tval (r_call G_is_lot hG (hr.mono (by decide)) (by rfl) T.m_is_lot T.f_is_lot.kp T.k_is_lot (fun σ => passAt (takes_of rfl rfl rfl rfl) σ) (r_acons (r_var 0 (ta := tVar 0) (pv 0)) (r_acons (r_var 1 (ta := tVar 1) (pv 1)) r_anil)) rfl))) (p_one p_bad) p_nil))
theorem ok_need_list (T : Txt K mg) : FnG P w K mg base 5 T.a_need_list T.d_need_list ["shape", "m", "lot", "entries"] (spF K 4 F_need_list) := by
  have G_is_list_over := ok_is_list_over (P := P) (w := w) (base := base) T
  have nd := sc_need_list.nd
  have h := fun b => @def_rule P w K mg base _ _ _ _ _ _ _ 4 B_need_list T.f_need_list sc_need_list b
  have e : spF K ((["shape", "m", "lot", "entries"] : List Str).length) (runF ((["shape", "m", "lot", "entries"] : List Str).length) B_need_list) = spF K 4 F_need_list := rfl
  rw [e] at h
  refine h (fun cdv A outer z H0 E dk l I0 hG hr => ?_)
  have un := hr.un
  have hu0 : (A.deeper (envOfC "need_list" (defScope s_need_list) z.heap.objs.size T.a_need_list cdv)).units < cLine := by omega
  have hu1 : (A.deeper (envOfC "need_list" (defScope s_need_list) z.heap.objs.size T.a_need_list cdv)).units + 1 < cLine := by omega
  have hu8 : (A.deeper (envOfC "need_list" (defScope s_need_list) z.heap.objs.size T.a_need_list cdv)).units + 8 < cLine := by omega
  have hu64 : (A.deeper (envOfC "need_list" (defScope s_need_list) z.heap.objs.size T.a_need_list cdv)).units + 64 < cLine := by omega
  have hu128 : (A.deeper (envOfC "need_list" (defScope s_need_list) z.heap.objs.size T.a_need_list cdv)).units + 128 < cLine := by omega
  exact (p_one (p_if (r_not (r_tval (r_call G_is_list_over hG (hr.mono (by decide)) (by rfl) T.m_is_list_over T.f_is_list_over.kp T.k_is_list_over (fun σ => passAt (takes_of rfl rfl rfl rfl) σ) (r_acons (r_var 0 (ta := tVar 0) (pv 0)) (r_acons (r_var 1 (ta := tVar 1) (pv 1)) (r_acons (r_var 2 (ta := tVar 2) (pv 2)) (r_acons (r_var 3 (ta := tVar 3) (pv 3)) r_anil)))) rfl))) (p_one p_bad) p_nil))
theorem ok_is_tuple_of_lots (T : Txt K mg) : FnG P w K mg base 5 T.a_is_tuple_of_lots T.d_is_tuple_of_lots ["shape", "thing"] (spF K 2 F_is_tuple_of_lots) := by
  have G_is_lot := ok_is_lot (P := P) (w := w) (base := base) T
  have nd := sc_is_tuple_of_lots.nd
  have h := fun b => @def_rule P w K mg base _ _ _ _ _ _ _ 4 B_is_tuple_of_lots T.f_is_tuple_of_lots sc_is_tuple_of_lots b
  have e : spF K ((["shape", "thing"] : List Str).length) (runF ((["shape", "thing", "lot"] : List Str).length) B_is_tuple_of_lots) = spF K 2 F_is_tuple_of_lots := rfl
  rw [e] at h
  refine h (fun cdv A outer z H0 E dk l I0 hG hr => ?_)
  have un := hr.un
  have hu0 : (A.deeper (envOfC "is_tuple_of_lots" (defScope s_is_tuple_of_lots) z.heap.objs.size T.a_is_tuple_of_lots cdv)).units < cLine := by omega
  have hu1 : (A.deeper (envOfC "is_tuple_of_lots" (defScope s_is_tuple_of_lots) z.heap.objs.size T.a_is_tuple_of_lots cdv)).units + 1 < cLine := by omega
  have hu8 : (A.deeper (envOfC "is_tuple_of_lots" (defScope s_is_tuple_of_lots) z.heap.objs.size T.a_is_tuple_of_lots cdv)).units + 8 < cLine := by omega
  have hu64 : (A.deeper (envOfC "is_tuple_of_lots" (defScope s_is_tuple_of_lots) z.heap.objs.size T.a_is_tuple_of_lots cdv)).units + 64 < cLine := by omega
  have hu128 : (A.deeper (envOfC "is_tuple_of_lots" (defScope s_is_tuple_of_lots) z.heap.objs.size T.a_is_tuple_of_lots cdv)).units + 128 < cLine := by omega
  exact (p_one (p_ret (r_andV (r_isi .tuple (by rfl) T.b_isinstance (by rfl) T.b_tuple bt_tuple (r_var 1 (ta := tVar 1) (pv 1)) bt_isinstance) (r_one (r_callB (c_all rfl) (by rfl) T.b_all bt_all (r_acons (r_frz (r_lc (own := [("lot", 2)]) rfl nd (r_B (r_items (r_var 1 (ta := tVar 1) (pv 1)))) (blkOk_by (N := ["shape", "thing", "lot"]) (sc := defScope s_is_tuple_of_lots) (by decide +kernel)) (fun _ _ _ _ _ => (pgN (pg_name nd (i := 2) (by rfl) (by first | exact .inl rfl | exact .inr rfl)))) (fun _ _ _ _ _ => r_pts_nil) (fun _ _ _ _ _ => (r_call G_is_lot hG (hr.mono (by decide)) (by rfl) T.m_is_lot T.f_is_lot.kp T.k_is_lot pass0' (r_acons (r_var 0 (ta := tVar 0) (pv 0)) (r_acons (r_var 2 (ta := tVar 2) (pv 2)) r_anil)) rfl)) (by decide))) r_anil))))))
theorem ok_are_lists_over (T : Txt K mg) : FnG P w K mg base 5 T.a_are_lists_over T.d_are_lists_over ["shape", "m", "lots", "thing"] (spF K 4 F_are_lists_over) := by
  have G_is_list_over := ok_is_list_over (P := P) (w := w) (base := base) T
  have nd := sc_are_lists_over.nd
  have h := fun b => @def_rule P w K mg base _ _ _ _ _ _ _ 4 B_are_lists_over T.f_are_lists_over sc_are_lists_over b
  have e : spF K ((["shape", "m", "lots", "thing"] : List Str).length) (runF ((["shape", "m", "lots", "thing", "lot", "entries"] : List Str).length) B_are_lists_over) = spF K 4 F_are_lists_over := rfl
  rw [e] at h
  refine h (fun cdv A outer z H0 E dk l I0 hG hr => ?_)
  have un := hr.un
  have hu0 : (A.deeper (envOfC "are_lists_over" (defScope s_are_lists_over) z.heap.objs.size T.a_are_lists_over cdv)).units < cLine := by omega
  have hu1 : (A.deeper (envOfC "are_lists_over" (defScope s_are_lists_over) z.heap.objs.size T.a_are_lists_over cdv)).units + 1 < cLine := by omega
  have hu8 : (A.deeper (envOfC "are_lists_over" (defScope s_are_lists_over) z.heap.objs.size T.a_are_lists_over cdv)).units + 8 < cLine := by omega
  have hu64 : (A.deeper (envOfC "are_lists_over" (defScope s_are_lists_over) z.heap.objs.size T.a_are_lists_over cdv)).units + 64 < cLine := by omega
  have hu128 : (A.deeper (envOfC "are_lists_over" (defScope s_are_lists_over) z.heap.objs.size T.a_are_lists_over cdv)).units + 128 < cLine := by omega
  exact (p_cons (p_if ((r_or (r_not (r_tval (r_isi .tuple (by rfl) T.b_isinstance (by rfl) T.b_tuple bt_tuple (r_var 3 (ta := tVar 3) (pv 3)) bt_isinstance))) (r_or1 (r_tcmp (o_ne hu64) (r_callB c_len (by rfl) T.b_len PySem.boot_len (r_acons (r_var 3 (ta := tVar 3) (pv 3)) r_anil)) (r_callB c_len (by rfl) T.b_len PySem.boot_len (r_acons (r_var 2 (ta := tVar 2) (pv 2)) r_anil)) (nomark _))))).pt (p_one (p_ret r_bl)) p_nil) (p_one (p_ret (r_callB (c_all rfl) (by rfl) T.b_all bt_all (r_acons (r_frz (r_lc (own := [("lot", 4), ("entries", 5)]) rfl nd (r_B (r_zip (by rfl) T.b_zip (r_acons (r_var 2 (ta := tVar 2) (pv 2)) (r_acons (r_var 3 (ta := tVar 3) (pv 3)) r_anil)))) (blkOk_by (N := ["shape", "m", "lots", "thing", "lot", "entries"]) (sc := defScope s_are_lists_over) (by decide +kernel)) (fun _ _ _ _ _ => (pgT rfl (pgsC (pgN (pg_name nd (i := 4) (by rfl) (by first | exact .inl rfl | exact .inr rfl))) (pgsC (pgN (pg_name nd (i := 5) (by rfl) (by first | exact .inl rfl | exact .inr rfl))) pgsN)))) (fun _ _ _ _ _ => r_pts_nil) (fun _ _ _ _ _ => (r_call G_is_list_over hG (hr.mono (by decide)) (by rfl) T.m_is_list_over T.f_is_list_over.kp T.k_is_list_over pass0' (r_acons (r_var 0 (ta := tVar 0) (pv 0)) (r_acons (r_var 1 (ta := tVar 1) (pv 1)) (r_acons (r_var 4 (ta := tVar 4) (pv 4)) (r_acons (r_var 5 (ta := tVar 5) (pv 5)) r_anil)))) rfl)) (by decide))) r_anil)))))
theorem ok_is_list (T : Txt K mg) : FnG P w K mg base 6 T.a_is_list T.d_is_list ["shape", "m", "lot", "thing"] (spF K 4 F_is_list) := by
  have G_is_list_over := ok_is_list_over (P := P) (w := w) (base := base) T
  have G_need_lot := ok_need_lot (P := P) (w := w) (base := base) T
  have G_need_modulus := ok_need_modulus (P := P) (w := w) (base := base) T
  have G_need_shape := ok_need_shape (P := P) (w := w) (base := base) T
  have nd := sc_is_list.nd
  have h := fun b => @def_rule P w K mg base _ _ _ _ _ _ _ 5 B_is_list T.f_is_list sc_is_list b
  have e : spF K ((["shape", "m", "lot", "thing"] : List Str).length) (runF ((["shape", "m", "lot", "thing"] : List Str).length) B_is_list) = spF K 4 F_is_list := rfl
  rw [e] at h
  refine h (fun cdv A outer z H0 E dk l I0 hG hr => ?_)
  have un := hr.un
  have hu0 : (A.deeper (envOfC "is_list" (defScope s_is_list) z.heap.objs.size T.a_is_list cdv)).units < cLine := by omega
  have hu1 : (A.deeper (envOfC "is_list" (defScope s_is_list) z.heap.objs.size T.a_is_list cdv)).units + 1 < cLine := by omega
  have hu8 : (A.deeper (envOfC "is_list" (defScope s_is_list) z.heap.objs.size T.a_is_list cdv)).units + 8 < cLine := by omega
  have hu64 : (A.deeper (envOfC "is_list" (defScope s_is_list) z.heap.objs.size T.a_is_list cdv)).units + 64 < cLine := by omega
  have hu128 : (A.deeper (envOfC "is_list" (defScope s_is_list) z.heap.objs.size T.a_is_list cdv)).units + 128 < cLine := by omega
  exact (p_cons (p_drop (r_call G_need_shape hG (hr.mono (by decide)) (by rfl) T.m_need_shape T.f_need_shape.kp T.k_need_shape (fun σ => passAt (takes_of rfl rfl rfl rfl) σ) (r_acons (r_var 0 (ta := tVar 0) (pv 0)) r_anil) rfl)) (p_cons (p_drop (r_call G_need_modulus hG (hr.mono (by decide)) (by rfl) T.m_need_modulus T.f_need_modulus.kp T.k_need_modulus (fun σ => passAt (takes_of rfl rfl rfl rfl) σ) (r_acons (r_var 1 (ta := tVar 1) (pv 1)) r_anil) rfl)) (p_cons (p_drop (r_call G_need_lot hG (hr.mono (by decide)) (by rfl) T.m_need_lot T.f_need_lot.kp T.k_need_lot (fun σ => passAt (takes_of rfl rfl rfl rfl) σ) (r_acons (r_var 0 (ta := tVar 0) (pv 0)) (r_acons (r_var 2 (ta := tVar 2) (pv 2)) r_anil)) rfl)) (p_one (p_ret (r_call G_is_list_over hG (hr.mono (by decide)) (by rfl) T.m_is_list_over T.f_is_list_over.kp T.k_is_list_over (fun σ => passAt (takes_of rfl rfl rfl rfl) σ) (r_acons (r_var 0 (ta := tVar 0) (pv 0)) (r_acons (r_var 1 (ta := tVar 1) (pv 1)) (r_acons (r_var 2 (ta := tVar 2) (pv 2)) (r_acons (r_var 3 (ta := tVar 3) (pv 3)) r_anil)))) rfl))))))
theorem ok_spread (T : Txt K mg) : FnG P w K mg base 6 T.a_spread T.d_spread ["shape", "m", "lot", "entries"] (spF K 4 F_spread) := by
  have G_met_entry := ok_met_entry (P := P) (w := w) (base := base) T
  have G_need_list := ok_need_list (P := P) (w := w) (base := base) T
  have G_need_lot := ok_need_lot (P := P) (w := w) (base := base) T
  have G_need_modulus := ok_need_modulus (P := P) (w := w) (base := base) T
  have G_need_shape := ok_need_shape (P := P) (w := w) (base := base) T
  have G_worlds := ok_worlds (P := P) (w := w) (base := base) T
  have nd := sc_spread.nd
  have h := fun b => @def_rule P w K mg base _ _ _ _ _ _ _ 5 B_spread T.f_spread sc_spread b
  have e : spF K ((["shape", "m", "lot", "entries"] : List Str).length) (runF ((["shape", "m", "lot", "entries", "world"] : List Str).length) B_spread) = spF K 4 F_spread := rfl
  rw [e] at h
  refine h (fun cdv A outer z H0 E dk l I0 hG hr => ?_)
  have un := hr.un
  have hu0 : (A.deeper (envOfC "spread" (defScope s_spread) z.heap.objs.size T.a_spread cdv)).units < cLine := by omega
  have hu1 : (A.deeper (envOfC "spread" (defScope s_spread) z.heap.objs.size T.a_spread cdv)).units + 1 < cLine := by omega
  have hu8 : (A.deeper (envOfC "spread" (defScope s_spread) z.heap.objs.size T.a_spread cdv)).units + 8 < cLine := by omega
  have hu64 : (A.deeper (envOfC "spread" (defScope s_spread) z.heap.objs.size T.a_spread cdv)).units + 64 < cLine := by omega
  have hu128 : (A.deeper (envOfC "spread" (defScope s_spread) z.heap.objs.size T.a_spread cdv)).units + 128 < cLine := by omega
  exact (p_cons (p_drop (r_call G_need_shape hG (hr.mono (by decide)) (by rfl) T.m_need_shape T.f_need_shape.kp T.k_need_shape (fun σ => passAt (takes_of rfl rfl rfl rfl) σ) (r_acons (r_var 0 (ta := tVar 0) (pv 0)) r_anil) rfl)) (p_cons (p_drop (r_call G_need_modulus hG (hr.mono (by decide)) (by rfl) T.m_need_modulus T.f_need_modulus.kp T.k_need_modulus (fun σ => passAt (takes_of rfl rfl rfl rfl) σ) (r_acons (r_var 1 (ta := tVar 1) (pv 1)) r_anil) rfl)) (p_cons (p_drop (r_call G_need_lot hG (hr.mono (by decide)) (by rfl) T.m_need_lot T.f_need_lot.kp T.k_need_lot (fun σ => passAt (takes_of rfl rfl rfl rfl) σ) (r_acons (r_var 0 (ta := tVar 0) (pv 0)) (r_acons (r_var 2 (ta := tVar 2) (pv 2)) r_anil)) rfl)) (p_cons (p_drop (r_call G_need_list hG (hr.mono (by decide)) (by rfl) T.m_need_list T.f_need_list.kp T.k_need_list (fun σ => passAt (takes_of rfl rfl rfl rfl) σ) (r_acons (r_var 0 (ta := tVar 0) (pv 0)) (r_acons (r_var 1 (ta := tVar 1) (pv 1)) (r_acons (r_var 2 (ta := tVar 2) (pv 2)) (r_acons (r_var 3 (ta := tVar 3) (pv 3)) r_anil)))) rfl)) (p_one (p_ret (r_callT c_tuple (by rfl) T.b_tuple bt_tuple (r_acons (r_frz (r_lc (own := [("world", 4)]) rfl nd (r_B (r_items (r_call G_worlds hG (hr.mono (by decide)) (by rfl) T.m_worlds T.f_worlds.kp T.k_worlds (fun σ => passAt (takes_of rfl rfl rfl rfl) σ) (r_acons (r_var 0 (ta := tVar 0) (pv 0)) r_anil) rfl))) (blkOk_by (N := ["shape", "m", "lot", "entries", "world"]) (sc := defScope s_spread) (by decide +kernel)) (fun _ _ _ _ _ => (pgN (pg_name nd (i := 4) (by rfl) (by first | exact .inl rfl | exact .inr rfl)))) (fun _ _ _ _ _ => r_pts_nil) (fun _ _ _ _ _ => (r_call G_met_entry hG (hr.mono (by decide)) (by rfl) T.m_met_entry T.f_met_entry.kp T.k_met_entry pass0' (r_acons (r_var 0 (ta := tVar 0) (pv 0)) (r_acons (r_var 2 (ta := tVar 2) (pv 2)) (r_acons (r_var 3 (ta := tVar 3) (pv 3)) (r_acons (r_var 4 (ta := tVar 4) (pv 4)) r_anil)))) rfl)) (by decide))) r_anil))))))))
theorem ok_total (T : Txt K mg) : FnG P w K mg base 6 T.a_total T.d_total ["shape", "m", "lots", "lists"] (spF K 4 F_total) := by
  have G_are_lists_over := ok_are_lists_over (P := P) (w := w) (base := base) T
  have G_is_tuple_of_lots := ok_is_tuple_of_lots (P := P) (w := w) (base := base) T
  have G_met_sum := ok_met_sum (P := P) (w := w) (base := base) T
  have G_need_modulus := ok_need_modulus (P := P) (w := w) (base := base) T
  have G_need_shape := ok_need_shape (P := P) (w := w) (base := base) T
  have G_worlds := ok_worlds (P := P) (w := w) (base := base) T
  have nd := sc_total.nd
  have h := fun b => @def_rule P w K mg base _ _ _ _ _ _ _ 5 B_total T.f_total sc_total b
  have e : spF K ((["shape", "m", "lots", "lists"] : List Str).length) (runF ((["shape", "m", "lots", "lists", "world"] : List Str).length) B_total) = spF K 4 F_total := rfl
  rw [e] at h
  refine h (fun cdv A outer z H0 E dk l I0 hG hr => ?_)
  have un := hr.un
  have hu0 : (A.deeper (envOfC "total" (defScope s_total) z.heap.objs.size T.a_total cdv)).units < cLine := by omega
  have hu1 : (A.deeper (envOfC "total" (defScope s_total) z.heap.objs.size T.a_total cdv)).units + 1 < cLine := by omega
  have hu8 : (A.deeper (envOfC "total" (defScope s_total) z.heap.objs.size T.a_total cdv)).units + 8 < cLine := by omega
  have hu64 : (A.deeper (envOfC "total" (defScope s_total) z.heap.objs.size T.a_total cdv)).units + 64 < cLine := by omega
  have hu128 : (A.deeper (envOfC "total" (defScope s_total) z.heap.objs.size T.a_total cdv)).units + 128 < cLine := by omega
  exact (p_cons (p_drop (r_call G_need_shape hG (hr.mono (by decide)) (by rfl) T.m_need_shape T.f_need_shape.kp T.k_need_shape (fun σ => passAt (takes_of rfl rfl rfl rfl) σ) (r_acons (r_var 0 (ta := tVar 0) (pv 0)) r_anil) rfl)) (p_cons (p_drop (r_call G_need_modulus hG (hr.mono (by decide)) (by rfl) T.m_need_modulus T.f_need_modulus.kp T.k_need_modulus (fun σ => passAt (takes_of rfl rfl rfl rfl) σ) (r_acons (r_var 1 (ta := tVar 1) (pv 1)) r_anil) rfl)) (p_cons (p_if (r_not (r_tval (r_call G_is_tuple_of_lots hG (hr.mono (by decide)) (by rfl) T.m_is_tuple_of_lots T.f_is_tuple_of_lots.kp T.k_is_tuple_of_lots (fun σ => passAt (takes_of rfl rfl rfl rfl) σ) (r_acons (r_var 0 (ta := tVar 0) (pv 0)) (r_acons (r_var 2 (ta := tVar 2) (pv 2)) r_anil)) rfl))) (p_one p_bad) p_nil) (p_cons (p_if (r_not (r_tval (r_call G_are_lists_over hG (hr.mono (by decide)) (by rfl) T.m_are_lists_over T.f_are_lists_over.kp T.k_are_lists_over (fun σ => passAt (takes_of rfl rfl rfl rfl) σ) (r_acons (r_var 0 (ta := tVar 0) (pv 0)) (r_acons (r_var 1 (ta := tVar 1) (pv 1)) (r_acons (r_var 2 (ta := tVar 2) (pv 2)) (r_acons (r_var 3 (ta := tVar 3) (pv 3)) r_anil)))) rfl))) (p_one p_bad) p_nil) (p_one (p_ret (r_callT c_tuple (by rfl) T.b_tuple bt_tuple (r_acons (r_frz (r_lc (own := [("world", 4)]) rfl nd (r_B (r_items (r_call G_worlds hG (hr.mono (by decide)) (by rfl) T.m_worlds T.f_worlds.kp T.k_worlds (fun σ => passAt (takes_of rfl rfl rfl rfl) σ) (r_acons (r_var 0 (ta := tVar 0) (pv 0)) r_anil) rfl))) (blkOk_by (N := ["shape", "m", "lots", "lists", "world"]) (sc := defScope s_total) (by decide +kernel)) (fun _ _ _ _ _ => (pgN (pg_name nd (i := 4) (by rfl) (by first | exact .inl rfl | exact .inr rfl)))) (fun _ _ _ _ _ => r_pts_nil) (fun _ _ _ _ _ => (r_call G_met_sum hG (hr.mono (by decide)) (by rfl) T.m_met_sum T.f_met_sum.kp T.k_met_sum pass0' (r_acons (r_var 0 (ta := tVar 0) (pv 0)) (r_acons (r_var 1 (ta := tVar 1) (pv 1)) (r_acons (r_var 2 (ta := tVar 2) (pv 2)) (r_acons (r_var 3 (ta := tVar 3) (pv 3)) (r_acons (r_var 4 (ta := tVar 4) (pv 4)) r_anil))))) rfl)) (by decide))) r_anil))))))))
theorem ok__law_is_turned_right (T : Txt K mg) : FnG P w K mg base 7 T.a__law_is_turned_right T.d__law_is_turned_right ["deck", "shape", "m", "lots", "lists", "due"] (spF K 6 F__law_is_turned_right) := by
  have G__law_draw := ok__law_draw (P := P) (w := w) (base := base) T
  have G__law_entries := ok__law_entries (P := P) (w := w) (base := base) T
  have G__law_lots := ok__law_lots (P := P) (w := w) (base := base) T
  have G__law_pick := ok__law_pick (P := P) (w := w) (base := base) T
  have G__law_put_together := ok__law_put_together (P := P) (w := w) (base := base) T
  have G__law_times := ok__law_times (P := P) (w := w) (base := base) T
  have G__law_total := ok__law_total (P := P) (w := w) (base := base) T
  have G_is_list := ok_is_list (P := P) (w := w) (base := base) T
  have G_total := ok_total (P := P) (w := w) (base := base) T
  have nd := sc__law_is_turned_right.nd
  have h := fun b => @def_rule P w K mg base _ _ _ _ _ _ _ 6 B__law_is_turned_right T.f__law_is_turned_right sc__law_is_turned_right b
  have e : spF K ((["deck", "shape", "m", "lots", "lists", "due"] : List Str).length) (runF ((["deck", "shape", "m", "lots", "lists", "due", "whole", "half", "near", "far", "parts", "some", "others", "lot", "entries", "told"] : List Str).length) B__law_is_turned_right) = spF K 6 F__law_is_turned_right := rfl
  rw [e] at h
  refine h (fun cdv A outer z H0 E dk l I0 hG hr => ?_)
  have un := hr.un
  have hu0 : (A.deeper (envOfC "_law_is_turned_right" (defScope s__law_is_turned_right) z.heap.objs.size T.a__law_is_turned_right cdv)).units < cLine := by omega
  have hu1 : (A.deeper (envOfC "_law_is_turned_right" (defScope s__law_is_turned_right) z.heap.objs.size T.a__law_is_turned_right cdv)).units + 1 < cLine := by omega
  have hu8 : (A.deeper (envOfC "_law_is_turned_right" (defScope s__law_is_turned_right) z.heap.objs.size T.a__law_is_turned_right cdv)).units + 8 < cLine := by omega
  have hu64 : (A.deeper (envOfC "_law_is_turned_right" (defScope s__law_is_turned_right) z.heap.objs.size T.a__law_is_turned_right cdv)).units + 64 < cLine := by omega
  have hu128 : (A.deeper (envOfC "_law_is_turned_right" (defScope s__law_is_turned_right) z.heap.objs.size T.a__law_is_turned_right cdv)).units + 128 < cLine := by omega
  exact (p_cons (p_asg (r_tupRange1 rfl (by rfl) T.b_tuple (by rfl) T.b_range (r_callB c_len (by rfl) T.b_len PySem.boot_len (r_acons (r_var 1 (ta := tVar 1) (pv 1)) r_anil))) (pgN (pg_name nd (i := 6) (by rfl) (by first | exact .inl rfl | exact .inr rfl)))) (p_cons (p_if (r_tcmp (o_ne hu64) (r_callB (c_repr hG hu128) (by rfl) T.b_repr bt_repr (r_acons (r_call G_total hG (hr.mono (by decide)) (by rfl) T.m_total T.f_total.kp T.k_total (fun σ => passAt (takes_of rfl rfl rfl rfl) σ) (r_acons (r_var 1 (ta := tVar 1) (pv 1)) (r_acons (r_var 2 (ta := tVar 2) (pv 2)) (r_acons (r_revT (r_var 3 (ta := tVar 3) (pv 3))) (r_acons (r_revT (r_var 4 (ta := tVar 4) (pv 4))) r_anil)))) rfl) r_anil)) (r_callB (c_repr hG hu128) (by rfl) T.b_repr bt_repr (r_acons (r_var 5 (ta := tVar 5) (pv 5)) r_anil)) (nomark _)) (p_one (p_ret r_bl)) p_nil) (p_cons (p_asg (r_call G__law_draw hG (hr.mono (by decide)) (by rfl) T.m__law_draw T.f__law_draw.kp T.k__law_draw (fun σ => passAt (takes_of rfl rfl rfl rfl) σ) (r_acons (r_var 0 (ta := tVar 0) (pv 0)) (r_acons (r_op o_add (r_callB c_len (by rfl) T.b_len PySem.boot_len (r_acons (r_var 3 (ta := tVar 3) (pv 3)) r_anil)) r_int) r_anil)) rfl) (pgN (pg_name nd (i := 7) (by rfl) (by first | exact .inl rfl | exact .inr rfl)))) (p_cons (p_par2 rfl nd (i := 8) (j := 9) (by rfl) (by rfl) (by decide) (by rfl) (by rfl) (r_2val (r_call G_total hG (hr.mono (by decide)) (by rfl) T.m_total T.f_total.kp T.k_total (fun σ => passAt (takes_of rfl rfl rfl rfl) σ) (r_acons (r_var 1 (ta := tVar 1) (pv 1)) (r_acons (r_var 2 (ta := tVar 2) (pv 2)) (r_acons (r_slice (r_var 3 (ta := tVar 3) (pv 3)) r_pno (r_psome (r_var 7 (ta := tVar 7) (pv 7)))) (r_acons (r_slice (r_var 4 (ta := tVar 4) (pv 4)) r_pno (r_psome (r_var 7 (ta := tVar 7) (pv 7)))) r_anil)))) rfl) (r_2val (r_callK [3, 2, 1, 0] G_total hG (hr.mono (by decide)) (by rfl) T.m_total T.f_total.kp T.kw_total_3_2_1_0 (fun σ => passAt (takes_of rfl rfl rfl rfl) σ) (r_kcons (r_slice (r_var 4 (ta := tVar 4) (pv 4)) (r_psome (r_var 7 (ta := tVar 7) (pv 7))) r_pno) (r_kcons (r_slice (r_var 3 (ta := tVar 3) (pv 3)) (r_psome (r_var 7 (ta := tVar 7) (pv 7))) r_pno) (r_kcons (r_var 2 (ta := tVar 2) (pv 2)) (r_kcons (r_var 1 (ta := tVar 1) (pv 1)) r_knil))))) r_2nil)) (by rfl)) (p_cons (p_asg (r_tup (r_acons (r_call G__law_total hG (hr.mono (by decide)) (by rfl) T.m__law_total T.f__law_total.kp T.k__law_total (fun σ => passAt (takes_of rfl rfl rfl rfl) σ) (r_acons (r_var 1 (ta := tVar 1) (pv 1)) (r_acons (r_var 2 (ta := tVar 2) (pv 2)) (r_acons (r_slice (r_var 3 (ta := tVar 3) (pv 3)) r_pno (r_psome (r_var 7 (ta := tVar 7) (pv 7)))) (r_acons (r_slice (r_var 4 (ta := tVar 4) (pv 4)) r_pno (r_psome (r_var 7 (ta := tVar 7) (pv 7)))) r_anil)))) rfl) (r_acons (r_call G__law_total hG (hr.mono (by decide)) (by rfl) T.m__law_total T.f__law_total.kp T.k__law_total (fun σ => passAt (takes_of rfl rfl rfl rfl) σ) (r_acons (r_var 1 (ta := tVar 1) (pv 1)) (r_acons (r_var 2 (ta := tVar 2) (pv 2)) (r_acons (r_slice (r_var 3 (ta := tVar 3) (pv 3)) (r_psome (r_var 7 (ta := tVar 7) (pv 7))) r_pno) (r_acons (r_slice (r_var 4 (ta := tVar 4) (pv 4)) (r_psome (r_var 7 (ta := tVar 7) (pv 7))) r_pno) r_anil)))) rfl) r_anil))) (pgN (pg_name nd (i := 10) (by rfl) (by first | exact .inl rfl | exact .inr rfl)))) (p_cons (p_if ((r_or (r_tcmp (o_ne hu64) (r_callB (c_repr hG hu128) (by rfl) T.b_repr bt_repr (r_acons (r_tup (r_acons (r_var 8 (ta := tVar 8) (pv 8)) (r_acons (r_var 9 (ta := tVar 9) (pv 9)) r_anil))) r_anil)) (r_callB (c_repr hG hu128) (by rfl) T.b_repr bt_repr (r_acons (r_var 10 (ta := tVar 10) (pv 10)) r_anil)) (nomark _)) (r_or1 (r_tcmp o_isnt (r_call G_is_list hG (hr.mono (by decide)) (by rfl) T.m_is_list T.f_is_list.kp T.k_is_list (fun σ => passAt (takes_of rfl rfl rfl rfl) σ) (r_acons (r_var 1 (ta := tVar 1) (pv 1)) (r_acons (r_var 2 (ta := tVar 2) (pv 2)) (r_acons (r_var 6 (ta := tVar 6) (pv 6)) (r_acons (r_var 8 (ta := tVar 8) (pv 8)) r_anil)))) rfl) r_bl (nomark _))))).pt (p_one (p_ret r_bl)) p_nil) (p_cons (p_if (r_tcmp (o_ne hu64) (r_callB (c_repr hG hu128) (by rfl) T.b_repr bt_repr (r_acons (r_call G_total hG (hr.mono (by decide)) (by rfl) T.m_total T.f_total.kp T.k_total (fun σ => passAt (takes_of rfl rfl rfl rfl) σ) (r_acons (r_var 1 (ta := tVar 1) (pv 1)) (r_acons (r_var 2 (ta := tVar 2) (pv 2)) (r_acons (r_tup (r_acons (r_var 6 (ta := tVar 6) (pv 6)) (r_acons (r_var 6 (ta := tVar 6) (pv 6)) r_anil))) (r_acons (r_var 10 (ta := tVar 10) (pv 10)) r_anil)))) rfl) r_anil)) (r_callB (c_repr hG hu128) (by rfl) T.b_repr bt_repr (r_acons (r_var 5 (ta := tVar 5) (pv 5)) r_anil)) (nomark _)) (p_one (p_ret r_bl)) p_nil) (p_cons (p_asg (r_call G__law_put_together hG (hr.mono (by decide)) (by rfl) T.m__law_put_together T.f__law_put_together.kp T.k__law_put_together (fun σ => passAt (takes_of rfl rfl rfl rfl) σ) (r_acons (r_var 2 (ta := tVar 2) (pv 2)) (r_acons (r_var 3 (ta := tVar 3) (pv 3)) (r_acons (r_var 4 (ta := tVar 4) (pv 4)) r_anil))) rfl) (pgT rfl (pgsC (pgN (pg_name nd (i := 11) (by rfl) (by first | exact .inl rfl | exact .inr rfl))) (pgsC (pgN (pg_name nd (i := 12) (by rfl) (by first | exact .inl rfl | exact .inr rfl))) pgsN)))) (p_cons (p_if (r_tcmp (o_ne hu64) (r_callB (c_repr hG hu128) (by rfl) T.b_repr bt_repr (r_acons (r_call G_total hG (hr.mono (by decide)) (by rfl) T.m_total T.f_total.kp T.k_total (fun σ => passAt (takes_of rfl rfl rfl rfl) σ) (r_acons (r_var 1 (ta := tVar 1) (pv 1)) (r_acons (r_var 2 (ta := tVar 2) (pv 2)) (r_acons (r_var 11 (ta := tVar 11) (pv 11)) (r_acons (r_var 12 (ta := tVar 12) (pv 12)) r_anil)))) rfl) r_anil)) (r_callB (c_repr hG hu128) (by rfl) T.b_repr bt_repr (r_acons (r_var 5 (ta := tVar 5) (pv 5)) r_anil)) (nomark _)) (p_one (p_ret r_bl)) p_nil) (p_cons (p_asg (r_call G__law_pick hG (hr.mono (by decide)) (by rfl) T.m__law_pick T.f__law_pick.kp T.k__law_pick (fun σ => passAt (takes_of rfl rfl rfl rfl) σ) (r_acons (r_var 0 (ta := tVar 0) (pv 0)) (r_acons (r_call G__law_lots hG (hr.mono (by decide)) (by rfl) T.m__law_lots T.f__law_lots.kp T.k__law_lots (fun σ => passAt (takes_of rfl rfl rfl rfl) σ) (r_acons (r_callB c_len (by rfl) T.b_len PySem.boot_len (r_acons (r_var 1 (ta := tVar 1) (pv 1)) r_anil)) r_anil) rfl) r_anil)) rfl) (pgN (pg_name nd (i := 13) (by rfl) (by first | exact .inl rfl | exact .inr rfl)))) (p_cons (p_asg (r_call G__law_entries hG (hr.mono (by decide)) (by rfl) T.m__law_entries T.f__law_entries.kp T.k__law_entries (fun σ => passAt (takes_of rfl rfl rfl rfl) σ) (r_acons (r_var 0 (ta := tVar 0) (pv 0)) (r_acons (r_var 1 (ta := tVar 1) (pv 1)) (r_acons (r_var 2 (ta := tVar 2) (pv 2)) (r_acons (r_var 13 (ta := tVar 13) (pv 13)) (r_acons (r_op o_pow r_int r_int) r_anil))))) rfl) (pgN (pg_name nd (i := 14) (by rfl) (by first | exact .inl rfl | exact .inr rfl)))) (p_cons (p_asg (r_call G_total hG (hr.mono (by decide)) (by rfl) T.m_total T.f_total.kp T.k_total (fun σ => passAt (takes_of rfl rfl rfl rfl) σ) (r_acons (r_var 1 (ta := tVar 1) (pv 1)) (r_acons (r_var 2 (ta := tVar 2) (pv 2)) (r_acons (r_op o_add (r_op o_add (r_tup (r_acons (r_var 13 (ta := tVar 13) (pv 13)) r_anil)) (r_var 3 (ta := tVar 3) (pv 3))) (r_tup (r_acons (r_var 13 (ta := tVar 13) (pv 13)) r_anil))) (r_acons (r_op o_add (r_op o_add (r_tup (r_acons (r_var 14 (ta := tVar 14) (pv 14)) r_anil)) (r_var 4 (ta := tVar 4) (pv 4))) (r_tup (r_acons (r_call G__law_times hG (hr.mono (by decide)) (by rfl) T.m__law_times T.f__law_times.kp T.k__law_times (fun σ => passAt (takes_of rfl rfl rfl rfl) σ) (r_acons (r_var 2 (ta := tVar 2) (pv 2)) (r_acons (r_neg r_int) (r_acons (r_var 14 (ta := tVar 14) (pv 14)) r_anil))) rfl) r_anil))) r_anil)))) rfl) (pgN (pg_name nd (i := 15) (by rfl) (by first | exact .inl rfl | exact .inr rfl)))) (p_one (p_ret (r_cmp (o_eq hu64) (r_callB (c_repr hG hu128) (by rfl) T.b_repr bt_repr (r_acons (r_var 15 (ta := tVar 15) (pv 15)) r_anil)) (r_callB (c_repr hG hu128) (by rfl) T.b_repr bt_repr (r_acons (r_var 5 (ta := tVar 5) (pv 5)) r_anil)) (nomark _))))))))))))))))
theorem ok_law (T : Txt K mg) (math : ∀ s : Dk, s.left.length ≤ 63 → ∃ s', B_law (lawEnv 18) s = .ok (.rt (.bl true)) s') : FnG P w K mg base 8 T.a_law T.d_law ["script"] (spLaw K) := by
  have G__law_deck := ok__law_deck (P := P) (w := w) (base := base) T
  have G__law_divisor := ok__law_divisor (P := P) (w := w) (base := base) T
  have G__law_draw := ok__law_draw (P := P) (w := w) (base := base) T
  have G__law_entries := ok__law_entries (P := P) (w := w) (base := base) T
  have G__law_is_turned_right := ok__law_is_turned_right (P := P) (w := w) (base := base) T
  have G__law_lots := ok__law_lots (P := P) (w := w) (base := base) T
  have G__law_modulus := ok__law_modulus (P := P) (w := w) (base := base) T
  have G__law_pick := ok__law_pick (P := P) (w := w) (base := base) T
  have G__law_shape := ok__law_shape (P := P) (w := w) (base := base) T
  have G__law_spread := ok__law_spread (P := P) (w := w) (base := base) T
  have G__law_times := ok__law_times (P := P) (w := w) (base := base) T
  have G__law_total := ok__law_total (P := P) (w := w) (base := base) T
  have G_spread := ok_spread (P := P) (w := w) (base := base) T
  have G_total := ok_total (P := P) (w := w) (base := base) T
  have nd := sc_law.nd
  refine fng_of (k := 7) T.f_law sc_law (fun vs H Q E h => ?_) fun cdv A outer z H vs Q E hG hr h => ?_
  · obtain ⟨a, ns, e, _⟩ := h
    rw [e]; rfl
  · obtain ⟨a, ns, e, hS, hl, q⟩ := h
    subst e
    have un := hr.un
    have hu0 : (A.deeper (envOfC "law" (defScope s_law) z.heap.objs.size T.a_law cdv)).units < cLine := by omega
    have hu1 : (A.deeper (envOfC "law" (defScope s_law) z.heap.objs.size T.a_law cdv)).units + 1 < cLine := by omega
    have hu8 : (A.deeper (envOfC "law" (defScope s_law) z.heap.objs.size T.a_law cdv)).units + 8 < cLine := by omega
    have hu64 : (A.deeper (envOfC "law" (defScope s_law) z.heap.objs.size T.a_law cdv)).units + 64 < cLine := by omega
    have hu128 : (A.deeper (envOfC "law" (defScope s_law) z.heap.objs.size T.a_law cdv)).units + 128 < cLine := by omega
    refine ⟨_, pss_cons (ps_set (i := 1) nd rfl (by first | exact .inl rfl | exact .inr rfl) (pe_callG (W := WF E) G__law_deck hG (hr.mono (by decide)) (by rfl) T.m__law_deck T.f__law_deck.kp T.k__law_deck (fun σ => passAt (takes_of rfl rfl rfl rfl) σ) (pa_cons (pv 0) (pa_cons pe_int pa_nil))))
      (pss_any (W := WF E) (B := B_law) fun dk l I0 H0 => (p_cons (p_asg2 (r_2val (r_call G__law_shape hG (hr.mono (by decide)) (by rfl) T.m__law_shape T.f__law_shape.kp T.k__law_shape (fun σ => passAt (takes_of rfl rfl rfl rfl) σ) (r_acons (r_var 1 (ta := tVar 1) (pv 1)) (r_acons r_int r_anil)) rfl) (r_2val (r_call G__law_modulus hG (hr.mono (by decide)) (by rfl) T.m__law_modulus T.f__law_modulus.kp T.k__law_modulus (fun σ => passAt (takes_of rfl rfl rfl rfl) σ) (r_acons (r_var 1 (ta := tVar 1) (pv 1)) r_anil) rfl) r_2nil)) (pgM rfl (pgmC (pg_name nd (i := 2) (by rfl) (by first | exact .inl rfl | exact .inr rfl)) (pgmC (pg_name nd (i := 3) (by rfl) (by first | exact .inl rfl | exact .inr rfl)) pgmN)))) (p_cons (p_asg (r_callT c_tuple (by rfl) T.b_tuple bt_tuple (r_acons (r_frz (r_lc (own := [("turn", 16)]) rfl nd (r_B (r_range1 (by rfl) T.b_range (r_acons (r_call G__law_draw hG (hr.mono (by decide)) (by rfl) T.m__law_draw T.f__law_draw.kp T.k__law_draw (fun σ => passAt (takes_of rfl rfl rfl rfl) σ) (r_acons (r_var 1 (ta := tVar 1) (pv 1)) (r_acons r_int r_anil)) rfl) r_anil))) (blkOk_by (N := ["script", "deck", "shape", "m", "lots", "size", "lists", "due", "k", "low", "much", "less", "near", "lot", "entries", "table", "turn", "it"]) (sc := defScope s_law) (by decide +kernel)) (fun _ _ _ _ _ => (pgN (pg_name nd (i := 16) (by rfl) (by first | exact .inl rfl | exact .inr rfl)))) (fun _ _ _ _ _ => r_pts_nil) (fun _ _ _ _ _ => (r_call G__law_pick hG (hr.mono (by decide)) (by rfl) T.m__law_pick T.f__law_pick.kp T.k__law_pick pass0' (r_acons (r_var 1 (ta := tVar 1) (pv 1)) (r_acons (r_call G__law_lots hG (hr.mono (by decide)) (by rfl) T.m__law_lots T.f__law_lots.kp T.k__law_lots pass0' (r_acons (r_callB c_len (by rfl) T.b_len PySem.boot_len (r_acons (r_var 2 (ta := tVar 2) (pv 2)) r_anil)) r_anil) rfl) r_anil)) rfl)) (by decide))) r_anil)) (pgN (pg_name nd (i := 4) (by rfl) (by first | exact .inl rfl | exact .inr rfl)))) (p_cons (p_asg (r_call G__law_pick hG (hr.mono (by decide)) (by rfl) T.m__law_pick T.f__law_pick.kp T.k__law_pick (fun σ => passAt (takes_of rfl rfl rfl rfl) σ) (r_acons (r_var 1 (ta := tVar 1) (pv 1)) (r_acons (r_frz (r_lst (r_acons r_int (r_acons r_int (r_acons (r_op o_pow r_int r_int) r_anil))))) r_anil)) rfl) (pgN (pg_name nd (i := 5) (by rfl) (by first | exact .inl rfl | exact .inr rfl)))) (p_cons (p_asg (r_callT c_tuple (by rfl) T.b_tuple bt_tuple (r_acons (r_frz (r_lc (own := [("lot", 13)]) rfl nd (r_B (r_items (r_var 4 (ta := tVar 4) (pv 4)))) (blkOk_by (N := ["script", "deck", "shape", "m", "lots", "size", "lists", "due", "k", "low", "much", "less", "near", "lot", "entries", "table", "turn", "it"]) (sc := defScope s_law) (by decide +kernel)) (fun _ _ _ _ _ => (pgN (pg_name nd (i := 13) (by rfl) (by first | exact .inl rfl | exact .inr rfl)))) (fun _ _ _ _ _ => r_pts_nil) (fun _ _ _ _ _ => (r_call G__law_entries hG (hr.mono (by decide)) (by rfl) T.m__law_entries T.f__law_entries.kp T.k__law_entries pass0' (r_acons (r_var 1 (ta := tVar 1) (pv 1)) (r_acons (r_var 2 (ta := tVar 2) (pv 2)) (r_acons (r_var 3 (ta := tVar 3) (pv 3)) (r_acons (r_var 13 (ta := tVar 13) (pv 13)) (r_acons (r_var 5 (ta := tVar 5) (pv 5)) r_anil))))) rfl)) (by decide))) r_anil)) (pgN (pg_name nd (i := 6) (by rfl) (by first | exact .inl rfl | exact .inr rfl)))) (p_cons (p_asg (r_call G__law_total hG (hr.mono (by decide)) (by rfl) T.m__law_total T.f__law_total.kp T.k__law_total (fun σ => passAt (takes_of rfl rfl rfl rfl) σ) (r_acons (r_var 2 (ta := tVar 2) (pv 2)) (r_acons (r_var 3 (ta := tVar 3) (pv 3)) (r_acons (r_var 4 (ta := tVar 4) (pv 4)) (r_acons (r_var 6 (ta := tVar 6) (pv 6)) r_anil)))) rfl) (pgN (pg_name nd (i := 7) (by rfl) (by first | exact .inl rfl | exact .inr rfl)))) (p_cons (p_if (r_tcmp (o_ne hu64) (r_callB (c_repr hG hu128) (by rfl) T.b_repr bt_repr (r_acons (r_tup (r_acons (r_call G_total hG (hr.mono (by decide)) (by rfl) T.m_total T.f_total.kp T.k_total (fun σ => passAt (takes_of rfl rfl rfl rfl) σ) (r_acons (r_var 2 (ta := tVar 2) (pv 2)) (r_acons (r_var 3 (ta := tVar 3) (pv 3)) (r_acons (r_var 4 (ta := tVar 4) (pv 4)) (r_acons (r_var 6 (ta := tVar 6) (pv 6)) r_anil)))) rfl) (r_acons (r_callK [3, 1, 2, 0] G_total hG (hr.mono (by decide)) (by rfl) T.m_total T.f_total.kp T.kw_total_3_1_2_0 (fun σ => passAt (takes_of rfl rfl rfl rfl) σ) (r_kcons (r_var 6 (ta := tVar 6) (pv 6)) (r_kcons (r_var 3 (ta := tVar 3) (pv 3)) (r_kcons (r_var 4 (ta := tVar 4) (pv 4)) (r_kcons (r_var 2 (ta := tVar 2) (pv 2)) r_knil))))) r_anil))) r_anil)) (r_callB (c_repr hG hu128) (by rfl) T.b_repr bt_repr (r_acons (r_tup (r_acons (r_var 7 (ta := tVar 7) (pv 7)) (r_acons (r_var 7 (ta := tVar 7) (pv 7)) r_anil))) r_anil)) (nomark _)) (p_one (p_ret r_bl)) p_nil) (p_cons (p_if (r_not (r_tval (r_call G__law_is_turned_right hG (hr.mono (by decide)) (by rfl) T.m__law_is_turned_right T.f__law_is_turned_right.kp T.k__law_is_turned_right (fun σ => passAt (takes_of rfl rfl rfl rfl) σ) (r_acons (r_var 1 (ta := tVar 1) (pv 1)) (r_acons (r_var 2 (ta := tVar 2) (pv 2)) (r_acons (r_var 3 (ta := tVar 3) (pv 3)) (r_acons (r_var 4 (ta := tVar 4) (pv 4)) (r_acons (r_var 6 (ta := tVar 6) (pv 6)) (r_acons (r_var 7 (ta := tVar 7) (pv 7)) r_anil)))))) rfl))) (p_one (p_ret r_bl)) p_nil) (p_cons (p_asg2 (r_2val (r_op o_sub (r_call G__law_draw hG (hr.mono (by decide)) (by rfl) T.m__law_draw T.f__law_draw.kp T.k__law_draw (fun σ => passAt (takes_of rfl rfl rfl rfl) σ) (r_acons (r_var 1 (ta := tVar 1) (pv 1)) (r_acons r_int r_anil)) rfl) r_int) (r_2val (r_call G__law_divisor hG (hr.mono (by decide)) (by rfl) T.m__law_divisor T.f__law_divisor.kp T.k__law_divisor (fun σ => passAt (takes_of rfl rfl rfl rfl) σ) (r_acons (r_var 1 (ta := tVar 1) (pv 1)) (r_acons (r_var 3 (ta := tVar 3) (pv 3)) r_anil)) rfl) r_2nil)) (pgM rfl (pgmC (pg_name nd (i := 8) (by rfl) (by first | exact .inl rfl | exact .inr rfl)) (pgmC (pg_name nd (i := 9) (by rfl) (by first | exact .inl rfl | exact .inr rfl)) pgmN)))) (p_cons (p_par2 rfl nd (i := 10) (j := 11) (by rfl) (by rfl) (by decide) (by rfl) (by rfl) (r_2val (r_callT c_tuple (by rfl) T.b_tuple bt_tuple (r_acons (r_frz (r_lc (own := [("it", 17)]) rfl nd (r_B (r_items (r_var 6 (ta := tVar 6) (pv 6)))) (blkOk_by (N := ["script", "deck", "shape", "m", "lots", "size", "lists", "due", "k", "low", "much", "less", "near", "lot", "entries", "table", "turn", "it"]) (sc := defScope s_law) (by decide +kernel)) (fun _ _ _ _ _ => (pgN (pg_name nd (i := 17) (by rfl) (by first | exact .inl rfl | exact .inr rfl)))) (fun _ _ _ _ _ => r_pts_nil) (fun _ _ _ _ _ => (r_call G__law_times hG (hr.mono (by decide)) (by rfl) T.m__law_times T.f__law_times.kp T.k__law_times pass0' (r_acons (r_var 3 (ta := tVar 3) (pv 3)) (r_acons (r_var 8 (ta := tVar 8) (pv 8)) (r_acons (r_var 17 (ta := tVar 17) (pv 17)) r_anil))) rfl)) (by decide))) r_anil)) (r_2val (r_callT c_tuple (by rfl) T.b_tuple bt_tuple (r_acons (r_frz (r_lc (own := [("it", 17)]) rfl nd (r_B (r_items (r_var 6 (ta := tVar 6) (pv 6)))) (blkOk_by (N := ["script", "deck", "shape", "m", "lots", "size", "lists", "due", "k", "low", "much", "less", "near", "lot", "entries", "table", "turn", "it"]) (sc := defScope s_law) (by decide +kernel)) (fun _ _ _ _ _ => (pgN (pg_name nd (i := 17) (by rfl) (by first | exact .inl rfl | exact .inr rfl)))) (fun _ _ _ _ _ => r_pts_nil) (fun _ _ _ _ _ => (r_call G__law_times hG (hr.mono (by decide)) (by rfl) T.m__law_times T.f__law_times.kp T.k__law_times pass0' (r_acons (r_var 9 (ta := tVar 9) (pv 9)) (r_acons r_int (r_acons (r_var 17 (ta := tVar 17) (pv 17)) r_anil))) rfl)) (by decide))) r_anil)) r_2nil)) (by rfl)) (p_cons (p_if (r_tcmp (o_ne hu64) (r_callB (c_repr hG hu128) (by rfl) T.b_repr bt_repr (r_acons (r_tup (r_acons (r_call G_total hG (hr.mono (by decide)) (by rfl) T.m_total T.f_total.kp T.k_total (fun σ => passAt (takes_of rfl rfl rfl rfl) σ) (r_acons (r_var 2 (ta := tVar 2) (pv 2)) (r_acons (r_var 3 (ta := tVar 3) (pv 3)) (r_acons (r_var 4 (ta := tVar 4) (pv 4)) (r_acons (r_var 10 (ta := tVar 10) (pv 10)) r_anil)))) rfl) (r_acons (r_call G_total hG (hr.mono (by decide)) (by rfl) T.m_total T.f_total.kp T.k_total (fun σ => passAt (takes_of rfl rfl rfl rfl) σ) (r_acons (r_var 2 (ta := tVar 2) (pv 2)) (r_acons (r_var 9 (ta := tVar 9) (pv 9)) (r_acons (r_var 4 (ta := tVar 4) (pv 4)) (r_acons (r_var 11 (ta := tVar 11) (pv 11)) r_anil)))) rfl) r_anil))) r_anil)) (r_callB (c_repr hG hu128) (by rfl) T.b_repr bt_repr (r_acons (r_tup (r_acons (r_call G__law_times hG (hr.mono (by decide)) (by rfl) T.m__law_times T.f__law_times.kp T.k__law_times (fun σ => passAt (takes_of rfl rfl rfl rfl) σ) (r_acons (r_var 3 (ta := tVar 3) (pv 3)) (r_acons (r_var 8 (ta := tVar 8) (pv 8)) (r_acons (r_var 7 (ta := tVar 7) (pv 7)) r_anil))) rfl) (r_acons (r_call G__law_times hG (hr.mono (by decide)) (by rfl) T.m__law_times T.f__law_times.kp T.k__law_times (fun σ => passAt (takes_of rfl rfl rfl rfl) σ) (r_acons (r_var 9 (ta := tVar 9) (pv 9)) (r_acons r_int (r_acons (r_var 7 (ta := tVar 7) (pv 7)) r_anil))) rfl) r_anil))) r_anil)) (nomark _)) (p_one (p_ret r_bl)) p_nil) (p_cons (p_if (r_tcmp (o_ne hu64) (r_callB (c_repr hG hu128) (by rfl) T.b_repr bt_repr (r_acons (r_call G_total hG (hr.mono (by decide)) (by rfl) T.m_total T.f_total.kp T.k_total (fun σ => passAt (takes_of rfl rfl rfl rfl) σ) (r_acons (r_var 2 (ta := tVar 2) (pv 2)) (r_acons (r_var 3 (ta := tVar 3) (pv 3)) (r_acons (r_tup r_anil) (r_acons (r_tup r_anil) r_anil)))) rfl) r_anil)) (r_callB (c_repr hG hu128) (by rfl) T.b_repr bt_repr (r_acons (r_op o_mulT (r_tup (r_acons r_int r_anil)) (r_callB c_len (by rfl) T.b_len PySem.boot_len (r_acons (r_var 7 (ta := tVar 7) (pv 7)) r_anil))) r_anil)) (nomark _)) (p_one (p_ret r_bl)) p_nil) (p_cons (p_if (r_tcmp (o_ne hu64) (r_var 4 (ta := tVar 4) (pv 4)) (r_tup r_anil) (nomark _)) (p_cons (p_asg (r_op o_add (r_tup (r_acons (r_tupRange1 rfl (by rfl) T.b_tuple (by rfl) T.b_range (r_callB c_len (by rfl) T.b_len PySem.boot_len (r_acons (r_var 2 (ta := tVar 2) (pv 2)) r_anil))) r_anil)) (r_slice (r_var 4 (ta := tVar 4) (pv 4)) (r_psome r_int) r_pno)) (pgN (pg_name nd (i := 12) (by rfl) (by first | exact .inl rfl | exact .inr rfl)))) (p_one (p_if (r_tcmp (o_ne hu64) (r_callB (c_repr hG hu128) (by rfl) T.b_repr bt_repr (r_acons (r_call G_total hG (hr.mono (by decide)) (by rfl) T.m_total T.f_total.kp T.k_total (fun σ => passAt (takes_of rfl rfl rfl rfl) σ) (r_acons (r_var 2 (ta := tVar 2) (pv 2)) (r_acons (r_var 3 (ta := tVar 3) (pv 3)) (r_acons (r_var 12 (ta := tVar 12) (pv 12)) (r_acons (r_op o_add (r_tup (r_acons (r_call G__law_spread hG (hr.mono (by decide)) (by rfl) T.m__law_spread T.f__law_spread.kp T.k__law_spread (fun σ => passAt (takes_of rfl rfl rfl rfl) σ) (r_acons (r_var 2 (ta := tVar 2) (pv 2)) (r_acons (r_ix hu1 (r_var 4 (ta := tVar 4) (pv 4)) r_int (fun _ _ => rfl)) (r_acons (r_ix hu1 (r_var 6 (ta := tVar 6) (pv 6)) r_int (fun _ _ => rfl)) r_anil))) rfl) r_anil)) (r_slice (r_var 6 (ta := tVar 6) (pv 6)) (r_psome r_int) r_pno)) r_anil)))) rfl) r_anil)) (r_callB (c_repr hG hu128) (by rfl) T.b_repr bt_repr (r_acons (r_var 7 (ta := tVar 7) (pv 7)) r_anil)) (nomark _)) (p_one (p_ret r_bl)) p_nil))) p_nil) (p_cons (p_for (passes_of rfl) rfl (r_items (r_slice (r_frz (r_listZip rfl (by rfl) T.b_list (by rfl) T.b_zip (r_acons (r_var 4 (ta := tVar 4) (pv 4)) (r_acons (r_var 6 (ta := tVar 6) (pv 6)) r_anil)))) r_pno (r_psome r_int))) (pgT rfl (pgsC (pgN (pg_name nd (i := 13) (by rfl) (by first | exact .inl rfl | exact .inr rfl))) (pgsC (pgN (pg_name nd (i := 14) (by rfl) (by first | exact .inl rfl | exact .inr rfl))) pgsN))) (p_cons (p_asg (r_call G__law_spread hG (hr.mono (by decide)) (by rfl) T.m__law_spread T.f__law_spread.kp T.k__law_spread (fun σ => passAt (takes_of rfl rfl rfl rfl) σ) (r_acons (r_var 2 (ta := tVar 2) (pv 2)) (r_acons (r_var 13 (ta := tVar 13) (pv 13)) (r_acons (r_var 14 (ta := tVar 14) (pv 14)) r_anil))) rfl) (pgN (pg_name nd (i := 15) (by rfl) (by first | exact .inl rfl | exact .inr rfl)))) (p_one (p_if (r_tcmp (o_ne hu64) (r_callB (c_repr hG hu128) (by rfl) T.b_repr bt_repr (r_acons (r_tup (r_acons (r_call G_total hG (hr.mono (by decide)) (by rfl) T.m_total T.f_total.kp T.k_total (fun σ => passAt (takes_of rfl rfl rfl rfl) σ) (r_acons (r_var 2 (ta := tVar 2) (pv 2)) (r_acons (r_var 3 (ta := tVar 3) (pv 3)) (r_acons (r_tup (r_acons (r_var 13 (ta := tVar 13) (pv 13)) r_anil)) (r_acons (r_tup (r_acons (r_var 14 (ta := tVar 14) (pv 14)) r_anil)) r_anil)))) rfl) (r_acons (r_call G_spread hG (hr.mono (by decide)) (by rfl) T.m_spread T.f_spread.kp T.k_spread (fun σ => passAt (takes_of rfl rfl rfl rfl) σ) (r_acons (r_var 2 (ta := tVar 2) (pv 2)) (r_acons (r_var 3 (ta := tVar 3) (pv 3)) (r_acons (r_var 13 (ta := tVar 13) (pv 13)) (r_acons (r_var 14 (ta := tVar 14) (pv 14)) r_anil)))) rfl) r_anil))) r_anil)) (r_callB (c_repr hG hu128) (by rfl) T.b_repr bt_repr (r_acons (r_tup (r_acons (r_var 15 (ta := tVar 15) (pv 15)) (r_acons (r_var 15 (ta := tVar 15) (pv 15)) r_anil))) r_anil)) (nomark _)) (p_one (p_ret r_bl)) p_nil)))) (p_one (p_ret r_bl)))))))))))))))), ?_⟩
    refine ⟨.ref a, rfl, a, ns, 13738004, rfl, hS, hl, fun H' dk l s _ h1 h2 h3 => ?_⟩
    exact @law_start' K (WF E) B_law 18 _ a dk l H' s _ rfl (by decide) h1 h2 (math s h3) q
end
end K04

end

section
set_option maxRecDepth 100000
namespace K04
open PySem PySem.Spec PyProof.Rows L2 PV
/-- the last part of a draw -/
theorem draw_tail (n : Int) (h0 : 0 < n) (v : Slot) (s : Dk) : ∃ r, Ev ((sSeq (sAsg (.nm 3) (eOp modD (eMapA (g1 intD) (eAcons (eOp addD (eDkI 0 .mixed) (eOp mulD (eC (.int 31337)) (eDkI 0 .draws))) eAnil)) (eC (.int 2147483647)))) (sSeq (sAsg (.nm 3) (eOp modD (eMapA (g1 intD) (eAcons (eOp addD (eOp addD (eOp mulD (eVar 3) (eVar 3)) (eOp mulD (eC (.int 48271)) (eDkI 0 .draws))) (eC (.int 17))) eAnil)) (eC (.int 2147483629)))) (sSeq (sAsg (.nm 3) (eOp modD (eMapA (g1 intD) (eAcons (eOp addD (eOp mulD (eVar 3) (eC (.int 69621))) (eC (.int 77))) eAnil)) (eC (.int 2147483563)))) (sRet (eOp modD (eMapA (g1 intD) (eAcons (eOp fdivD (eVar 3) (eC (.int 64))) eAnil)) (eVar 1)))))) [Slot.val D.deck, Slot.val (D.int n), v, Slot.no]) s (.rt (.int r)) s ∧ 0 ≤ r ∧ r < n := by
  refine ⟨_, ev_seq (ev_asgN (ev_iop (ev_int1 (ev_iop (ev_dkI rfl) (ev_iop ev_c (ev_dkI rfl) (mulD_l (by decide))) rfl)) ev_c (modD_i (by decide))))
    (ev_seq (ev_asgN (ev_iop (ev_int1 (ev_iop (ev_iop (ev_iop (ev_var rfl) (ev_var rfl) (mulD_l (fmod_small (by decide) (by decide)))) (ev_iop ev_c (ev_dkI rfl) (mulD_l (by decide))) rfl) ev_c rfl)) ev_c (modD_i (by decide))))
    (ev_seq (ev_asgN (ev_iop (ev_int1 (ev_iop (ev_iop (ev_var rfl) ev_c (mulD_r (by decide))) ev_c rfl)) ev_c (modD_i (by decide))))
    (ev_rt (ev_iop (ev_int1 (ev_iop (ev_var rfl) ev_c (fdivD_i (by decide)))) (ev_var rfl) (modD_i (by omega)))))), ?_, ?_⟩
  · exact Int.fmod_nonneg_of_pos _ h0
  · exact Int.fmod_lt_of_pos _ h0
theorem draw_ok (n : Int) (h0 : 0 < n) (h1 : n < 1073741824) (s : Dk) (hl : s.left.length ≤ 63) : ∃ r s', Ev (F__law_draw [.deck, .int n]) s (.int r) s' ∧ 0 ≤ r ∧ r < n ∧ s'.left.length ≤ 63 := by
  have first : Ev ((sDkSet 0 .draws (eOp addD (eDkI 0 .draws) (eC (.int 1)))) [Slot.val D.deck, Slot.val (D.int n), Slot.no, Slot.no]) s (.nx [Slot.val D.deck, Slot.val (D.int n), Slot.no, Slot.no]) { s with draws := s.draws + 1 } := ev_dkSet (ev_iop (ev_dkI rfl) ev_c rfl) rfl
  cases hz : s.left.getLast? with
  | none =>
    have he : s.left = [] := List.getLast?_eq_none_iff.mp hz
    obtain ⟨r, e, r0, r1⟩ := draw_tail n h0 Slot.no { s with draws := s.draws + 1 }
    exact ⟨r, _, ev_run (ev_seq first (ev_seq (ev_sif (ev_dkNe rfl) (fun h => by simp [he] at h) (fun _ => ev_next)) e)), r0, r1, hl⟩
  | some c =>
    have hne : s.left ≠ [] := fun z => by rw [z] at hz; cases hz
    have hdl : s.left.dropLast.length = s.left.length - 1 := List.length_dropLast
    have hpos : 0 < s.left.length := List.length_pos_iff.mpr hne
    have pop : Ev (sAsg (.nm 2) (eDkPop 0) [Slot.val D.deck, Slot.val (D.int n), Slot.no, Slot.no]) { s with draws := s.draws + 1 } (.nx [Slot.val D.deck, Slot.val (D.int n), Slot.val (D.int c), Slot.no]) { s with draws := s.draws + 1, left := s.left.dropLast } := ev_asgN (ev_dkPop rfl hz)
    have test : Ev (tVal (eOp geD (eVar 2) (eOp powD (eC (.int 10)) (eC (.int 18)))) [Slot.val D.deck, Slot.val (D.int n), Slot.val (D.int c), Slot.no]) { s with draws := s.draws + 1, left := s.left.dropLast } (decide (1000000000000000000 ≤ c)) { s with draws := s.draws + 1, left := s.left.dropLast } := ev_tval (ev_iop (ev_var rfl) (ev_iop ev_c ev_c rfl) rfl)
    by_cases hc : 1000000000000000000 ≤ c
    · refine ⟨c.fmod n, { s with draws := s.draws + 1, left := s.left.dropLast ++ [c.fdiv (if n > 2 then n else 2)] }, ev_run (ev_seq first (ev_seqR (ev_sif (ev_dkNe rfl) (fun _ => ev_seq pop (ev_seqR (ev_sif test (fun _ => ev_seq (ev_dkApp rfl (ev_iop (ev_var rfl) (ev_mapA (ev_acons ev_c (ev_acons (ev_var rfl) ev_anil)) rfl) (fdivD_i ?_)) ?_) (ev_rt (ev_iop (ev_int1 (ev_var rfl)) (ev_var rfl) (modD_i (by omega))))) (fun h => by simp [hc] at h)))) (fun h => by simp [hne] at h)))), Int.fmod_nonneg_of_pos _ h0, Int.fmod_lt_of_pos _ h0, ?_⟩
      · by_cases h2 : n > 2
        · rw [if_pos h2]; omega
        · rw [if_neg h2]; omega
      · show s.left.dropLast.length < size7
        have : size7 = 10000000 := rfl
        omega
      · show (s.left.dropLast ++ [c.fdiv (if n > 2 then n else 2)]).length ≤ 63
        rw [List.length_append, List.length_singleton]; omega
    · obtain ⟨r, e, r0, r1⟩ := draw_tail n h0 (Slot.val (D.int c)) { s with draws := s.draws + 1, left := s.left.dropLast, mixed := (s.mixed * 39373 + c.fmod 2147483629 + 13).fmod 2147483587 }
      refine ⟨r, _, ev_run (ev_seq first (ev_seq (ev_sif (ev_dkNe rfl) (fun _ => ev_seq pop (ev_seq (ev_sif test (fun h => absurd (of_decide_eq_true h) hc) (fun _ => ev_next)) (ev_dkSet (ev_iop (ev_int1 (ev_iop (ev_iop (ev_iop (ev_dkI rfl) ev_c (mulD_r (by decide))) (ev_iop (ev_int1 (ev_var rfl)) ev_c (modD_i (by decide))) rfl) ev_c rfl)) ev_c (modD_i (by decide))) rfl))) (fun h => by simp [hne] at h)) e)), r0, r1, ?_⟩
      show s.left.dropLast.length ≤ 63
      omega
theorem atI_nn {ds : List D} {r : Int} (h0 : 0 ≤ r) (h1 : r < ds.length) : ∃ d, d ∈ ds ∧ atI ds r = some d := by
  obtain ⟨k, rfl⟩ := Int.eq_ofNat_of_zero_le h0
  have hk : k < ds.length := by omega
  refine ⟨ds[k], List.getElem_mem hk, ?_⟩
  unfold atI ixN
  rw [if_pos h0, if_pos h1]
  simp [hk]
theorem pick_ok (ds : List D) (h : ds ≠ []) (hn : ds.length < 1073741824) (s : Dk) (hl : s.left.length ≤ 63) : ∃ d s', d ∈ ds ∧ Ev (F__law_pick [.deck, .lst ds]) s d s' ∧ s'.left.length ≤ 63 := by
  have hp : 0 < ds.length := List.length_pos_iff.mpr h
  obtain ⟨r, s', e, r0, r1, l1⟩ := draw_ok ds.length (by omega) (by omega) s hl
  obtain ⟨d, hd, hi⟩ := atI_nn r0 r1
  exact ⟨d, s', hd, ev_run (ev_rt (ev_iop (ev_var rfl) (ev_call (ev_acons (ev_var rfl) (ev_acons (ev_mapA (ev_acons (ev_var rfl) ev_anil) rfl) ev_anil)) rfl e) hi)), l1⟩
theorem ev_while1 {t : En → M Bool} {b : En → M Fl} {n : Nat} {env e : En} {s s1 s2 s3 : Dk} {f : Fl} (h1 : Ev (t env) s true s1) (h2 : Ev (b env) s1 (.nx e) s2) (h3 : Ev (whileM t b n e) s2 f s3) : Ev (whileM t b (n + 1) env) s f s3 := ev_bind h1 (by rw [if_pos rfl]; exact ev_bind h2 h3)
theorem ev_while0 {t : En → M Bool} {b : En → M Fl} {n : Nat} {env : En} {s s1 : Dk} (h1 : Ev (t env) s false s1) : Ev (whileM t b (n + 1) env) s (.nx env) s1 := ev_bind h1 (by rw [if_neg Bool.false_ne_true]; exact ev_ret)
abbrev gT : En → M Bool := tVal (eOp gtD (eVar 3) (eC (.int 0)))
abbrev gB : En → M Fl := sAsg2 [2, 3] (e2val (eOp addD (eOp mulD (eVar 2) (eOp powD (eC (.int 10)) (eC (.int 6)))) (eCall (cN 2 F__law_draw) (eAcons (eVar 0) (eAcons (eOp powD (eC (.int 10)) (eC (.int 6))) eAnil)))) (e2val (eOp fdivD (eVar 3) (eOp powD (eC (.int 10)) (eC (.int 6)))) e2nil))
theorem great_loop (m : Int) : ∀ (n : Nat) (f l : Int) (s : Dk), 0 ≤ l → l < 1000000 ^ n → s.left.length ≤ 63 → ∃ f' l' s', Ev (whileM gT gB (n + 1) [.val .deck, .val (.int m), .val (.int f), .val (.int l)]) s (.nx [.val .deck, .val (.int m), .val (.int f'), .val (.int l')]) s' ∧ s'.left.length ≤ 63
  | 0, f, l, s, h0, h1, hl => by
    have hz : l = 0 := by simp at h1; omega
    subst hz
    exact ⟨f, 0, s, ev_while0 (ev_tval (ev_iop (ev_var rfl) ev_c rfl)), hl⟩
  | n + 1, f, l, s, h0, h1, hl => by
    by_cases hp : 0 < l
    · obtain ⟨r, s', e, r0, r1, l1⟩ := draw_ok 1000000 (by decide) (by decide) s hl
      have hd : l.fdiv 1000000 = l / 1000000 := Int.fdiv_eq_ediv_of_nonneg l (by decide)
      have h2 : l.fdiv 1000000 < 1000000 ^ n := by
        rw [hd]
        refine Int.ediv_lt_of_lt_mul (by decide) ?_
        rw [Int.pow_succ] at h1
        exact h1
      have h3 : 0 ≤ l.fdiv 1000000 := by rw [hd]; exact Int.ediv_nonneg h0 (by decide)
      obtain ⟨f', l', s2, e2, l2⟩ := great_loop m n (f * 1000000 + r) (l.fdiv 1000000) s' h3 h2 l1
      refine ⟨f', l', s2, ev_while1 (ev_tval (ev_iop (ev_var rfl) ev_c (show gtD (.int l) (.int 0) = some (.bl true) by simp [gtD, hp]))) (ev_asg2 (xs := [.val (.int (f * 1000000 + r)), .val (.int (l.fdiv 1000000))]) (ev_2val (ev_iop (ev_iop (ev_var rfl) (ev_iop ev_c ev_c rfl) (mulD_r (by decide))) (ev_call (ev_acons (ev_var rfl) (ev_acons (ev_iop ev_c ev_c rfl) ev_anil)) rfl e) rfl) (ev_2val (ev_iop (ev_var rfl) (ev_iop ev_c ev_c rfl) (fdivD_i (by decide))) ev_2nil)) (show 2 ≤ 1000 by decide) rfl) e2, l2⟩
    · exact ⟨f, l, s, ev_while0 (ev_tval (ev_iop (ev_var rfl) ev_c (show gtD (.int l) (.int 0) = some (.bl false) by simp [gtD, hp]))), hl⟩
theorem great_ok (m : Int) (h0 : 0 < m) (h1 : m < 1000000 ^ 99) (s : Dk) (hl : s.left.length ≤ 63) : ∃ r s', Ev (F__law_great [.deck, .int m]) s (.int r) s' ∧ 0 ≤ r ∧ r < m ∧ s'.left.length ≤ 63 := by
  obtain ⟨f', l', s', e, l1⟩ := great_loop m 99 0 m s (by omega) h1 hl
  exact ⟨f'.fmod m, s', ev_run (ev_seq (ev_asg2 (xs := [.val (.int 0), .val (.int m)]) (ev_2val ev_c (ev_2val (ev_var rfl) ev_2nil)) (show 2 ≤ 1000 by decide) rfl) (ev_seq e (ev_rt (ev_iop (ev_int1 (ev_var rfl)) (ev_var rfl) (modD_i (by omega)))))), Int.fmod_nonneg_of_pos _ h0, Int.fmod_lt_of_pos _ h0, l1⟩
abbrev iL (ns : List Int) : List D := ns.map D.int
theorem small62_of {n : Int} (h0 : 0 ≤ n) (h1 : n ≤ 1000) : small62 n = true := by
  unfold small62
  simp only [Bool.and_eq_true, decide_eq_true_eq]
  omega
theorem upto_len (n : Int) : (upto n).length = n.toNat := by simp [upto]
/-- one place more -/
theorem words_step {sh lo : List D} {fd : List (List Int)} {pl n : Int} {z : Slot} {s : Dk} (hn : atI sh pl = some (.int n)) (h0 : 0 ≤ n) (h1 : n ≤ 1000) (hf : fd.length ≤ 1000) (hw : ∀ w ∈ fd, w.length ≤ 99) :
    Ev ((sAsg (.nm 2) (eFrz (eLc2 (eItems (eVar 2)) (.nm 4) [4, 5] tYes' (eMapI gRange1 (eAcons (eOp ixD (eVar 0) (eVar 3)) eAnil)) [5] (.nm 5) tYes' (eMapA gTupD (eAstar (eVar 4) (eAcons (eVar 5) eAnil)))))) [.val (.tup sh), .val (.tup lo), .val (.lst (fd.map tupI)), .val (.int pl), .no, .no]) s
      (.nx [.val (.tup sh), .val (.tup lo), .val (.lst ((grow fd n).map tupI)), .val (.int pl), .no, .no]) s := by
  rw [grow_map]
  refine ev_asgN (ev_frz (ev_clc2 (ev_items (ev_var rfl) rfl) (by rw [List.length_map]; exact hf) (ev_lc2Map _ fun d hd => ?_)))
  obtain ⟨w, hwm, rfl⟩ := List.mem_map.mp hd
  refine ⟨_, rangeD 0 n, rfl, ev_mapI (ev_acons (ev_iop (ev_var rfl) (ev_var rfl) hn) ev_anil) (show (if small62 n = true then some (rangeD 0 n) else none) = some (rangeD 0 n) from if_pos (small62_of h0 h1)), by rw [rangeD_upto, List.length_map, upto_len]; omega, ?_⟩
  rw [rangeD_upto]
  have := ev_lcMap (p := .nm 5) (e := eMapA gTupD (eAstar (eVar 4) (eAcons (eVar 5) eAnil))) (env := [.val (.tup sh), .val (.tup lo), .val (.lst (fd.map tupI)), .val (.int pl), .val (tupI w), .no]) (s := s) (fun d => .tup (w.map D.int ++ [d])) (ds := (upto n).map D.int) (fun d hd => ⟨_, rfl, ev_mapA (ev_astar (ev_var rfl) rfl (ev_acons (ev_var rfl) ev_anil)) (by
    show (if (w.map D.int ++ [d]).length ≤ 1000 then _ else _) = _
    rw [if_pos (by rw [List.length_append, List.length_map, List.length_singleton]; have := hw w hwm; omega)])⟩)
  rw [List.map_map] at this
  exact this
theorem grow_mem {fd : List (List Int)} {n : Int} {w : List Int} (h : w ∈ grow fd n) : ∃ v ∈ fd, ∃ x, w = v ++ [x] := by
  obtain ⟨v, hv, hx⟩ := List.mem_flatMap.mp h
  obtain ⟨x, _, rfl⟩ := List.mem_map.mp hx
  exact ⟨v, hv, x, rfl⟩
theorem words_loop {sh lo : List D} (g : Int → Int) : ∀ (lot : List Int) (fd : List (List Int)) (z : Slot) (k : Nat) (s : Dk), (∀ p ∈ lot, atI sh p = some (.int (g p)) ∧ 0 ≤ g p ∧ g p ≤ 1000) → (∀ j, j ≤ lot.length → (((lot.take j).map g).foldl grow fd).length ≤ 1000) → (∀ w ∈ fd, w.length ≤ k) → k + lot.length ≤ 99 →
    ∃ z', Ev (forM' (.nm 3) (sAsg (.nm 2) (eFrz (eLc2 (eItems (eVar 2)) (.nm 4) [4, 5] tYes' (eMapI gRange1 (eAcons (eOp ixD (eVar 0) (eVar 3)) eAnil)) [5] (.nm 5) tYes' (eMapA gTupD (eAstar (eVar 4) (eAcons (eVar 5) eAnil)))))) (iL lot) [.val (.tup sh), .val (.tup lo), .val (.lst (fd.map tupI)), z, .no, .no]) s
      (.nx [.val (.tup sh), .val (.tup lo), .val (.lst (((lot.map g).foldl grow fd).map tupI)), z', .no, .no]) s
  | [], fd, z, k, s, _, _, _, _ => ⟨z, ev_for0⟩
  | p :: lot, fd, z, k, s, hp, hl, hw, hk => by
    obtain ⟨h1, h2, h3⟩ := hp p List.mem_cons_self
    have hf : fd.length ≤ 1000 := hl 0 (Nat.zero_le _)
    have hkk : k + (lot.length + 1) ≤ 99 := hk
    obtain ⟨z', e⟩ := words_loop g lot (grow fd (g p)) (.val (.int p)) (k + 1) s (fun q hq => hp q (List.mem_cons_of_mem _ hq)) (fun j hj => by
      have := hl (j + 1) (by simp; omega)
      simpa using this) (fun w hm => by
      obtain ⟨v, hv, x, rfl⟩ := grow_mem hm
      have := hw v hv
      rw [List.length_append, List.length_singleton]; omega) (by omega)
    exact ⟨z', ev_for1 rfl (words_step (z := z) h1 h2 h3 hf fun w hm => by have := hw w hm; omega) e⟩
theorem words_over_ok {sh : List D} {lot : List Int} (g : Int → Int) (s : Dk) (hp : ∀ p ∈ lot, atI sh p = some (.int (g p)) ∧ 0 ≤ g p ∧ g p ≤ 1000) (hl : ∀ j, j ≤ lot.length → (wordsL ((lot.take j).map g)).length ≤ 1000) (hk : lot.length ≤ 99) :
    Ev (F_words_over [.tup sh, .tup (iL lot)]) s (.tup ((wordsL (lot.map g)).map tupI)) s := by
  obtain ⟨z', e⟩ := words_loop (sh := sh) (lo := iL lot) g lot [[]] .no 0 s hp hl (fun w hw => by simp at hw; subst hw; simp) (by omega)
  exact ev_run (ev_seq (ev_asgN (ev_frz (ev_mapO (ev_acons (ev_mapA ev_anil rfl) ev_anil) rfl))) (ev_seq (ev_for (ev_items (ev_var rfl) rfl) e) (ev_rt (ev_mapA (ev_acons (ev_var rfl) ev_anil) rfl))))
/-- the inner walk: longer grows by each world's next ones -/
theorem longer_loop {sh fo : D} {n : Int} (h0 : 0 ≤ n) (h1 : n ≤ 1000) : ∀ (fd lg : List (List Int)) (z : Slot) (s : Dk), lg.length + (grow fd n).length ≤ 100000 → (∀ w ∈ fd, w.length ≤ 99) →
    ∃ z', Ev (forM' (.nm 4) (sExtend 3 (eLc (eMapI gRange1 (eAcons (eVar 2) eAnil)) (.nm 5) [5] tYes' (eOp addD (eVar 4) (eMapA gTupD (eAcons (eVar 5) eAnil))))) (fd.map tupI) [.val sh, .val fo, .val (.int n), .own (.lst (lg.map tupI)), z, .no]) s
      (.nx [.val sh, .val fo, .val (.int n), .own (.lst ((lg ++ grow fd n).map tupI)), z', .no]) s
  | [], lg, z, s, _, _ => ⟨z, by rw [show grow [] n = [] from rfl, List.append_nil]; exact ev_for0⟩
  | w :: fd, lg, z, s, hl, hw => by
    have hg : grow (w :: fd) n = (upto n).map (fun x => w ++ [x]) ++ grow fd n := by simp [grow]
    rw [hg] at hl ⊢
    have hln : ((upto n).map fun x => w ++ [x]).length = n.toNat := by rw [List.length_map, upto_len]
    rw [List.length_append, hln] at hl
    obtain ⟨z', e⟩ := longer_loop h0 h1 fd (lg ++ (upto n).map fun x => w ++ [x]) (.val (tupI w)) s (by rw [List.length_append, hln]; omega) fun v hv => hw v (List.mem_cons_of_mem _ hv)
    rw [← List.append_assoc]
    refine ⟨z', ev_for1 rfl ?_ e⟩
    have inner := ev_lcMap (p := .nm 5) (e := eOp addD (eVar 4) (eMapA gTupD (eAcons (eVar 5) eAnil))) (env := [.val sh, .val fo, .val (.int n), .own (.lst (lg.map tupI)), .val (tupI w), .no]) (s := s) (fun d => .tup (w.map D.int ++ [d])) (ds := (upto n).map D.int) (fun d hd => ⟨_, rfl, ev_iop (ev_var rfl) (ev_mapA (ev_acons (ev_var rfl) ev_anil) rfl) (by
      show (if (w.map D.int).length + [d].length ≤ size7 then _ else _) = _
      rw [if_pos (by rw [List.length_map, List.length_singleton]; have := hw w List.mem_cons_self; have : size7 = 10000000 := rfl; omega)])⟩)
    have lc : Ev (eLc (eMapI gRange1 (eAcons (eVar 2) eAnil)) (.nm 5) [5] tYes' (eOp addD (eVar 4) (eMapA gTupD (eAcons (eVar 5) eAnil))) [.val sh, .val fo, .val (.int n), .own (.lst (lg.map tupI)), .val (tupI w), .no]) s (.lst (((upto n).map fun x => w ++ [x]).map tupI)) s := by
      have hm : ((upto n).map fun x => w ++ [x]).map tupI = ((upto n).map D.int).map fun d => .tup (w.map D.int ++ [d]) := by
        rw [List.map_map, List.map_map]
        exact List.map_congr_left fun x _ => tupI_snoc w x
      rw [hm]
      refine ev_lc (ds := rangeD 0 n) (ev_mapI (ev_acons (ev_var rfl) ev_anil) (show (if small62 n = true then some (rangeD 0 n) else none) = some (rangeD 0 n) from if_pos (small62_of h0 h1))) (by rw [rangeD_upto, List.length_map, upto_len]; have : size7 = 10000000 := rfl; omega) ?_
      rw [rangeD_upto]
      exact inner
    have ex := ev_extend (i := 3) (env := [.val sh, .val fo, .val (.int n), .own (.lst (lg.map tupI)), .val (tupI w), .no]) (ds := lg.map tupI) rfl lc (by rw [List.length_map, List.length_map, hln]; have : size7 = 10000000 := rfl; omega)
    rw [← List.map_append] at ex
    exact ex
theorem worlds_loop {sh : D} : ∀ (ns : List Int) (fd : List (List Int)) (z2 z3 z4 : Slot) (k : Nat) (s : Dk), (∀ n ∈ ns, 0 ≤ n ∧ n ≤ 1000) → (∀ j, j ≤ ns.length → ((ns.take j).foldl grow fd).length ≤ 100000) → (∀ w ∈ fd, w.length ≤ k) → k + ns.length ≤ 99 →
    ∃ z2' z3' z4', Ev (forM' (.nm 2) (sSeq (sAsgO 3 (eMapO gLstO eAnil)) (sSeq (sFor (eItems (eVar 1)) (.nm 4) (sExtend 3 (eLc (eMapI gRange1 (eAcons (eVar 2) eAnil)) (.nm 5) [5] tYes' (eOp addD (eVar 4) (eMapA gTupD (eAcons (eVar 5) eAnil)))))) (sFrz [3] (sAsg (.nm 1) (eVar 3))))) (iL ns) [.val sh, .val (.lst (fd.map tupI)), z2, z3, z4, .no]) s
      (.nx [.val sh, .val (.lst ((ns.foldl grow fd).map tupI)), z2', z3', z4', .no]) s
  | [], fd, z2, z3, z4, k, s, _, _, _, _ => ⟨z2, z3, z4, ev_for0⟩
  | n :: ns, fd, z2, z3, z4, k, s, hn, hl, hw, hk => by
    obtain ⟨h0, h1⟩ := hn n List.mem_cons_self
    have hkk : k + (ns.length + 1) ≤ 99 := hk
    have hg : (grow fd n).length ≤ 100000 := by
      have := hl 1 (by simp)
      simpa using this
    obtain ⟨z', e1⟩ := longer_loop (sh := sh) (fo := .lst (fd.map tupI)) h0 h1 fd [] z4 s (by simpa using hg) fun w hm => by have := hw w hm; omega
    obtain ⟨a2, a3, a4, e2⟩ := worlds_loop (sh := sh) ns (grow fd n) (.val (.int n)) (.val (.lst ((grow fd n).map tupI))) z' (k + 1) s (fun m hm => hn m (List.mem_cons_of_mem _ hm)) (fun j hj => by
      have := hl (j + 1) (by simp; omega)
      simpa using this) (fun w hm => by
      obtain ⟨v, hv, x, rfl⟩ := grow_mem hm
      have := hw v hv
      rw [List.length_append, List.length_singleton]; omega) (by omega)
    exact ⟨a2, a3, a4, ev_for1 rfl (ev_seq (ev_asgO (ev_mapO ev_anil rfl)) (ev_seq (ev_for (ev_items (ev_var rfl) rfl) e1) (ev_sfrz rfl (ev_asgN (ev_var rfl))))) e2⟩
theorem law_worlds_ok (t : Bool) {ns : List Int} (s : Dk) (hn : ∀ n ∈ ns, 0 ≤ n ∧ n ≤ 1000) (hl : ∀ j, j ≤ ns.length → (wordsL (ns.take j)).length ≤ 100000) (hk : ns.length ≤ 99) :
    Ev (F__law_worlds [if t = true then .tup (iL ns) else .lst (iL ns)]) s (.tup ((wordsL ns).map tupI)) s := by
  obtain ⟨a2, a3, a4, e⟩ := worlds_loop (sh := if t = true then .tup (iL ns) else .lst (iL ns)) ns [[]] .no .no .no 0 s hn hl (fun w hw => by simp at hw; subst hw; simp) (by omega)
  refine ev_run (ev_seq (ev_asgN (ev_frz (ev_mapO (ev_acons (ev_mapA ev_anil rfl) ev_anil) rfl))) (ev_seq (ev_for (ev_items (ev_var rfl) ?_) e) (ev_rt (ev_mapA (ev_acons (ev_var rfl) ev_anil) rfl))))
  cases t <;> rfl
theorem ev_drop {m : En → M D} {env : En} {s s1 : Dk} {d : D} (h : Ev (m env) s d s1) : Ev (sDrop m env) s (.nx env) s1 := ev_bind h ev_ret
theorem ev_slice1 {m : En → M D} {env : En} {s s1 : Dk} {d e : D} (h : Ev (m env) s d s1) (h2 : cutD d (some 1) none = some e) : Ev (eSlice m (ePart (eC (.int 1))) eNoPart env) s e s1 := ev_bind h (ev_bind (show Ev (ePart (eC (.int 1)) env) s1 (some 1) s1 from rfl) (ev_bind (show Ev (eNoPart env) s1 none s1 from rfl) (ev_opt h2)))
theorem cut1D (ds : List D) : cutL ds (some 1) none = ds.drop 1 := by
  unfold cutL
  rw [show HT.sIx ds.length 0 (some 1) = min 1 ds.length from HT.sIx_nat ds.length 0 1, HT.sIx_none]
  cases ds with
  | nil => rfl
  | cons x r =>
    rw [show min 1 (x :: r).length = 1 by rw [List.length_cons]; omega]
    simp
theorem all_true : ∀ (ds : List D), allD (.lst (ds.map fun _ => .bl true)) = some (.bl true) := fun ds => by
  have h : bls? (ds.map fun _ => D.bl true) = some (ds.map fun _ => true) := by
    induction ds with
    | nil => rfl
    | cons d ds ih => simp only [List.map_cons, bls?, ih, Option.map_some]
  simp only [allD, h, Option.map_some]
  congr 2
  induction ds with
  | nil => rfl
  | cons d ds ih => simp
theorem plain_ok (i : Int) (s : Dk) : Ev (F_is_plain_integer [.int i]) s (.bl true) s := ev_run (ev_rt (ev_andV (c := true) (ev_un (ev_var rfl) rfl) (fun _ => ev_notV (c := false) (ev_un (ev_var rfl) rfl)) (fun h => by cases h)))
theorem chain_ok {env : En} {s : Dk} {a b c : En → M D} {g' : D → D → Option D} {x y z : Int} (h1 : Ev (a env) s (.int x) s) (h2 : Ev (b env) s (.int y) s) (h3 : Ev (c env) s (.int z) s) (hx : x ≤ y) (hg : g' (.int y) (.int z) = some (.bl true)) : Ev (eChain leD g' a b c env) s (.bl true) s :=
  ev_chain (c := true) h1 h2 (by simp [leD, hx]) (fun _ => ⟨_, h3, hg⟩) (fun h => by cases h)
theorem below_ok {i b : Int} (h0 : 0 ≤ i) (h1 : i < b) (s : Dk) : Ev (F_is_below [.int i, .int b]) s (.bl true) s :=
  ev_run (ev_rt (ev_andV (c := true) (ev_call (ev_acons (ev_var rfl) ev_anil) rfl (plain_ok i s)) (fun _ => chain_ok ev_c (ev_var rfl) (ev_var rfl) h0 (by simp [ltD, h1])) (fun h => by cases h)))
structure Shp (sh : List Int) : Prop where
  l1 : 1 ≤ sh.length
  l4 : sh.length ≤ 4
  le : ∀ n ∈ sh, 1 ≤ n ∧ n ≤ 4
theorem shape_ok {sh : List Int} (h : Shp sh) (s : Dk) : Ev (F_is_shape [.tup (iL sh)]) s (.bl true) s := by
  have hlen : (iL sh).length = sh.length := List.length_map ..
  have b1 := h.l1
  have b4 := h.l4
  refine ev_run (ev_seq (ev_sif (c := false) (ev_orT (c := false) (ev_notT (c := true) (ev_tval (ev_un (ev_var rfl) rfl))) (fun _ => ev_notT (c := true) (ev_tval (chain_ok (x := 1) (y := ((iL sh).length : Nat)) (z := 4) ev_c (ev_mapA (ev_acons (ev_var rfl) ev_anil) rfl) ev_c (by rw [hlen]; omega) (by simp [leD]; omega)))) (fun h => by cases h)) (fun h => by cases h) (fun _ => ev_next)) (ev_rt (ev_mapA (ev_acons (ev_frz (ev_lc (ev_items (ev_var rfl) rfl) (by rw [hlen]; have : size7 = 10000000 := rfl; omega) (ev_lcMap (fun _ => .bl true) fun d hd => ?_))) ev_anil) (all_true _))))
  obtain ⟨n, hn, rfl⟩ := List.mem_map.mp hd
  obtain ⟨n1, n4⟩ := h.le n hn
  exact ⟨_, rfl, ev_andV (c := true) (ev_call (ev_acons (ev_var rfl) ev_anil) rfl (plain_ok n s)) (fun _ => chain_ok ev_c (ev_var rfl) ev_c n1 (by simp [leD, n4])) (fun h => by cases h)⟩
theorem need_shape_ok {sh : List Int} (h : Shp sh) (s : Dk) : Ev (F_need_shape [.tup (iL sh)]) s .non s := ev_runN (ev_sif (c := false) (ev_notT (c := true) (ev_tval (ev_call (ev_acons (ev_var rfl) ev_anil) rfl (shape_ok h s)))) (fun h => by cases h) (fun _ => ev_next))
theorem zip_mem : ∀ {lot : List Int} {d : D}, lot.Pairwise (· < ·) → d ∈ zipD (iL lot) ((iL lot).drop 1) → ∃ a b : Int, d = .tup [.int a, .int b] ∧ a < b
  | [], d, _, h => by simp [zipD] at h
  | [x], d, _, h => by simp [zipD] at h
  | x :: y :: r, d, hp, h => by
    have h' : d ∈ D.tup [.int x, .int y] :: zipD (iL (y :: r)) ((iL (y :: r)).drop 1) := h
    rcases List.mem_cons.mp h' with e | e
    · exact ⟨x, y, e, (List.pairwise_cons.mp hp).1 y List.mem_cons_self⟩
    · exact zip_mem (List.pairwise_cons.mp hp).2 e
theorem ascending_ok {lot : List Int} (hp : lot.Pairwise (· < ·)) (hl : lot.length ≤ 99) (s : Dk) : Ev (F_is_ascending [.tup (iL lot)]) s (.bl true) s := by
  refine ev_run (ev_rt (ev_mapA (ev_acons (ev_frz (ev_lc (ds := zipD (iL lot) ((iL lot).drop 1)) (ev_mapI (ev_acons (ev_var rfl) (ev_acons (ev_slice1 (ev_var rfl) rfl) ev_anil)) ?_) ?_ (ev_lcMap (fun _ => .bl true) fun d hd => ?_))) ev_anil) (all_true _)))
  · rw [cut1D]; rfl
  · rw [zipD_len, List.length_drop, List.length_map]; have : size7 = 10000000 := rfl; omega
  · obtain ⟨a, b, rfl, hab⟩ := zip_mem hp hd
    exact ⟨_, rfl, ev_iop (ev_var rfl) (ev_var rfl) (by simp [ltD, hab])⟩
structure Lot (k : Nat) (lot : List Int) : Prop where
  asc : lot.Pairwise (· < ·)
  rng : ∀ p ∈ lot, 0 ≤ p ∧ p < k
  len : lot.length ≤ 4
theorem lot_ok {sh lot : List Int} (h : Shp sh) (hl : Lot sh.length lot) (s : Dk) : Ev (F_is_lot [.tup (iL sh), .tup (iL lot)]) s (.bl true) s := by
  have b := hl.len
  refine ev_run (ev_seq (ev_drop (ev_call (ev_acons (ev_var rfl) ev_anil) rfl (need_shape_ok h s))) (ev_seq (ev_sif (c := false) (ev_notT (c := true) (ev_tval (ev_un (ev_var rfl) rfl))) (fun h => by cases h) (fun _ => ev_next)) (ev_rt (ev_andV (c := true) (ev_mapA (ev_acons (ev_frz (ev_lc (ev_items (ev_var rfl) rfl) (by rw [List.length_map]; have : size7 = 10000000 := rfl; omega) (ev_lcMap (fun _ => .bl true) fun d hd => ?_))) ev_anil) (all_true _)) (fun _ => ev_call (ev_acons (ev_var rfl) ev_anil) rfl (ascending_ok hl.asc (by omega) s)) (fun h => by cases h)))))
  obtain ⟨p, hp, rfl⟩ := List.mem_map.mp hd
  obtain ⟨p0, p1⟩ := hl.rng p hp
  exact ⟨_, rfl, ev_call (ev_acons (ev_var rfl) (ev_acons (ev_mapA (ev_acons (ev_var rfl) ev_anil) rfl) ev_anil)) rfl (below_ok p0 (by rw [List.length_map]; exact p1) s)⟩
theorem need_lot_ok {sh lot : List Int} (h : Shp sh) (hl : Lot sh.length lot) (s : Dk) : Ev (F_need_lot [.tup (iL sh), .tup (iL lot)]) s .non s := ev_runN (ev_sif (c := false) (ev_notT (c := true) (ev_tval (ev_call (ev_acons (ev_var rfl) (ev_acons (ev_var rfl) ev_anil)) rfl (lot_ok h hl s)))) (fun h => by cases h) (fun _ => ev_next))
def nth (xs : List Int) (p : Int) : Int := xs.getD p.toNat 0
theorem nth_at {xs : List Int} {p : Int} (h0 : 0 ≤ p) (h1 : p < xs.length) : atI (iL xs) p = some (.int (nth xs p)) := by
  obtain ⟨k, rfl⟩ := Int.eq_ofNat_of_zero_le h0
  have hk : k < xs.length := by omega
  unfold atI ixN
  rw [if_pos h0, List.length_map, if_pos h1]
  simp [nth, hk]
theorem nth_mem {xs : List Int} {p : Int} (h0 : 0 ≤ p) (h1 : p < xs.length) : nth xs p ∈ xs := by
  obtain ⟨k, rfl⟩ := Int.eq_ofNat_of_zero_le h0
  have hk : k < xs.length := by omega
  have : nth xs (k : Int) = xs[k] := by simp [nth, hk]
  rw [this]
  exact List.getElem_mem hk
theorem upto_nth (xs : List Int) : (upto xs.length).map (nth xs) = xs := by
  apply List.ext_getElem?
  intro i
  unfold upto
  rw [List.map_map, List.getElem?_map]
  by_cases h : i < xs.length
  · rw [List.getElem?_range (by simpa using h)]
    simp [nth, h]
  · rw [List.getElem?_eq_none (by simpa using h), List.getElem?_eq_none (by omega)]
    rfl
theorem grow_len (fd : List (List Int)) (n : Int) : (grow fd n).length = fd.length * n.toNat := by
  induction fd with
  | nil => simp [grow]
  | cons w fd ih =>
    have hg : grow (w :: fd) n = (upto n).map (fun x => w ++ [x]) ++ grow fd n := by simp [grow]
    rw [hg, List.length_append, ih, List.length_map, upto_len, List.length_cons, Nat.succ_mul]
    omega
theorem fold_len : ∀ (ns : List Int) (fd : List (List Int)), (∀ n ∈ ns, n ≤ 4) → (ns.foldl grow fd).length ≤ fd.length * 4 ^ ns.length
  | [], fd, _ => by simp
  | n :: ns, fd, h => by
    have h1 := fold_len ns (grow fd n) fun m hm => h m (List.mem_cons_of_mem _ hm)
    have h2 := h n List.mem_cons_self
    rw [grow_len] at h1
    rw [List.foldl_cons, List.length_cons, Nat.pow_succ]
    refine Nat.le_trans h1 ?_
    have h3 : n.toNat ≤ 4 := by omega
    calc fd.length * n.toNat * 4 ^ ns.length ≤ fd.length * 4 * 4 ^ ns.length := Nat.mul_le_mul_right _ (Nat.mul_le_mul_left _ h3)
      _ = fd.length * (4 ^ ns.length * 4) := by rw [Nat.mul_assoc, Nat.mul_comm 4]
theorem words_len {ns : List Int} (h : ∀ n ∈ ns, n ≤ 4) (hl : ns.length ≤ 4) : (wordsL ns).length ≤ 256 := by
  have h1 := fold_len ns [[]] h
  rw [List.length_singleton, Nat.one_mul] at h1
  exact Nat.le_trans h1 (Nat.pow_le_pow_right (n := 4) (by decide) hl)
/-- the words over a lot, as the program tells them -/
theorem over_ok {sh lot : List Int} (h : Shp sh) (hr : ∀ p ∈ lot, 0 ≤ p ∧ p < sh.length) (hl : lot.length ≤ 4) (s : Dk) : Ev (F_words_over [.tup (iL sh), .tup (iL lot)]) s (.tup ((wordsL (lot.map (nth sh))).map tupI)) s := by
  have hb : ∀ p ∈ lot, 1 ≤ nth sh p ∧ nth sh p ≤ 4 := fun p hp => h.le _ (nth_mem (hr p hp).1 (hr p hp).2)
  refine words_over_ok (nth sh) s (fun p hp => ⟨nth_at (hr p hp).1 (hr p hp).2, ?_, ?_⟩) (fun j hj => Nat.le_trans (words_len (fun n hn => ?_) ?_) (by decide)) (by omega)
  · have := hb p hp; omega
  · have := hb p hp; omega
  · obtain ⟨p, hp, rfl⟩ := List.mem_map.mp hn
    exact (hb p (List.mem_of_mem_take hp)).2
  · rw [List.length_map, List.length_take]; omega
theorem places_ok (sh : List Int) (hl : sh.length ≤ 4) (s : Dk) : Ev (F_all_places [.tup (iL sh)]) s (.tup (iL (upto sh.length))) s := by
  refine ev_run (ev_rt (ev_mapA (ev_acons (ev_mapA (ev_acons (ev_var rfl) ev_anil) rfl) ev_anil) ?_))
  show ((if small62 ((iL sh).length : Nat) = true then some (rangeD 0 ((iL sh).length : Nat)) else none).bind fun es => if es.length ≤ size7 then some (D.tup es) else none) = _
  rw [List.length_map, if_pos (small62_of (by omega) (by omega)), Option.bind_some, rangeD_upto, if_pos]
  rw [List.length_map, upto_len]
  have : size7 = 10000000 := rfl
  omega
theorem worlds_ok {sh : List Int} (h : Shp sh) (s : Dk) : Ev (F_worlds [.tup (iL sh)]) s (.tup ((wordsL sh).map tupI)) s := by
  have b := h.l4
  have e := over_ok h (lot := upto sh.length) (fun p hp => by
    obtain ⟨i, hi, rfl⟩ := List.mem_map.mp hp
    have := List.mem_range.mp hi
    omega) (by rw [upto_len]; omega) s
  rw [upto_nth] at e
  exact ev_run (ev_seq (ev_drop (ev_call (ev_acons (ev_var rfl) ev_anil) rfl (need_shape_ok h s))) (ev_rt (ev_call (ev_acons (ev_var rfl) (ev_acons (ev_call (ev_acons (ev_var rfl) ev_anil) rfl (places_ok sh b s)) ev_anil)) rfl e)))
theorem ne_int (a b : Int) : neD (.int a) (.int b) = some (.bl (!decide (a = b))) := by
  have e : (a == b) = decide (a = b) := by by_cases h : a = b <;> simp [h]
  simp [neD, D.toP, SeqAt.shaped, PyData.canLay0, PyData.depth, PyData.eqv, e]
theorem eq_int (a b : Int) : eqD (.int a) (.int b) = some (.bl (decide (a = b))) := by
  have e : (a == b) = decide (a = b) := by by_cases h : a = b <;> simp [h]
  simp [eqD, D.toP, SeqAt.shaped, PyData.canLay0, PyData.depth, PyData.eqv, e]
theorem zip_mem2 : ∀ {xs ys : List Int} {d : D}, d ∈ zipD (iL xs) (iL ys) → ∃ (i : Nat) (x y : Int), xs[i]? = some x ∧ ys[i]? = some y ∧ d = .tup [.int x, .int y]
  | [], ys, d, h => by simp [zipD] at h
  | x :: xs, [], d, h => by simp [zipD] at h
  | x :: xs, y :: ys, d, h => by
    have h' : d ∈ D.tup [.int x, .int y] :: zipD (iL xs) (iL ys) := h
    rcases List.mem_cons.mp h' with e | e
    · exact ⟨0, x, y, rfl, rfl, e⟩
    · obtain ⟨i, a, b, e1, e2, e3⟩ := zip_mem2 e
      exact ⟨i + 1, a, b, by simpa using e1, by simpa using e2, e3⟩
/-- w is a word over the lot -/
structure Wd (sh lot w : List Int) : Prop where
  len : w.length = lot.length
  rng : ∀ (i : Nat) (p x : Int), lot[i]? = some p → w[i]? = some x → (0 ≤ p ∧ p < sh.length) ∧ 0 ≤ x ∧ x < nth sh p
structure Md (m : Int) : Prop where
  ok : m = 0 ∨ 2 ≤ m
def Nm (m x : Int) : Prop := m = 0 ∨ (0 ≤ x ∧ x < m)
theorem modulus_ok {m : Int} (h : Md m) (s : Dk) : Ev (F_is_modulus [.int m]) s (.bl true) s := by
  refine ev_run (ev_rt (ev_andV (c := true) (ev_call (ev_acons (ev_var rfl) ev_anil) rfl (plain_ok m s)) (fun _ => ev_orV (c := decide (m = 0)) (ev_iop (ev_var rfl) ev_c (eq_int m 0)) (fun hc => ev_iop (ev_var rfl) ev_c ?_) (fun _ => ⟨rfl, rfl⟩)) (fun h => by cases h)))
  have h0 := of_decide_eq_false hc
  have h2 : 2 ≤ m := h.ok.resolve_left h0
  simp [geD, h2]
theorem need_modulus_ok {m : Int} (h : Md m) (s : Dk) : Ev (F_need_modulus [.int m]) s .non s := ev_runN (ev_sif (c := false) (ev_notT (c := true) (ev_tval (ev_call (ev_acons (ev_var rfl) ev_anil) rfl (modulus_ok h s)))) (fun h => by cases h) (fun _ => ev_next))
theorem number_ok {m x : Int} (h : Nm m x) (s : Dk) : Ev (F_is_number [.int m, .int x]) s (.bl true) s := by
  by_cases hm : m = 0
  · exact ev_run (ev_seqR (ev_sif (c := true) (ev_tval (ev_iop (ev_var rfl) ev_c (by rw [eq_int]; simp [hm]))) (fun _ => ev_rt (ev_call (ev_acons (ev_var rfl) ev_anil) rfl (plain_ok x s))) (fun h => by cases h)))
  · obtain ⟨x0, x1⟩ := h.resolve_left hm
    exact ev_run (ev_seq (ev_sif (c := false) (ev_tval (ev_iop (ev_var rfl) ev_c (by rw [eq_int]; simp [hm]))) (fun h => by cases h) (fun _ => ev_next)) (ev_rt (ev_call (ev_acons (ev_var rfl) (ev_acons (ev_var rfl) ev_anil)) rfl (below_ok x0 x1 s))))
def prodI (ns : List Int) : Int := ns.foldl (fun a n => a * n) 1
theorem small_le {n : Int} (h0 : 0 ≤ n) (h1 : n ≤ 1000) : small64b n = true := by
  unfold small64b
  simp only [Bool.and_eq_true, decide_eq_true_eq]
  omega
theorem many_loop {sh lo : List Int} (h : Shp sh) : ∀ (lot : List Int) (a : Int) (z : Slot) (s : Dk), (∀ p ∈ lot, 0 ≤ p ∧ p < sh.length) → ∃ z', Ev (forM' (.nm 3) (sAsg (.nm 2) (eOp mulD (eVar 2) (eOp ixD (eVar 0) (eVar 3)))) (iL lot) [.val (.tup (iL sh)), .val (.tup (iL lo)), .val (.int a), z]) s (.nx [.val (.tup (iL sh)), .val (.tup (iL lo)), .val (.int ((lot.map (nth sh)).foldl (fun a n => a * n) a)), z']) s
  | [], a, z, s, _ => ⟨z, ev_for0⟩
  | p :: lot, a, z, s, hr => by
    obtain ⟨p0, p1⟩ := hr p List.mem_cons_self
    obtain ⟨n1, n4⟩ := h.le _ (nth_mem p0 p1)
    obtain ⟨z', e⟩ := many_loop h lot (a * nth sh p) (.val (.int p)) s fun q hq => hr q (List.mem_cons_of_mem _ hq)
    exact ⟨z', ev_for1 rfl (ev_asgN (ev_iop (ev_var rfl) (ev_iop (ev_var rfl) (ev_var rfl) (nth_at p0 p1)) (mulD_r (small_le (by omega) (by omega))))) e⟩
theorem many_ok {sh lot : List Int} (h : Shp sh) (hr : ∀ p ∈ lot, 0 ≤ p ∧ p < sh.length) (s : Dk) : Ev (F_many_words [.tup (iL sh), .tup (iL lot)]) s (.int (prodI (lot.map (nth sh)))) s := by
  obtain ⟨z', e⟩ := many_loop (lo := lot) h lot 1 .no s hr
  exact ev_run (ev_seq (ev_asgN ev_c) (ev_seq (ev_for (ev_items (ev_var rfl) rfl) e) (ev_rt (ev_var rfl))))
/-- a list over a lot -/
structure Lst (sh : List Int) (m : Int) (lot es : List Int) : Prop where
  len : (es.length : Int) = prodI (lot.map (nth sh))
  num : ∀ x ∈ es, Nm m x
  few : es.length ≤ 256
theorem list_ok {sh lot es : List Int} {m : Int} (h : Shp sh) (hr : ∀ p ∈ lot, 0 ≤ p ∧ p < sh.length) (he : Lst sh m lot es) (s : Dk) : Ev (F_is_list_over [.tup (iL sh), .int m, .tup (iL lot), .tup (iL es)]) s (.bl true) s := by
  have few := he.few
  refine ev_run (ev_seq (ev_sif (c := false) (ev_orT (c := false) (ev_notT (c := true) (ev_tval (ev_un (ev_var rfl) rfl))) (fun _ => ev_tval (ev_iop (ev_mapA (ev_acons (ev_var rfl) ev_anil) rfl) (ev_call (ev_acons (ev_var rfl) (ev_acons (ev_var rfl) ev_anil)) rfl (many_ok h hr s)) ?_)) (fun h => by cases h)) (fun h => by cases h) (fun _ => ev_next)) (ev_rt (ev_mapA (ev_acons (ev_frz (ev_lc (ev_items (ev_var rfl) rfl) (by rw [List.length_map]; have : size7 = 10000000 := rfl; omega) (ev_lcMap (fun _ => .bl true) fun d hd => ?_))) ev_anil) (all_true _))))
  · rw [ne_int, List.length_map, he.len]; simp
  · obtain ⟨x, hx, rfl⟩ := List.mem_map.mp hd
    exact ⟨_, rfl, ev_call (ev_acons (ev_var rfl) (ev_acons (ev_var rfl) ev_anil)) rfl (number_ok (he.num x hx) s)⟩
theorem is_list_ok {sh lot es : List Int} {m : Int} (h : Shp sh) (hm : Md m) (hl : Lot sh.length lot) (he : Lst sh m lot es) (s : Dk) : Ev (F_is_list [.tup (iL sh), .int m, .tup (iL lot), .tup (iL es)]) s (.bl true) s :=
  ev_run (ev_seq (ev_drop (ev_call (ev_acons (ev_var rfl) ev_anil) rfl (need_shape_ok h s))) (ev_seq (ev_drop (ev_call (ev_acons (ev_var rfl) ev_anil) rfl (need_modulus_ok hm s))) (ev_seq (ev_drop (ev_call (ev_acons (ev_var rfl) (ev_acons (ev_var rfl) ev_anil)) rfl (need_lot_ok h hl s)))
    (ev_rt (ev_call (ev_acons (ev_var rfl) (ev_acons (ev_var rfl) (ev_acons (ev_var rfl) (ev_acons (ev_var rfl) ev_anil)))) rfl (list_ok h hl.rng he s))))))
theorem need_list_ok {sh lot es : List Int} {m : Int} (h : Shp sh) (hl : Lot sh.length lot) (he : Lst sh m lot es) (s : Dk) : Ev (F_need_list [.tup (iL sh), .int m, .tup (iL lot), .tup (iL es)]) s .non s := ev_runN (ev_sif (c := false) (ev_notT (c := true) (ev_tval (ev_call (ev_acons (ev_var rfl) (ev_acons (ev_var rfl) (ev_acons (ev_var rfl) (ev_acons (ev_var rfl) ev_anil)))) rfl (list_ok h hl.rng he s)))) (fun h => by cases h) (fun _ => ev_next))
/-- a word's number -/
def atW (sh lot w : List Int) (a : Int) : Int := lot.foldl (fun a p => a * nth sh p + nth w p) a
theorem met_loop {sh lo es w : List Int} (h : Shp sh) (hw : w.length = sh.length) : ∀ (lot : List Int) (a : Int) (z : Slot) (s : Dk), (∀ p ∈ lot, 0 ≤ p ∧ p < sh.length) → ∃ z', Ev (forM' (.nm 5) (sAsg (.nm 4) (eOp addD (eOp mulD (eVar 4) (eOp ixD (eVar 0) (eVar 5))) (eOp ixD (eVar 3) (eVar 5)))) (iL lot) [.val (.tup (iL sh)), .val (.tup (iL lo)), .val (.tup (iL es)), .val (.tup (iL w)), .val (.int a), z]) s
      (.nx [.val (.tup (iL sh)), .val (.tup (iL lo)), .val (.tup (iL es)), .val (.tup (iL w)), .val (.int (atW sh lot w a)), z']) s
  | [], a, z, s, _ => ⟨z, ev_for0⟩
  | p :: lot, a, z, s, hr => by
    obtain ⟨p0, p1⟩ := hr p List.mem_cons_self
    obtain ⟨n1, n4⟩ := h.le _ (nth_mem p0 p1)
    obtain ⟨z', e⟩ := met_loop h hw lot (a * nth sh p + nth w p) (.val (.int p)) s fun q hq => hr q (List.mem_cons_of_mem _ hq)
    exact ⟨z', ev_for1 rfl (ev_asgN (ev_iop (ev_iop (ev_var rfl) (ev_iop (ev_var rfl) (ev_var rfl) (nth_at p0 p1)) (mulD_r (small_le (by omega) (by omega)))) (ev_iop (ev_var rfl) (ev_var rfl) (nth_at p0 (by rw [hw]; exact p1))) rfl)) e⟩
theorem met_ok {sh lot es w : List Int} (h : Shp sh) (hw : w.length = sh.length) (hr : ∀ p ∈ lot, 0 ≤ p ∧ p < sh.length) (ha : 0 ≤ atW sh lot w 0 ∧ atW sh lot w 0 < es.length) (s : Dk) : Ev (F_met_entry [.tup (iL sh), .tup (iL lot), .tup (iL es), .tup (iL w)]) s (.int (nth es (atW sh lot w 0))) s := by
  obtain ⟨z', e⟩ := met_loop (lo := lot) (es := es) h hw lot 0 .no s hr
  exact ev_run (ev_seq (ev_asgN ev_c) (ev_seq (ev_for (ev_items (ev_var rfl) rfl) e) (ev_rt (ev_iop (ev_var rfl) (ev_var rfl) (nth_at ha.1 ha.2)))))
theorem upto_mem {n x : Int} : x ∈ upto n ↔ 0 ≤ x ∧ x < n := by
  unfold upto
  constructor
  · intro h
    obtain ⟨i, hi, rfl⟩ := List.mem_map.mp h
    have := List.mem_range.mp hi
    omega
  · rintro ⟨h0, h1⟩
    exact List.mem_map.mpr ⟨x.toNat, List.mem_range.mpr (by omega), by omega⟩
theorem fold_mem : ∀ (ns : List Int) (fd : List (List Int)) (w : List Int), w ∈ ns.foldl grow fd → ∃ v ∈ fd, ∃ u, w = v ++ u ∧ u.length = ns.length ∧ ∀ (i : Nat) (n x : Int), ns[i]? = some n → u[i]? = some x → 0 ≤ x ∧ x < n
  | [], fd, w, h => ⟨w, h, [], by simp, rfl, fun i n x e => by simp at e⟩
  | n :: ns, fd, w, h => by
    obtain ⟨v', hv', u, e, hl, hu⟩ := fold_mem ns (grow fd n) w h
    obtain ⟨v, hv, hx⟩ := List.mem_flatMap.mp hv'
    obtain ⟨x, hxm, rfl⟩ := List.mem_map.mp hx
    refine ⟨v, hv, x :: u, by rw [e, List.append_assoc]; rfl, by simp [hl], fun i m y e1 e2 => ?_⟩
    cases i with
    | zero =>
      cases e1
      cases e2
      exact upto_mem.mp hxm
    | succ i => exact hu i m y (by simpa using e1) (by simpa using e2)
theorem words_mem {ns w : List Int} (h : w ∈ wordsL ns) : w.length = ns.length ∧ ∀ (i : Nat) (n x : Int), ns[i]? = some n → w[i]? = some x → 0 ≤ x ∧ x < n := by
  obtain ⟨v, hv, u, e, hl, hu⟩ := fold_mem ns [[]] w h
  have hv' : v = [] := by simpa using hv
  subst hv'
  rw [List.nil_append] at e
  subst e
  exact ⟨hl, hu⟩
theorem nth_get {xs : List Int} {p : Int} {x : Int} (h0 : 0 ≤ p) (h : xs[p.toNat]? = some x) : nth xs p = x := by
  unfold nth
  rw [List.getD_eq_getElem?_getD, h]
  rfl
theorem get_nth {xs : List Int} {p : Int} (h0 : 0 ≤ p) (h1 : p < xs.length) : xs[p.toNat]? = some (nth xs p) := by
  have hk : p.toNat < xs.length := by omega
  unfold nth
  rw [List.getD_eq_getElem?_getD, List.getElem?_eq_getElem hk]
  rfl
theorem world_at {sh w : List Int} (h : w ∈ wordsL sh) {p : Int} (h0 : 0 ≤ p) (h1 : p < sh.length) : 0 ≤ nth w p ∧ nth w p < nth sh p := by
  obtain ⟨hl, hw⟩ := words_mem h
  exact hw p.toNat _ _ (get_nth h0 h1) (get_nth h0 (by rw [hl]; exact h1))
theorem world_wd {sh w : List Int} (h : w ∈ wordsL sh) : Wd sh (upto sh.length) w := by
  obtain ⟨hl, hw⟩ := words_mem h
  refine ⟨by rw [hl, upto_len]; omega, fun i p x e1 e2 => ?_⟩
  have hi : i < sh.length := by
    have := (List.getElem?_eq_some_iff.mp e1).1
    rw [upto_len] at this
    omega
  have hp : p = (i : Int) := by
    unfold upto at e1
    rw [List.getElem?_map, List.getElem?_range (by simpa using hi)] at e1
    simpa using e1.symm
  subst hp
  have hs : sh[i]? = some (nth sh (i : Int)) := by
    have := get_nth (xs := sh) (p := (i : Int)) (by omega) (by omega)
    simpa using this
  exact ⟨⟨by omega, by omega⟩, hw i _ x hs e2⟩
theorem at_bound {sh w : List Int} (hw : ∀ p : Int, 0 ≤ p → p < sh.length → 0 ≤ nth w p ∧ nth w p < nth sh p) : ∀ (lot : List Int) (a P : Int), (∀ p ∈ lot, 0 ≤ p ∧ p < sh.length) → 0 ≤ a → a < P → 0 ≤ atW sh lot w a ∧ atW sh lot w a < (lot.map (nth sh)).foldl (fun a n => a * n) P
  | [], a, P, _, h0, h1 => ⟨h0, h1⟩
  | p :: lot, a, P, hr, h0, h1 => by
    obtain ⟨p0, p1⟩ := hr p List.mem_cons_self
    obtain ⟨x0, x1⟩ := hw p p0 p1
    have hn : 0 < nth sh p := by omega
    refine at_bound hw lot (a * nth sh p + nth w p) (P * nth sh p) (fun q hq => hr q (List.mem_cons_of_mem _ hq)) ?_ ?_
    · have := Int.mul_nonneg h0 (Int.le_of_lt hn)
      omega
    · have h2 : (a + 1) * nth sh p ≤ P * nth sh p := Int.mul_le_mul_of_nonneg_right (by omega) (Int.le_of_lt hn)
      rw [Int.add_mul, Int.one_mul] at h2
      omega
theorem ints_iL : ∀ w : List Int, ints? (w.map D.int) = some w
  | [] => rfl
  | x :: w => by simp only [List.map_cons, ints?, ints_iL w, Option.map_some]
theorem spread_ok {sh lot es : List Int} {m : Int} (h : Shp sh) (hm : Md m) (hl : Lot sh.length lot) (he : Lst sh m lot es) (s : Dk) :
    Ev (F_spread [.tup (iL sh), .int m, .tup (iL lot), .tup (iL es)]) s (.tup (iL ((wordsL sh).map fun w => nth es (atW sh lot w 0)))) s := by
  have b4 := h.l4
  have bw : (wordsL sh).length ≤ 256 := words_len (fun n hn => (h.le n hn).2) b4
  have lc : Ev (eLc (eItems (eCall (cN 1 F_worlds) (eAcons (eVar 0) eAnil))) (.nm 4) [4] tYes' (eCall (cN 4 F_met_entry) (eAcons (eVar 0) (eAcons (eVar 2) (eAcons (eVar 3) (eAcons (eVar 4) eAnil))))) [.val (.tup (iL sh)), .val (.int m), .val (.tup (iL lot)), .val (.tup (iL es)), .no]) s (.lst (iL ((wordsL sh).map fun w => nth es (atW sh lot w 0)))) s := by
    have e := ev_lc (p := .nm 4) (vs := [4]) (t := tYes') (it := eItems (eCall (cN 1 F_worlds) (eAcons (eVar 0) eAnil))) (env := [.val (.tup (iL sh)), .val (.int m), .val (.tup (iL lot)), .val (.tup (iL es)), .no]) (s := s) (ev_items (ev_call (ev_acons (ev_var rfl) ev_anil) rfl (worlds_ok h s)) rfl) (by rw [List.length_map]; have : size7 = 10000000 := rfl; omega)
      (ev_lcMap (e := eCall (cN 4 F_met_entry) (eAcons (eVar 0) (eAcons (eVar 2) (eAcons (eVar 3) (eAcons (eVar 4) eAnil))))) (fun d => match d with | .tup ds => (match ints? ds with | some w => .int (nth es (atW sh lot w 0)) | none => d) | d => d) fun d hd => by
        obtain ⟨w, hwm, rfl⟩ := List.mem_map.mp hd
        obtain ⟨lw, _⟩ := words_mem hwm
        obtain ⟨a0, a1⟩ := at_bound (fun p p0 p1 => world_at hwm p0 p1) lot 0 1 hl.rng (by decide) (by decide)
        have e9 : ints? (iL w) = some w := ints_iL w
        refine ⟨_, rfl, ?_⟩
        show Ev _ s (match ints? (iL w) with | some w => D.int (nth es (atW sh lot w 0)) | none => _) s
        rw [e9]
        exact ev_call (ev_acons (ev_var rfl) (ev_acons (ev_var rfl) (ev_acons (ev_var rfl) (ev_acons (ev_var rfl) ev_anil)))) rfl (met_ok h lw hl.rng ⟨a0, by rw [he.len]; exact a1⟩ s))
    rw [List.map_map] at e
    have e2 : iL ((wordsL sh).map fun w => nth es (atW sh lot w 0)) = (wordsL sh).map ((fun d => match d with | .tup ds => (match ints? ds with | some w => D.int (nth es (atW sh lot w 0)) | none => d) | d => d) ∘ tupI) := by
      unfold iL
      rw [List.map_map]
      refine List.map_congr_left fun w _ => ?_
      have e9 : ints? (w.map D.int) = some w := ints_iL w
      show D.int _ = (match ints? (w.map D.int) with | some w => D.int (nth es (atW sh lot w 0)) | none => _)
      rw [e9]
    rw [e2]
    exact e
  exact ev_run (ev_seq (ev_drop (ev_call (ev_acons (ev_var rfl) ev_anil) rfl (need_shape_ok h s))) (ev_seq (ev_drop (ev_call (ev_acons (ev_var rfl) ev_anil) rfl (need_modulus_ok hm s))) (ev_seq (ev_drop (ev_call (ev_acons (ev_var rfl) (ev_acons (ev_var rfl) ev_anil)) rfl (need_lot_ok h hl s)))
    (ev_seq (ev_drop (ev_call (ev_acons (ev_var rfl) (ev_acons (ev_var rfl) (ev_acons (ev_var rfl) (ev_acons (ev_var rfl) ev_anil)))) rfl (need_list_ok h hl he s))) (ev_rt (ev_mapA (ev_acons (ev_frz lc) ev_anil) rfl))))))
theorem ev_eqR {α : Type} {m : M α} {s s1 : Dk} {a b : α} (h : Ev m s a s1) (e : a = b) : Ev m s b s1 := e ▸ h
/-- [xs[p] for p in lot] -/
theorem pick_map {env : En} {s : Dk} {it : En → M (List D)} {ex : En → M D} {i : Nat} {lot : List Int} (f : Int → D) (h : Ev (it env) s (iL lot) s) (hl : lot.length ≤ 1000) (hx : ∀ p ∈ lot, Ev (ex ((wipeE env [i]).set i (.val (.int p)))) s (f p) s) : Ev (eLc it (.nm i) [i] tYes' ex env) s (.lst (lot.map f)) s := by
  have e := ev_lc (p := .nm i) (vs := [i]) (t := tYes') (e := ex) h (by rw [List.length_map]; have : size7 = 10000000 := rfl; omega) (ev_lcMap (fun d => match d with | .int p => f p | d => d) fun d hd => by
    obtain ⟨p, hp, rfl⟩ := List.mem_map.mp hd
    exact ⟨_, by simp only [bindP], hx p hp⟩)
  rw [List.map_map] at e
  exact e
theorem lwords_ok {sh lot : List Int} (h : Shp sh) (hl : Lot sh.length lot) (s : Dk) : Ev (F__law_words [.tup (iL sh), .tup (iL lot)]) s (.tup ((wordsL (lot.map (nth sh))).map tupI)) s := by
  have bl := hl.len
  have hb : ∀ n ∈ lot.map (nth sh), 1 ≤ n ∧ n ≤ 4 := fun n hn => by
    obtain ⟨p, hp, rfl⟩ := List.mem_map.mp hn
    exact h.le _ (nth_mem (hl.rng p hp).1 (hl.rng p hp).2)
  have e := law_worlds_ok false (ns := lot.map (nth sh)) s (fun n hn => by have := hb n hn; omega) (fun j hj => Nat.le_trans (words_len (fun n hn => (hb n (List.mem_of_mem_take hn)).2) (by rw [List.length_take, List.length_map]; omega)) (by decide)) (by rw [List.length_map]; omega)
  have lc := pick_map (env := [.val (.tup (iL sh)), .val (.tup (iL lot)), .no]) (s := s) (it := eItems (eVar 1)) (ex := eOp ixD (eVar 0) (eVar 2)) (i := 2) (lot := lot) (fun p => .int (nth sh p)) (ev_items (ev_var rfl) rfl) (by omega) fun p hp => ev_iop (ev_var rfl) (ev_var rfl) (nth_at (hl.rng p hp).1 (hl.rng p hp).2)
  refine ev_run (ev_rt (ev_call (ev_acons (ev_frz lc) ev_anil) rfl (ev_eqR (show Ev (F__law_worlds [D.lst (lot.map fun p => D.int (nth sh p))]) s _ s from ?_) rfl)))
  have e2 : (lot.map fun p => D.int (nth sh p)) = iL (lot.map (nth sh)) := by unfold iL; rw [List.map_map]; rfl
  rw [e2]
  exact e
theorem lword_of_ok {lot w : List Int} (hr : ∀ p ∈ lot, 0 ≤ p ∧ p < w.length) (hl : lot.length ≤ 4) (s : Dk) : Ev (F__law_word_of [.tup (iL lot), .tup (iL w)]) s (.tup (iL (lot.map (nth w)))) s := by
  have lc := pick_map (env := [.val (.tup (iL lot)), .val (.tup (iL w)), .no]) (s := s) (it := eItems (eVar 0)) (ex := eOp ixD (eVar 1) (eVar 2)) (i := 2) (lot := lot) (fun p => .int (nth w p)) (ev_items (ev_var rfl) rfl) (by omega) fun p hp => ev_iop (ev_var rfl) (ev_var rfl) (nth_at (hr p hp).1 (hr p hp).2)
  have e2 : (lot.map fun p => D.int (nth w p)) = iL (lot.map (nth w)) := by unfold iL; rw [List.map_map]; rfl
  rw [e2] at lc
  exact ev_run (ev_rt (ev_mapA (ev_acons (ev_frz lc) ev_anil) rfl))
theorem lworlds_ok {sh : List Int} (h : Shp sh) (s : Dk) : Ev (F__law_worlds [.tup (iL sh)]) s (.tup ((wordsL sh).map tupI)) s := by
  have b4 := h.l4
  exact law_worlds_ok true (ns := sh) s (fun n hn => by have := h.le n hn; omega) (fun j hj => Nat.le_trans (words_len (fun n hn => (h.le n (List.mem_of_mem_take hn)).2) (by rw [List.length_take]; omega)) (by decide)) (by omega)
def lotsF (fd : List (List Int)) (p : Int) : List (List Int) := fd ++ fd.map fun l => l ++ [p]
def lotsL (ps : List Int) : List (List Int) := ps.foldl lotsF [[]]
theorem lotsF_len (fd : List (List Int)) (p : Int) : (lotsF fd p).length = 2 * fd.length := by simp [lotsF]; omega
theorem lots_loop {k : Int} : ∀ (ps : List Int) (fd : List (List Int)) (z : Slot) (s : Dk), fd.length * 2 ^ ps.length ≤ 1000 → (∀ l ∈ fd, l.length + ps.length ≤ 99) → ∃ z', Ev (forM' (.nm 2) (sExtend 1 (eLc (eOwnItems 1) (.nm 3) [3] tYes' (eOp addD (eVar 3) (eMapA gTupD (eAcons (eVar 2) eAnil))))) (iL ps) [.val (.int k), .own (.lst (fd.map tupI)), z, .no]) s
      (.nx [.val (.int k), .own (.lst ((ps.foldl lotsF fd).map tupI)), z', .no]) s
  | [], fd, z, s, _, _ => ⟨z, ev_for0⟩
  | p :: ps, fd, z, s, hl, hk => by
    have hf : fd.length ≤ 1000 := by
      have h1 : 1 ≤ 2 ^ (p :: ps).length := Nat.one_le_two_pow
      exact Nat.le_trans (Nat.le_mul_of_pos_right _ (by omega)) hl
    have s7 : size7 = 10000000 := rfl
    obtain ⟨z', e⟩ := lots_loop (k := k) ps (lotsF fd p) (.val (.int p)) s (by
      rw [lotsF_len, Nat.mul_comm 2, Nat.mul_assoc]
      rw [List.length_cons, Nat.pow_succ, Nat.mul_comm (2 ^ ps.length)] at hl
      exact hl) (fun l hm => by
      rcases List.mem_append.mp hm with h | h
      · have := hk l h
        simp at this
        omega
      · obtain ⟨l', h', rfl⟩ := List.mem_map.mp h
        have := hk l' h'
        simp at this ⊢
        omega)
    have lc : Ev (eLc (eOwnItems 1) (.nm 3) [3] tYes' (eOp addD (eVar 3) (eMapA gTupD (eAcons (eVar 2) eAnil))) [.val (.int k), .own (.lst (fd.map tupI)), .val (.int p), .no]) s (.lst ((fd.map fun l => l ++ [p]).map tupI)) s := by
      have e := ev_lc (p := .nm 3) (vs := [3]) (t := tYes') (it := eOwnItems 1) (env := [.val (.int k), .own (.lst (fd.map tupI)), .val (.int p), .no]) (s := s) (ds := fd.map tupI) rfl (by rw [List.length_map]; omega) (ev_lcMap (e := eOp addD (eVar 3) (eMapA gTupD (eAcons (eVar 2) eAnil))) (fun d => match d with | .tup ds => .tup (ds ++ [.int p]) | d => d) fun d hd => by
        obtain ⟨l, hm, rfl⟩ := List.mem_map.mp hd
        refine ⟨_, rfl, ev_iop (ev_var rfl) (ev_mapA (ev_acons (ev_var rfl) ev_anil) rfl) ?_⟩
        show (if (l.map D.int).length + [D.int p].length ≤ size7 then _ else _) = _
        rw [if_pos (by rw [List.length_map, List.length_singleton]; have := hk l hm; simp at this; omega)]
        rfl)
      have e2 : (fd.map fun l => l ++ [p]).map tupI = (fd.map tupI).map fun d => match d with | .tup ds => .tup (ds ++ [.int p]) | d => d := by
        rw [List.map_map, List.map_map]
        exact List.map_congr_left fun l _ => tupI_snoc l p
      rw [e2]
      exact e
    have ex := ev_extend (i := 1) (env := [.val (.int k), .own (.lst (fd.map tupI)), .val (.int p), .no]) (ds := fd.map tupI) rfl lc (by rw [List.length_map, List.length_map, List.length_map]; omega)
    rw [← List.map_append] at ex
    exact ⟨z', ev_for1 rfl ex e⟩
theorem tupIs_map : ∀ nss : List (List Int), tupIs? (nss.map tupI) = some nss
  | [] => rfl
  | ns :: nss => by 
    have ih := tupIs_map nss
    show (match ints? (ns.map D.int), tupIs? (nss.map tupI) with | some ns, some rs => some (ns :: rs) | _, _ => none) = _
    rw [ints_iL, ih]
theorem fold_cons (p : List Int) : ∀ (ps : List Int) (fd : List (List Int)), ∃ r, ps.foldl lotsF (p :: fd) = p :: r
  | [], fd => ⟨fd, rfl⟩
  | q :: ps, fd => by
    obtain ⟨r, e⟩ := fold_cons p ps (fd ++ (p :: fd).map fun l => l ++ [q])
    exact ⟨r, e⟩
theorem lots_ok {k : Int} (h0 : 0 ≤ k) (h4 : k ≤ 4) (s : Dk) : Ev (F__law_lots [.int k]) s (.lst ((sortL (lotsL (upto k))).map tupI)) s := by
  have hl : (upto k).length ≤ 4 := by rw [upto_len]; omega
  obtain ⟨z', e⟩ := lots_loop (k := k) (upto k) [[]] .no s (by
    rw [List.length_singleton, Nat.one_mul]
    exact Nat.le_trans (Nat.pow_le_pow_right (n := 2) (by decide) hl) (by decide)) (fun l hm => by
    have : l = [] := by simpa using hm
    subst this
    simp; omega)
  have hs : gSorted [.lst ((lotsL (upto k)).map tupI)] = some (.lst ((sortL (lotsL (upto k))).map tupI)) := by
    obtain ⟨r, er⟩ := fold_cons [] (upto k) []
    have h1 : g1O sortedD [.lst ((lotsL (upto k)).map tupI)] = none := by
      unfold lotsL
      rw [er]
      rfl
    unfold gSorted orO
    rw [h1]
    show ((tupIs? ((lotsL (upto k)).map tupI)).map fun nss => OD.lst ((sortL nss).map tupI)) = _
    rw [tupIs_map]
    rfl
  refine ev_run (ev_seq (ev_asgO (ev_mapO (ev_acons (ev_mapA ev_anil rfl) ev_anil) rfl)) (ev_seq (ev_for (ds := iL (upto k)) (ev_mapI (ev_acons (ev_var rfl) ev_anil) ?_) e) (ev_sfrz rfl (ev_rt (ev_eqR (ev_frz (ev_mapO (ev_acons (ev_var rfl) ev_anil) hs)) rfl)))))
  show (if small62 k = true then some (rangeD 0 k) else none) = _
  rw [if_pos (small62_of h0 (by omega)), rangeD_upto]
theorem lots_fold : ∀ (ps : List Int) (fd : List (List Int)) (b : Int) (c : Nat), ps.Pairwise (· < ·) → (∀ p ∈ ps, b ≤ p) → (∀ l ∈ fd, l.Pairwise (· < ·) ∧ (∀ x ∈ l, 0 ≤ x ∧ x < b) ∧ l.length ≤ c) → 0 ≤ b → ∀ (top : Int), (∀ p ∈ ps, p < top) → b ≤ top → ∀ l ∈ ps.foldl lotsF fd, l.Pairwise (· < ·) ∧ (∀ x ∈ l, 0 ≤ x ∧ x < top) ∧ l.length ≤ c + ps.length
  | [], fd, b, c, _, _, h, hb, top, _, ht, l, hm => by
    obtain ⟨h1, h2, h3⟩ := h l hm
    exact ⟨h1, fun x hx => ⟨(h2 x hx).1, by have := (h2 x hx).2; omega⟩, h3⟩
  | p :: ps, fd, b, c, hp, hge, h, hb, top, htop, ht, l, hm => by
    obtain ⟨p1, p2⟩ := List.pairwise_cons.mp hp
    have hbp := hge p List.mem_cons_self
    have := lots_fold ps (lotsF fd p) (p + 1) (c + 1) p2 (fun q hq => by have := p1 q hq; omega) (fun l hl => by
      rcases List.mem_append.mp hl with hl | hl
      · obtain ⟨h1, h2, h3⟩ := h l hl
        exact ⟨h1, fun x hx => by have := h2 x hx; omega, by omega⟩
      · obtain ⟨l', hl', rfl⟩ := List.mem_map.mp hl
        obtain ⟨h1, h2, h3⟩ := h l' hl'
        refine ⟨List.pairwise_append.mpr ⟨h1, List.pairwise_singleton _ _, fun x hx y hy => ?_⟩, fun x hx => ?_, by simp; omega⟩
        · have := h2 x hx
          rw [List.mem_singleton.mp hy]
          omega
        · rcases List.mem_append.mp hx with hx | hx
          · have := h2 x hx; omega
          · rw [List.mem_singleton.mp hx]; omega) (by omega) top (fun q hq => htop q (List.mem_cons_of_mem _ hq)) (by have := htop p List.mem_cons_self; omega) l hm
    obtain ⟨a1, a2, a3⟩ := this
    exact ⟨a1, a2, by rw [List.length_cons]; omega⟩
theorem upto_asc (n : Int) : (upto n).Pairwise (· < ·) := by
  unfold upto
  rw [List.pairwise_map]
  exact List.pairwise_lt_range.imp fun h => by omega
theorem lots_mem {k : Nat} (h4 : k ≤ 4) {l : List Int} (h : l ∈ sortL (lotsL (upto k))) : Lot k l := by
  have hm : l ∈ lotsL (upto k) := (sortL_perm _).mem_iff.mp h
  obtain ⟨a1, a2, a3⟩ := lots_fold (upto k) [[]] 0 0 (upto_asc k) (fun p hp => (upto_mem.mp hp).1) (fun l hl => by
    have : l = [] := by simpa using hl
    subst this
    simp) (by decide) k (fun p hp => (upto_mem.mp hp).2) (by omega) l hm
  rw [upto_len] at a3
  exact ⟨a1, a2, by omega⟩
theorem upto_get {n x : Int} (h0 : 0 ≤ x) (h1 : x < n) : (upto n)[x.toNat]? = some x := by
  unfold upto
  rw [List.getElem?_map, List.getElem?_range (by omega)]
  simp
  omega
theorem grow_get {n x : Int} (h0 : 0 ≤ x) (h1 : x < n) : ∀ (fd : List (List Int)) (i : Nat) (v : List Int), fd[i]? = some v → (grow fd n)[i * n.toNat + x.toNat]? = some (v ++ [x])
  | [], i, v, h => by simp at h
  | v0 :: fd, 0, v, h => by
    have e0 : v0 = v := by simpa using h
    subst e0
    have hg : grow (v0 :: fd) n = (upto n).map (fun x => v0 ++ [x]) ++ grow fd n := by simp [grow]
    rw [hg, Nat.zero_mul, Nat.zero_add, List.getElem?_append_left (by rw [List.length_map, upto_len]; omega), List.getElem?_map, upto_get h0 h1]
    rfl
  | w :: fd, i + 1, v, h => by
    have hg : grow (w :: fd) n = (upto n).map (fun x => w ++ [x]) ++ grow fd n := by simp [grow]
    have hl : ((upto n).map fun x => w ++ [x]).length = n.toNat := by rw [List.length_map, upto_len]
    have e : (i + 1) * n.toNat + x.toNat = n.toNat + (i * n.toNat + x.toNat) := by rw [Nat.succ_mul]; omega
    rw [hg, e, List.getElem?_append_right (by omega), hl, Nat.add_sub_cancel_left]
    exact grow_get h0 h1 fd i v (by simpa using h)
/-- the word of a world stands at its number -/
theorem fold_get {sh w : List Int} (hw : ∀ p : Int, 0 ≤ p → p < sh.length → 0 ≤ nth w p ∧ nth w p < nth sh p) : ∀ (lot : List Int) (fd : List (List Int)) (a : Int) (v : List Int), (∀ p ∈ lot, 0 ≤ p ∧ p < sh.length) → 0 ≤ a → fd[a.toNat]? = some v → ((lot.map (nth sh)).foldl grow fd)[(atW sh lot w a).toNat]? = some (v ++ lot.map (nth w))
  | [], fd, a, v, _, _, h => by simpa [atW] using h
  | p :: lot, fd, a, v, hr, h0, h => by
    obtain ⟨p0, p1⟩ := hr p List.mem_cons_self
    obtain ⟨x0, x1⟩ := hw p p0 p1
    have hn : 0 ≤ nth sh p := by omega
    have hm := Int.mul_nonneg h0 hn
    have g := grow_get x0 x1 fd a.toNat v h
    have e : a.toNat * (nth sh p).toNat + (nth w p).toNat = (a * nth sh p + nth w p).toNat := by
      rw [Int.toNat_add hm x0, Int.toNat_mul h0 hn]
    rw [e] at g
    have ih := fold_get hw lot (grow fd (nth sh p)) (a * nth sh p + nth w p) (v ++ [nth w p]) (fun q hq => hr q (List.mem_cons_of_mem _ hq)) (by omega) g
    rw [List.append_assoc] at ih
    exact ih
theorem word_at {sh lot w : List Int} (hw : w ∈ wordsL sh) (hr : ∀ p ∈ lot, 0 ≤ p ∧ p < sh.length) : (wordsL (lot.map (nth sh)))[(atW sh lot w 0).toNat]? = some (lot.map (nth w)) := fold_get (fun p p0 p1 => world_at hw p0 p1) lot [[]] 0 [] hr (by decide) rfl
theorem fold_prod : ∀ (ns : List Int) (fd : List (List Int)) (P : Int), (∀ n ∈ ns, 0 ≤ n) → (fd.length : Int) = P → ((ns.foldl grow fd).length : Int) = ns.foldl (fun a n => a * n) P
  | [], fd, P, _, h => h
  | n :: ns, fd, P, hn, h => by
    refine fold_prod ns (grow fd n) (P * n) (fun m hm => hn m (List.mem_cons_of_mem _ hm)) ?_
    rw [grow_len, ← h]
    have h0 := hn n List.mem_cons_self
    rw [Int.natCast_mul, Int.toNat_of_nonneg h0]
theorem words_prod {ns : List Int} (h : ∀ n ∈ ns, 0 ≤ n) : ((wordsL ns).length : Int) = prodI ns := fold_prod ns [[]] 1 h rfl
/-- all words differ -/
theorem grow_nodup {n : Int} : ∀ {fd : List (List Int)}, fd.Nodup → (grow fd n).Nodup
  | [], _ => by simp [grow]
  | w :: fd, h => by
    obtain ⟨h1, h2⟩ := List.nodup_cons.mp h
    have hg : grow (w :: fd) n = (upto n).map (fun x => w ++ [x]) ++ grow fd n := by simp [grow]
    rw [hg]
    refine List.nodup_append.mpr ⟨?_, grow_nodup h2, fun a ha b hb e => ?_⟩
    · refine List.Pairwise.map _ (fun x y hxy e => ?_) (upto_asc n)
      have := List.append_cancel_left e
      simp at this
      omega
    · obtain ⟨x, _, rfl⟩ := List.mem_map.mp ha
      obtain ⟨v, hv, y, rfl⟩ := grow_mem hb
      have e2 := List.append_inj_left' e rfl
      exact h1 (e2 ▸ hv)
theorem fold_nodup : ∀ (ns : List Int) {fd : List (List Int)}, fd.Nodup → (ns.foldl grow fd).Nodup
  | [], _, h => h
  | n :: ns, _, h => fold_nodup ns (grow_nodup h)
theorem words_nodup (ns : List Int) : (wordsL ns).Nodup := fold_nodup ns (by simp)
abbrev kL (w : List Int) : List Key := w.map Sum.inl
def kvs (W : List (List Int)) (es : List Int) : List (List Key × D) := (W.zip es).map fun p => (kL p.1, .int p.2)
theorem keys_iL : ∀ w : List Int, keysD (w.map D.int) = some (kL w)
  | [] => rfl
  | x :: w => by
    show (match keyD (.int x), keysD (w.map D.int) with | some k, some ks => some (k :: ks) | _, _ => none) = _
    rw [keys_iL w]
    rfl
theorem pairs_kvs : ∀ (W : List (List Int)) (es : List Int), pairsT (zipD (W.map tupI) (iL es)) = some (kvs W es)
  | [], es => by simp [zipD, pairsT, kvs]
  | w :: W, [] => by simp [zipD, pairsT, kvs]
  | w :: W, e :: es => by
    show (match keysD (w.map D.int), pairsT (zipD (W.map tupI) (iL es)) with | some k, some rs => some ((k, D.int e) :: rs) | _, _ => none) = _
    rw [keys_iL, pairs_kvs W es]
    rfl
theorem kL_inj {a b : List Int} (h : kL a = kL b) : a = b := by
  have := congrArg (List.map fun k : Key => match k with | .inl i => i | .inr _ => 0) h
  simpa [kL, List.map_map, Function.comp_def] using this
theorem put_new {acc : List (List Key × D)} {k : List Key} {v : D} (h : ∀ p ∈ acc, p.1 ≠ k) : putD acc k v = acc ++ [(k, v)] := by
  unfold putD
  rw [if_neg]
  intro hc
  obtain ⟨p, hp, e⟩ := List.any_eq_true.mp hc
  exact h p hp (of_decide_eq_true e)
theorem merge_fresh : ∀ (more acc : List (List Key × D)), (more.map (·.1)).Nodup → (∀ p ∈ acc, ∀ q ∈ more, p.1 ≠ q.1) → more.foldl (fun acc kv => putD acc kv.1 kv.2) acc = acc ++ more
  | [], acc, _, _ => by simp
  | q :: more, acc, hn, hd => by
    obtain ⟨h1, h2⟩ := List.nodup_cons.mp hn
    rw [List.foldl_cons, put_new fun p hp => hd p hp q List.mem_cons_self, merge_fresh more _ h2 fun p hp r hr => ?_]
    · simp
    · rcases List.mem_append.mp hp with hp | hp
      · exact hd p hp r (List.mem_cons_of_mem _ hr)
      · rw [List.mem_singleton.mp hp]
        intro e
        exact h1 (List.mem_map.mpr ⟨r, hr, e.symm⟩)
theorem kvs_keys : ∀ (W : List (List Int)) (es : List Int), W.length = es.length → (kvs W es).map (·.1) = W.map kL
  | [], es, _ => by simp [kvs]
  | w :: W, [], h => by simp at h
  | w :: W, e :: es, h => by
    have ih := kvs_keys W es (by simpa using h)
    simp [kvs] at ih ⊢
    exact ih
theorem val_at : ∀ (W : List (List Int)) (es : List Int) (i : Nat) (w : List Int) (x : Int), W.Nodup → W[i]? = some w → es[i]? = some x → valD (kvs W es) (kL w) = some (.int x)
  | [], es, i, w, x, _, h, _ => by simp at h
  | v :: W, [], i, w, x, _, _, h => by simp at h
  | v :: W, e :: es, 0, w, x, _, h, h' => by
    have e1 : v = w := by simpa using h
    have e2 : e = x := by simpa using h'
    subst e1 e2
    simp [valD, kvs]
  | v :: W, e :: es, i + 1, w, x, hn, h, h' => by
    obtain ⟨h1, h2⟩ := List.nodup_cons.mp hn
    have hm : w ∈ W := List.mem_of_getElem? (by simpa using h)
    have hk : ¬ kL v = kL w := fun e => h1 (kL_inj e ▸ hm)
    have ih := val_at W es i w x h2 (by simpa using h) (by simpa using h')
    show ((List.find? (fun kv => decide (kv.1 = kL w)) ((kL v, D.int e) :: kvs W es)).map (·.2)) = _
    rw [List.find?_cons]
    simp only [hk, decide_false]
    exact ih
theorem lspread_ok {sh lot es : List Int} {m : Int} (h : Shp sh) (hl : Lot sh.length lot) (he : Lst sh m lot es) (s : Dk) :
    Ev (F__law_spread [.tup (iL sh), .tup (iL lot), .tup (iL es)]) s (.tup (iL ((wordsL sh).map fun w => nth es (atW sh lot w 0)))) s := by
  have b4 := h.l4
  have few := he.few
  have hb : ∀ n ∈ lot.map (nth sh), 1 ≤ n ∧ n ≤ 4 := fun n hn => by
    obtain ⟨p, hp, rfl⟩ := List.mem_map.mp hn
    exact h.le _ (nth_mem (hl.rng p hp).1 (hl.rng p hp).2)
  have hW : ((wordsL (lot.map (nth sh))).length : Int) = es.length := by rw [words_prod fun n hn => by have := hb n hn; omega, he.len]
  have hWl : (wordsL (lot.map (nth sh))).length = es.length := by omega
  have nd := words_nodup (lot.map (nth sh))
  have hd : gDict [.lst (zipD ((wordsL (lot.map (nth sh))).map tupI) (iL es))] = some (.dT (kvs (wordsL (lot.map (nth sh))) es)) := by
    have hm : mergeD (kvs (wordsL (lot.map (nth sh))) es) = kvs (wordsL (lot.map (nth sh))) es := by
      have := merge_fresh (kvs (wordsL (lot.map (nth sh))) es) [] (by rw [kvs_keys _ _ hWl]; exact nd.map _ fun a b hab e => hab (kL_inj e)) (fun p hp => by cases hp)
      rw [List.nil_append] at this
      exact this
    have h2 : g1O gDictT [.lst (zipD ((wordsL (lot.map (nth sh))).map tupI) (iL es))] = some (.dT (kvs (wordsL (lot.map (nth sh))) es)) := by
      show ((pairsT _).map fun kvs => OD.dT (mergeD kvs)) = _
      rw [pairs_kvs, Option.map_some, hm]
    have h1 : g1O gDictK [.lst (zipD ((wordsL (lot.map (nth sh))).map tupI) (iL es))] = none := by
      obtain ⟨w, W, eW⟩ : ∃ w W, wordsL (lot.map (nth sh)) = w :: W := by
        have hw : ∃ w, w ∈ wordsL sh := by
          have hp : 0 < (wordsL sh).length := by
            have : (0 : Int) < prodI sh := by
              unfold prodI
              have key : ∀ (ns : List Int) (a : Int), 0 < a → (∀ n ∈ ns, 1 ≤ n) → 0 < ns.foldl (fun a n => a * n) a := fun ns => by
                induction ns with
                | nil => exact fun a h _ => h
                | cons n ns ih => exact fun a h hn => ih (a * n) (Int.mul_pos h (by have := hn n List.mem_cons_self; omega)) fun m hm => hn m (List.mem_cons_of_mem _ hm)
              exact key sh 1 (by decide) fun n hn => (h.le n hn).1
            have := words_prod (ns := sh) fun n hn => by have := h.le n hn; omega
            omega
          exact ⟨_, List.getElem_mem hp⟩
        obtain ⟨w, hw⟩ := hw
        have := word_at hw hl.rng
        cases e : wordsL (lot.map (nth sh)) with
        | nil => rw [e] at this; simp at this
        | cons w W => exact ⟨w, W, rfl⟩
      rw [eW]
      cases es with
      | nil => rw [eW] at hWl; simp at hWl
      | cons e es => rfl
    unfold gDict orO
    rw [h1]
    exact h2
  have lc : Ev (eLc (eItems (eCall (cN 1 F__law_worlds) (eAcons (eVar 0) eAnil))) (.nm 4) [4] tYes' (eOp ixD (eVar 3) (eCall (cN 2 F__law_word_of) (eAcons (eVar 1) (eAcons (eVar 4) eAnil)))) [.val (.tup (iL sh)), .val (.tup (iL lot)), .val (.tup (iL es)), .val (.dT (kvs (wordsL (lot.map (nth sh))) es)), .no]) s (.lst (iL ((wordsL sh).map fun w => nth es (atW sh lot w 0)))) s := by
    have bw : (wordsL sh).length ≤ 256 := words_len (fun n hn => (h.le n hn).2) b4
    have e := ev_lc (p := .nm 4) (vs := [4]) (t := tYes') (it := eItems (eCall (cN 1 F__law_worlds) (eAcons (eVar 0) eAnil))) (env := [.val (.tup (iL sh)), .val (.tup (iL lot)), .val (.tup (iL es)), .val (.dT (kvs (wordsL (lot.map (nth sh))) es)), .no]) (s := s) (ev_items (ev_call (ev_acons (ev_var rfl) ev_anil) rfl (lworlds_ok h s)) rfl) (by rw [List.length_map]; have : size7 = 10000000 := rfl; omega)
      (ev_lcMap (e := eOp ixD (eVar 3) (eCall (cN 2 F__law_word_of) (eAcons (eVar 1) (eAcons (eVar 4) eAnil)))) (fun d => match d with | .tup ds => (match ints? ds with | some w => .int (nth es (atW sh lot w 0)) | none => d) | d => d) fun d hd => by
        obtain ⟨w, hwm, rfl⟩ := List.mem_map.mp hd
        obtain ⟨lw, _⟩ := words_mem hwm
        obtain ⟨a0, a1⟩ := at_bound (fun p p0 p1 => world_at hwm p0 p1) lot 0 1 hl.rng (by decide) (by decide)
        refine ⟨_, rfl, ?_⟩
        show Ev _ s (match ints? (iL w) with | some w => D.int (nth es (atW sh lot w 0)) | none => _) s
        rw [show ints? (iL w) = some w from ints_iL w]
        refine ev_iop (ev_var rfl) (ev_call (ev_acons (ev_var rfl) (ev_acons (ev_var rfl) ev_anil)) rfl (lword_of_ok (w := w) (fun p hp => ⟨(hl.rng p hp).1, by rw [lw]; exact (hl.rng p hp).2⟩) hl.len s)) ?_
        show (keysD (iL (lot.map (nth w)))).bind (valD (kvs (wordsL (lot.map (nth sh))) es)) = _
        rw [show keysD (iL (lot.map (nth w))) = some (kL (lot.map (nth w))) from keys_iL _, Option.bind_some]
        exact val_at _ es _ _ _ nd (word_at hwm hl.rng) (get_nth a0 (by rw [he.len]; exact a1)))
    rw [List.map_map] at e
    have e2 : iL ((wordsL sh).map fun w => nth es (atW sh lot w 0)) = (wordsL sh).map ((fun d => match d with | .tup ds => (match ints? ds with | some w => D.int (nth es (atW sh lot w 0)) | none => d) | d => d) ∘ tupI) := by
      unfold iL
      rw [List.map_map]
      refine List.map_congr_left fun w _ => ?_
      show D.int _ = (match ints? (w.map D.int) with | some w => D.int (nth es (atW sh lot w 0)) | none => _)
      rw [ints_iL]
    rw [e2]
    exact e
  exact ev_run (ev_seq (ev_asgN (ev_frz (ev_mapO (ev_acons (ev_frz (ev_mapO (ev_acons (ev_call (ev_acons (ev_var rfl) (ev_acons (ev_var rfl) ev_anil)) rfl (lwords_ok h hl s)) (ev_acons (ev_var rfl) ev_anil)) (show (if ((wordsL (lot.map (nth sh))).map tupI).length ≤ size7 then some (OD.lst (zipD ((wordsL (lot.map (nth sh))).map tupI) (iL es))) else none) = _ from if_pos (by rw [List.length_map]; have : size7 = 10000000 := rfl; omega)))) ev_anil) hd))) (ev_rt (ev_mapA (ev_acons (ev_frz lc) ev_anil) rfl)))
theorem bindP_nm {i : Nat} {d : D} {env : En} : bindP (.nm i) d env = some (env.set i (.val d)) := by simp only [bindP]
theorem big_ok {n : Int} (h : n ≤ 1000000000001) : n < 1000000 ^ 99 := Int.lt_of_le_of_lt h (by decide)
theorem pick_int (ns : List Int) (h : ns ≠ []) (hn : ns.length ≤ 1000) (s : Dk) (hl : Fit s) : ∃ n s', n ∈ ns ∧ Ev (F__law_pick [.deck, .lst (iL ns)]) s (.int n) s' ∧ Fit s' := by
  obtain ⟨d, s', hd, e, f⟩ := pick_ok (iL ns) (by simpa using h) (by rw [List.length_map]; omega) s hl
  obtain ⟨n, hn, rfl⟩ := List.mem_map.mp hd
  exact ⟨n, s', hn, e, f⟩
/-- a display of whole numbers -/
def litA : List Int → En → M (List D)
  | [] => eAnil
  | n :: ns => eAcons (eC (.int n)) (litA ns)
theorem lit_ok : ∀ (ns : List Int) (env : En) (s : Dk), Ev (litA ns env) s (iL ns) s
  | [], _, _ => ev_anil
  | n :: ns, env, s => ev_acons ev_c (lit_ok ns env s)
theorem lit_lst (ns : List Int) (h : ns.length ≤ 1000) (env : En) (s : Dk) : Ev (eFrz (eMapO gLstO (litA ns)) env) s (.lst (iL ns)) s := ev_frz (ev_mapO (lit_ok ns env s) (show gLstO (iL ns) = some (.lst (iL ns)) by unfold gLstO; rw [if_pos (by rw [List.length_map]; exact h)]))
theorem pick_lit (ns : List Int) (h : ns ≠ []) (hn : ns.length ≤ 1000) (env : En) (hd : env[0]? = some (.val .deck)) (s : Dk) (hl : Fit s) : ∃ n s', n ∈ ns ∧ Ev (eCall (cN 2 F__law_pick) (eAcons (eVar 0) (eAcons (eFrz (eMapO gLstO (litA ns))) eAnil)) env) s (.int n) s' ∧ Fit s' := by
  obtain ⟨n, s', hm, e, f⟩ := pick_int ns h hn s hl
  exact ⟨n, s', hm, ev_call (ev_acons (ev_var hd) (ev_acons (lit_lst ns hn env s) ev_anil)) rfl e, f⟩
theorem set_iL {ns : List Int} {j : Nat} {x : Int} : (iL ns).set j (.int x) = iL (ns.set j x) := by
  show (ns.map D.int).set j (D.int x) = (ns.set j x).map D.int
  rw [List.map_set]
/-! the law's shape -/
abbrev shB : En → M Fl := sIf (tBor [2] (tVal (eOp gtD (eMapA (g1 lenD) (eAcons (eCall (cN 1 F__law_worlds) (eAcons (eVar 2) eAnil)) eAnil)) (eVar 1)))) (sStore 2 (eVar 3) (eIf (tVal (eOp ltD (eVar 3) (eC (.int 2)))) (eCall (cN 2 F__law_pick) (eAcons (eVar 0) (eAcons (eFrz (eMapO gLstO (litA [1, 2, 2]))) eAnil))) (eC (.int 1)))) sNext
theorem set_bound {ns : List Int} {j : Nat} {x : Int} (h : ∀ n ∈ ns, 1 ≤ n ∧ n ≤ 4) (hx : 1 ≤ x ∧ x ≤ 4) : ∀ n ∈ ns.set j x, 1 ≤ n ∧ n ≤ 4 := fun n hn => by
  rcases List.mem_or_eq_of_mem_set hn with h1 | h1
  · exact h n h1
  · exact h1 ▸ hx
theorem shape_loop (most : Int) : ∀ (ts : List Int) (ns : List Int) (z : Slot) (s : Dk), Fit s → (∀ t ∈ ts, 0 ≤ t ∧ t < ns.length) → ns.length ≤ 4 → (∀ n ∈ ns, 1 ≤ n ∧ n ≤ 4) →
    ∃ ns' z' s', Ev (forM' (.nm 3) shB (iL ts) [.val .deck, .val (.int most), .own (.lst (iL ns)), z, .no]) s (.nx [.val .deck, .val (.int most), .own (.lst (iL ns')), z', .no]) s' ∧ ns'.length = ns.length ∧ (∀ n ∈ ns', 1 ≤ n ∧ n ≤ 4) ∧ Fit s'
  | [], ns, z, s, f, _, _, hb => ⟨ns, z, s, ev_for0, rfl, hb, f⟩
  | t :: ts, ns, z, s, f, ht, hl, hb => by
    obtain ⟨t0, t1⟩ := ht t List.mem_cons_self
    have ew := law_worlds_ok false (ns := ns) s (fun n hn => by have := hb n hn; omega) (fun j hj => Nat.le_trans (words_len (fun n hn => (hb n (List.mem_of_mem_take hn)).2) (by rw [List.length_take]; omega)) (by decide)) (by omega)
    have test : Ev (tBor [2] (tVal (eOp gtD (eMapA (g1 lenD) (eAcons (eCall (cN 1 F__law_worlds) (eAcons (eVar 2) eAnil)) eAnil)) (eVar 1))) [.val .deck, .val (.int most), .own (.lst (iL ns)), .val (.int t), .no]) s (decide (most < (((wordsL ns).map tupI).length : Int))) s :=
      ev_tbor (ev_tval (ev_iop (ev_mapA (ev_acons (ev_call (ev_acons (ev_var rfl) ev_anil) rfl ew) ev_anil) rfl) (ev_var rfl) rfl))
    by_cases hc : most < (((wordsL ns).map tupI).length : Int)
    · obtain ⟨x, s1, ex, hx, f1⟩ : ∃ x s1, Ev (eIf (tVal (eOp ltD (eVar 3) (eC (.int 2)))) (eCall (cN 2 F__law_pick) (eAcons (eVar 0) (eAcons (eFrz (eMapO gLstO (litA [1, 2, 2]))) eAnil))) (eC (.int 1)) [.val .deck, .val (.int most), .own (.lst (iL ns)), .val (.int t), .no]) s (.int x) s1 ∧ (1 ≤ x ∧ x ≤ 4) ∧ Fit s1 := by
        by_cases h2 : t < 2
        · obtain ⟨x, s1, hm, e, f1⟩ := pick_lit [1, 2, 2] (by simp) (by decide) [.val .deck, .val (.int most), .own (.lst (iL ns)), .val (.int t), .no] rfl s f
          refine ⟨x, s1, ev_if (c := true) (ev_tval (ev_iop (ev_var rfl) ev_c (by simp [ltD, h2]))) (fun _ => e) (fun h => by cases h), ?_, f1⟩
          simp at hm
          omega
        · exact ⟨1, s, ev_if (c := false) (ev_tval (ev_iop (ev_var rfl) ev_c (by simp [ltD, h2]))) (fun h => by cases h) (fun _ => ev_c), by decide, f⟩
      obtain ⟨ns', z', s2, e2, l2, b2, f2⟩ := shape_loop most ts (ns.set t.toNat x) (.val (.int t)) s1 f1 (fun u hu => by rw [List.length_set]; exact ht u (List.mem_cons_of_mem _ hu)) (by rw [List.length_set]; exact hl) (set_bound hb hx)
      refine ⟨ns', z', s2, ev_for1 rfl (ev_sif (c := true) (ev_eqR test (by simp only [hc, decide_true])) (fun _ => ev_store (i := 2) (k := t) (j := t.toNat) rfl ex (ev_var rfl) (ixN_nn t0 (by rw [List.length_map]; exact t1))) (fun h => by cases h)) ?_, by rw [l2, List.length_set], b2, f2⟩
      rw [set_iL]
      exact e2
    · obtain ⟨ns', z', s2, e2, l2, b2, f2⟩ := shape_loop most ts ns (.val (.int t)) s f (fun u hu => ht u (List.mem_cons_of_mem _ hu)) hl hb
      exact ⟨ns', z', s2, ev_for1 rfl (ev_sif (c := false) (ev_eqR test (by simp only [hc, decide_false])) (fun h => by cases h) (fun _ => ev_next)) e2, l2, b2, f2⟩
theorem len_rangeD (n : Int) (h : 0 ≤ n) : (rangeD 0 n).length = n.toNat := by rw [rangeD_upto, List.length_map, upto_len]
theorem shape_draw (most : Int) (s : Dk) (hl : Fit s) : ∃ sh s', Shp sh ∧ Ev (F__law_shape [.deck, .int most]) s (.tup (iL sh)) s' ∧ Fit s' := by
  obtain ⟨n, s1, hn, e1, f1⟩ := pick_lit [2, 3, 1, 2, 4, 3] (by simp) (by decide) [.val .deck, .val (.int most), .no, .no, .no] rfl s hl
  have hn4 : 1 ≤ n ∧ n ≤ 4 := by simp at hn; omega
  obtain ⟨ns, s2, e2, l2, b2, f2⟩ := lc_ints (p := .nm 4) (e := eOp addD (eC (.int 1)) (eCall (cN 2 F__law_draw) (eAcons (eVar 0) (eAcons (eC (.int 4)) eAnil)))) (env := [.val .deck, .val (.int most), .no, .no, .no]) (fun n => 1 ≤ n ∧ n ≤ 4) (rangeD 0 n) s1 f1 (fun d hd => ⟨_, bindP_nm, fun s f => by
    obtain ⟨r, s', e, r0, r1, f'⟩ := draw_ok 4 (by decide) (by decide) s f
    exact ⟨1 + r, s', ev_iop ev_c (ev_call (ev_acons (ev_var rfl) (ev_acons ev_c ev_anil)) rfl e) rfl, by omega, f'⟩⟩)
  have hl2 : ns.length = n.toNat := by rw [l2, len_rangeD n (by omega)]
  obtain ⟨ns', z', s3, e3, l3, b3, f3⟩ := shape_loop most (upto ns.length) ns .no s2 f2 (fun t ht => upto_mem.mp ht) (by omega) b2
  refine ⟨ns', s3, ⟨by omega, by omega, b3⟩, ev_run (ev_seq (ev_asgO (ev_lc (ev_mapI (ev_acons e1 ev_anil) (show (if small62 n = true then some (rangeD 0 n) else none) = some (rangeD 0 n) from if_pos (small62_of (by omega) (by omega)))) (by rw [len_rangeD n (by omega)]; have : size7 = 10000000 := rfl; omega) e2)) (ev_seq (ev_for (ds := iL (upto ns.length)) (ev_mapI (ev_acons (ev_ownLen rfl) ev_anil) ?_) e3) (ev_sfrz rfl (ev_rt (ev_mapA (ev_acons (ev_var rfl) ev_anil) rfl))))), f3⟩
  show (if small62 ((iL ns).length : Nat) = true then some (rangeD 0 ((iL ns).length : Nat)) else none) = _
  rw [List.length_map, if_pos (small62_of (by omega) (by omega)), rangeD_upto]
/-! moduli, numbers, entries -/
theorem modulus_draw (s : Dk) (hl : Fit s) : ∃ m s', (m = 0 ∨ 2 ≤ m) ∧ m ≤ 1000000000000 ∧ Ev (F__law_modulus [.deck]) s (.int m) s' ∧ Fit s' := by
  obtain ⟨m, s', hm, e, f⟩ := pick_int [0, 2, 3, 4, 5, 6, 0, 8, 9, 12, 7, 30, 1000000000000, 999999999989, 2] (by simp) (by decide) s hl
  refine ⟨m, s', ?_, ?_, ev_run (ev_rt (ev_call (ev_acons (ev_var rfl) (ev_acons (ev_frz (ev_mapO (ds := iL [0, 2, 3, 4, 5, 6, 0, 8, 9, 12, 7, 30, 1000000000000, 999999999989, 2]) (by
    iterate 12 refine ev_acons ev_c ?_
    refine ev_acons (ev_iop ev_c ev_c rfl) ?_
    iterate 2 refine ev_acons ev_c ?_
    exact ev_anil) rfl)) ev_anil)) rfl e)), f⟩
  · simp at hm; omega
  · simp at hm; omega
theorem number_draw {m size : Int} (hm : m = 0 ∨ 2 ≤ m) (h1 : m ≤ 1000000000000) (hs : 0 ≤ size) (hs1 : size ≤ 1000000000000) (s : Dk) (hl : Fit s) : ∃ x s', Nm m x ∧ x.natAbs ≤ 1000000000000 ∧ Ev (F__law_number [.deck, .int m, .int size]) s (.int x) s' ∧ Fit s' := by
  by_cases hz : m = 0
  · obtain ⟨r, s1, e1, r0, r1, f1⟩ := great_ok (size + 1) (by omega) (big_ok (by omega)) s hl
    obtain ⟨q, s2, hq, e2, f2⟩ := pick_int [1, -1] (by simp) (by decide) s1 f1
    have hq' : q = 1 ∨ q = -1 := by simpa using hq
    refine ⟨r * q, s2, .inl hz, ?_, ev_run (ev_seqR (ev_sif (c := true) (ev_tval (ev_iop (ev_var rfl) ev_c (by rw [eq_int]; simp [hz]))) (fun _ => ev_rt (ev_iop (ev_call (ev_acons (ev_var rfl) (ev_acons (ev_iop (ev_var rfl) ev_c rfl) ev_anil)) rfl e1) (ev_call (ev_acons (ev_var rfl) (ev_acons (ev_frz (ev_mapO (ds := iL [1, -1]) (ev_acons ev_c (ev_acons (ev_un ev_c rfl) ev_anil)) rfl)) ev_anil)) rfl e2) (mulD_r ?_))) (fun h => by cases h))), f2⟩
    · rcases hq' with rfl | rfl <;> omega
    · rcases hq' with rfl | rfl <;> decide
  · have h2 := hm.resolve_left hz
    obtain ⟨r, s1, e1, r0, r1, f1⟩ := great_ok m (by omega) (big_ok (by omega)) s hl
    exact ⟨r, s1, .inr ⟨r0, r1⟩, by omega, ev_run (ev_seq (ev_sif (c := false) (ev_tval (ev_iop (ev_var rfl) ev_c (by rw [eq_int]; simp [hz]))) (fun h => by cases h) (fun _ => ev_next)) (ev_rt (ev_call (ev_acons (ev_var rfl) (ev_acons (ev_var rfl) ev_anil)) rfl e1))), f1⟩
theorem entries_draw {sh lot : List Int} {m size : Int} (h : Shp sh) (hl : Lot sh.length lot) (hm : m = 0 ∨ 2 ≤ m) (h1 : m ≤ 1000000000000) (hs : 0 ≤ size) (hs1 : size ≤ 1000000000000) (s : Dk) (f : Fit s) :
    ∃ es s', Lst sh m lot es ∧ (∀ x ∈ es, x.natAbs ≤ 1000000000000) ∧ Ev (F__law_entries [.deck, .tup (iL sh), .int m, .tup (iL lot), .int size]) s (.tup (iL es)) s' ∧ Fit s' := by
  have hb : ∀ n ∈ lot.map (nth sh), 1 ≤ n ∧ n ≤ 4 := fun n hn => by
    obtain ⟨p, hp, rfl⟩ := List.mem_map.mp hn
    exact h.le _ (nth_mem (hl.rng p hp).1 (hl.rng p hp).2)
  have bw : (wordsL (lot.map (nth sh))).length ≤ 256 := words_len (fun n hn => (hb n hn).2) (by rw [List.length_map]; exact hl.len)
  obtain ⟨es, s', e, l, hP, f'⟩ := lc_ints (p := .nm 5) (e := eIf (tVal (eOp gtD (eCall (cN 2 F__law_draw) (eAcons (eVar 0) (eAcons (eC (.int 5)) eAnil))) (eC (.int 0)))) (eCall (cN 3 F__law_number) (eAcons (eVar 0) (eAcons (eVar 2) (eAcons (eVar 4) eAnil)))) (eC (.int 0))) (env := [.val .deck, .val (.tup (iL sh)), .val (.int m), .val (.tup (iL lot)), .val (.int size), .no]) (fun x => Nm m x ∧ x.natAbs ≤ 1000000000000) ((wordsL (lot.map (nth sh))).map tupI) s f (fun d hd => ⟨_, bindP_nm, fun s f => by
    obtain ⟨r, s1, e1, r0, r1, f1⟩ := draw_ok 5 (by decide) (by decide) s f
    by_cases hr : 0 < r
    · obtain ⟨x, s2, n1, n2, e2, f2⟩ := number_draw hm h1 hs hs1 s1 f1
      exact ⟨x, s2, ev_if (c := true) (ev_tval (ev_iop (ev_call (ev_acons (ev_var rfl) (ev_acons ev_c ev_anil)) rfl e1) ev_c (by simp [gtD, hr]))) (fun _ => ev_call (ev_acons (ev_var rfl) (ev_acons (ev_var rfl) (ev_acons (ev_var rfl) ev_anil))) rfl e2) (fun h => by cases h), ⟨n1, n2⟩, f2⟩
    · refine ⟨0, s1, ev_if (c := false) (ev_tval (ev_iop (ev_call (ev_acons (ev_var rfl) (ev_acons ev_c ev_anil)) rfl e1) ev_c (by simp [gtD, hr]))) (fun h => by cases h) (fun _ => ev_c), ⟨?_, by decide⟩, f1⟩
      rcases hm with hm | hm
      · exact .inl hm
      · exact .inr ⟨by omega, by omega⟩⟩)
  rw [List.length_map] at l
  refine ⟨es, s', ⟨?_, fun x hx => (hP x hx).1, by omega⟩, fun x hx => (hP x hx).2, ev_run (ev_rt (ev_mapA (ev_acons (ev_frz (ev_lc (ev_items (ev_call (ev_acons (ev_var rfl) (ev_acons (ev_var rfl) ev_anil)) rfl (lwords_ok h hl s)) rfl) (by rw [List.length_map]; have : size7 = 10000000 := rfl; omega) e)) ev_anil) rfl)), f'⟩
  rw [l]
  exact words_prod fun n hn => by have := hb n hn; omega
theorem sub_lot {k : Nat} {lot low : List Int} (h : Lot k lot) (hs : low.Sublist lot) : Lot k low := ⟨h.asc.sublist hs, fun p hp => h.rng p (hs.subset hp), Nat.le_trans hs.length_le h.len⟩
/-! ### what is shown -/
theorem shw_ints {ns : List Int} {k : Nat} (h0 : 0 < k) (hk : k ≤ 500) (h : ∀ n ∈ ns, n.natAbs < 10 ^ k) : Shw (.tup (iL ns)) 1 (ns.length * (k + 3) + 3) := by
  have := shw_tup (ds := iL ns) (h := 0) (n := k + 1) fun d hd => by
    obtain ⟨n, hn, rfl⟩ := List.mem_map.mp hd
    exact shw_int h0 hk (h n hn)
  rw [List.length_map] at this
  exact this
theorem word_small {ns w : List Int} (h : ∀ n ∈ ns, n ≤ 4) (hw : w ∈ wordsL ns) : ∀ x ∈ w, 0 ≤ x ∧ x < 4 := fun x hx => by
  obtain ⟨l, hw⟩ := words_mem hw
  obtain ⟨i, hi, rfl⟩ := List.getElem_of_mem hx
  have := hw i (ns[i]'(by omega)) w[i] (List.getElem?_eq_getElem _) (List.getElem?_eq_getElem _)
  have h4 := h _ (List.getElem_mem (l := ns) (n := i) (by omega))
  omega
theorem word_shw {ns w : List Int} (h : ∀ n ∈ ns, n ≤ 4) (hl : ns.length ≤ 4) (hw : w ∈ wordsL ns) : Shw (tupI w) 1 19 := by
  have l := (words_mem hw).1
  refine shw_mono (shw_ints (ns := w) (k := 1) (by decide) (by decide) fun n hn => ?_) (Nat.le_refl _) ?_
  · have := word_small h hw n hn
    omega
  · have : w.length * (1 + 3) ≤ 4 * (1 + 3) := Nat.mul_le_mul_right _ (by omega)
    omega
theorem words_shw {ns : List Int} (h : ∀ n ∈ ns, n ≤ 4) (hl : ns.length ≤ 4) : Shw (.tup ((wordsL ns).map tupI)) 2 6000 := by
  refine shw_mono (shw_tup (h := 1) (n := 19) fun d hd => ?_) (Nat.le_refl _) ?_
  · obtain ⟨w, hw, rfl⟩ := List.mem_map.mp hd
    exact word_shw h hl hw
  · rw [List.length_map]
    have := Nat.mul_le_mul_right (19 + 2) (words_len h hl)
    omega
/-! ### is it () -/
theorem toPs_iL : ∀ ns : List Int, D.toPs (iL ns) = some (ns.map PyData.int)
  | [] => rfl
  | n :: ns => by
    show (match D.toP (.int n), D.toPs (iL ns) with | some p, some r => some (p :: r) | _, _ => none) = _
    rw [toPs_iL ns]
    rfl
theorem shaped_ints (ns : List Int) : SeqAt.shaped (.tuple (ns.map PyData.int)) = true := by
  unfold SeqAt.shaped
  rw [Bool.and_eq_true]
  refine ⟨?_, decide_eq_true ?_⟩
  · simp only [PyData.canLay0]
    exact lay_all fun p hp => by
      obtain ⟨n, _, rfl⟩ := List.mem_map.mp hp
      rfl
  · simp only [PyData.depth]
    have := depth_all (ps := ns.map PyData.int) (k := 0) fun p hp => by
      obtain ⟨n, _, rfl⟩ := List.mem_map.mp hp
      simp [PyData.depth]
    omega
theorem ne_nil (ns : List Int) : neD (.tup (iL ns)) (.tup []) = some (.bl (!ns.isEmpty)) := by
  have e1 : D.toP (.tup (iL ns)) = some (.tuple (ns.map PyData.int)) := by
    show (D.toPs (iL ns)).map PyData.tuple = _
    rw [toPs_iL]; rfl
  have e2 : D.toP (.tup []) = some (.tuple []) := rfl
  unfold neD
  rw [e1, e2]
  simp only [shaped_ints, show SeqAt.shaped (.tuple []) = true from shaped_ints [], Bool.and_self, if_true]
  cases ns with
  | nil => simp [PyData.eqv, PyData.eqvAll]
  | cons n ns => simp [PyData.eqv, PyData.eqvAll]
theorem eq_nil (ns : List Int) : eqD (.tup (iL ns)) (.tup []) = some (.bl ns.isEmpty) := by
  have e1 : D.toP (.tup (iL ns)) = some (.tuple (ns.map PyData.int)) := by
    show (D.toPs (iL ns)).map PyData.tuple = _
    rw [toPs_iL]; rfl
  have e2 : D.toP (.tup []) = some (.tuple []) := rfl
  unfold eqD
  rw [e1, e2]
  simp only [shaped_ints, show SeqAt.shaped (.tuple []) = true from shaped_ints [], Bool.and_self, if_true]
  cases ns with
  | nil => simp [PyData.eqv, PyData.eqvAll]
  | cons n ns => simp [PyData.eqv, PyData.eqvAll]
/-! ### the places of a lot within another one -/
def spotsF (low : List Int) : Nat → List Int → List Int
  | _, [] => []
  | k, p :: r => if p ∈ low then (k : Int) :: spotsF low (k + 1) r else spotsF low (k + 1) r
theorem spots_bound (low : List Int) : ∀ (lot : List Int) (k : Nat), (spotsF low k lot).Pairwise (· < ·) ∧ (∀ a ∈ spotsF low k lot, (k : Int) ≤ a ∧ a < (k + lot.length : Nat)) ∧ (spotsF low k lot).length ≤ lot.length
  | [], k => by simp [spotsF]
  | p :: r, k => by
    obtain ⟨h1, h2, h3⟩ := spots_bound low r (k + 1)
    unfold spotsF
    by_cases hp : p ∈ low
    · rw [if_pos hp]
      refine ⟨List.pairwise_cons.mpr ⟨fun a ha => ?_, h1⟩, fun a ha => ?_, by simp; omega⟩
      · have := (h2 a ha).1
        omega
      · rcases List.mem_cons.mp ha with rfl | ha
        · simp; omega
        · have := h2 a ha
          simp at this ⊢
          omega
    · rw [if_neg hp]
      refine ⟨h1, fun a ha => ?_, by simp; omega⟩
      have := h2 a ha
      simp at this ⊢
      omega
theorem spots_map (low : List Int) (f : Int → Int) : ∀ (lot : List Int) (k : Nat) (pre : List Int), pre.length = k → (spotsF low k lot).map (nth (pre ++ lot.map f)) = (lot.filter fun p => decide (p ∈ low)).map f
  | [], k, pre, _ => by simp [spotsF]
  | p :: r, k, pre, hk => by
    have ih := spots_map low f r (k + 1) (pre ++ [f p]) (by simp [hk])
    rw [List.append_assoc] at ih
    have e : pre ++ ([f p] ++ r.map f) = pre ++ (p :: r).map f := rfl
    rw [e] at ih
    unfold spotsF
    by_cases hp : p ∈ low
    · rw [if_pos hp, List.map_cons, ih, List.filter_cons_of_pos (by simpa using hp), List.map_cons]
      congr 1
      unfold nth
      rw [Int.toNat_natCast, List.getD_eq_getElem?_getD, List.getElem?_append_right (by omega), hk, Nat.sub_self]
      rfl
    · rw [if_neg hp, ih, List.filter_cons_of_neg (by simpa using hp)]
theorem filter_sub {lot low : List Int} (hs : low.Sublist lot) : lot.Nodup → (lot.filter fun p => decide (p ∈ low)) = low := by
  induction hs with
  | slnil => intro _; rfl
  | @cons low lot a hs ih =>
    intro hn
    obtain ⟨h1, h2⟩ := List.nodup_cons.mp hn
    rw [List.filter_cons_of_neg (by simpa using fun h => h1 (hs.subset h))]
    exact ih h2
  | @cons_cons low lot a hs ih =>
    intro hn
    obtain ⟨h1, h2⟩ := List.nodup_cons.mp hn
    rw [List.filter_cons_of_pos (by simp)]
    congr 1
    rw [List.filter_congr (q := fun p => decide (p ∈ low)) fun x hx => ?_]
    · exact ih h2
    · have : x ≠ a := fun e => h1 (e ▸ hx)
      simp [this]
abbrev spots (low lot : List Int) : List Int := spotsF low 0 lot
theorem asc_nodup {lot : List Int} (h : lot.Pairwise (· < ·)) : lot.Nodup := h.imp fun hxy e => by omega
theorem spots_nth {k : Nat} {lot low : List Int} (h : Lot k lot) (hs : low.Sublist lot) (f : Int → Int) : (spots low lot).map (nth (lot.map f)) = low.map f := by
  have := spots_map low f lot 0 [] rfl
  rw [List.nil_append, filter_sub hs (asc_nodup h.asc)] at this
  exact this
theorem spots_lot {k : Nat} {lot low : List Int} (h : Lot k lot) : Lot lot.length (spots low lot) := by
  obtain ⟨h1, h2, h3⟩ := spots_bound low lot 0
  exact ⟨h1, fun p hp => by have := h2 p hp; simpa using this, Nat.le_trans h3 h.len⟩
theorem bindP_2 {i j : Nat} {x y : D} {env : En} : bindP (.tp [.nm i, .nm j]) (.tup [x, y]) env = some ((env.set i (.val x)).set j (.val y)) := by simp [bindP, bindPs, seqOf]
theorem ints_iL' (w : List Int) : ints? (iL w) = some w := ints_iL w
theorem in_iL (p : Int) (low : List Int) : inI false (.int p) (.tup (iL low)) = some (.bl (decide (p ∈ low))) := by
  show (ints? (iL low)).map _ = _
  rw [ints_iL']
  rfl
theorem get_set2 {env : En} {i j l : Nat} {a b : Slot} (h1 : i ≠ l) (h2 : j ≠ l) : ((env.set i a).set j b)[l]? = env[l]? := by rw [List.getElem?_set_ne h2, List.getElem?_set_ne h1]
theorem spots_ev {i j l : Nat} {low : List Int} (hij : i ≠ j) (hil : i ≠ l) (hjl : j ≠ l) {env : En} (hl : env[l]? = some (.val (.tup (iL low)))) (hi : i < env.length) (hj : j < env.length) : ∀ (lot : List Int) (k : Nat) (s : Dk),
    Ev (lcM (.tp [.nm i, .nm j]) (tVal (eOp (inI false) (eVar j) (eVar l))) (eVar i) env (enumD k (iL lot))) s (iL (spotsF low k lot)) s
  | [], k, s => rfl
  | p :: r, k, s => by
    have ih := spots_ev hij hil hjl hl hi hj r (k + 1) s
    have g1 : ((env.set i (.val (.int k))).set j (.val (.int p)))[j]? = some (.val (.int p)) := List.getElem?_set_self (by rw [List.length_set]; exact hj)
    have g2 : ((env.set i (.val (.int k))).set j (.val (.int p)))[i]? = some (.val (.int k)) := by rw [List.getElem?_set_ne (Ne.symm hij)]; exact List.getElem?_set_self hi
    have g3 : ((env.set i (.val (.int k))).set j (.val (.int p)))[l]? = some (.val (.tup (iL low))) := by rw [get_set2 hil hjl]; exact hl
    have test : Ev (tVal (eOp (inI false) (eVar j) (eVar l)) ((env.set i (.val (.int k))).set j (.val (.int p)))) s (decide (p ∈ low)) s := ev_tval (ev_iop (ev_var g1) (ev_var g3) (in_iL p low))
    show Ev (lcM _ _ _ env (D.tup [.int k, .int p] :: enumD (k + 1) (iL r))) s _ s
    unfold spotsF
    by_cases hp : p ∈ low
    · rw [if_pos hp]
      exact ev_lc1 bindP_2 (ev_eqR test (by simp [hp])) (ev_var g2) ih
    · rw [if_neg hp]
      exact ev_lc2 bindP_2 (ev_eqR test (by simp [hp])) ih
theorem enum_len : ∀ (ds : List D) (k : Nat), (enumD k ds).length = ds.length
  | [], k => rfl
  | d :: ds, k => by
    show (enumD (k + 1) ds).length + 1 = ds.length + 1
    rw [enum_len ds]
theorem small_shp {sh lot : List Int} (h : Shp sh) (hl : Lot sh.length lot) (hn : lot ≠ []) : Shp (lot.map (nth sh)) := by
  refine ⟨?_, by rw [List.length_map]; exact hl.len, fun n hn => ?_⟩
  · rw [List.length_map]
    exact List.length_pos_iff.mpr hn
  · obtain ⟨p, hp, rfl⟩ := List.mem_map.mp hn
    exact h.le _ (nth_mem (hl.rng p hp).1 (hl.rng p hp).2)
theorem lot_le {sh lot : List Int} (h : Shp sh) (hl : Lot sh.length lot) : ∀ n ∈ lot.map (nth sh), n ≤ 4 := fun n hn => by
  obtain ⟨p, hp, rfl⟩ := List.mem_map.mp hn
  exact (h.le _ (nth_mem (hl.rng p hp).1 (hl.rng p hp).2)).2
theorem near_mem {sh lot w : List Int} (hw : w ∈ wordsL sh) (hl : Lot sh.length lot) : lot.map (nth w) ∈ wordsL (lot.map (nth sh)) := List.mem_of_getElem? (word_at hw hl.rng)
theorem near_len {sh lot w : List Int} (hw : w ∈ wordsL sh) (hl : Lot sh.length lot) : ∀ p ∈ lot, 0 ≤ p ∧ p < w.length := fun p hp => ⟨(hl.rng p hp).1, by rw [(words_mem hw).1]; exact (hl.rng p hp).2⟩
/-- tuple([shape[place] for place in lot]) -/
theorem small_ev {i j l : Nat} {sh lot : List Int} {env : En} {s : Dk} (hl : Lot sh.length lot) (h1 : env[i]? = some (.val (.tup (iL lot)))) (h2 : env[j]? = some (.val (.tup (iL sh)))) (hj : l ≠ j) (hlen : l < env.length) :
    Ev (eMapA (g1 tupleD) (eAcons (eFrz (eLc (eItems (eVar i)) (.nm l) [l] tYes' (eOp ixD (eVar j) (eVar l)))) eAnil) env) s (.tup (iL (lot.map (nth sh)))) s := by
  have wl : (wipeE env [l]).length = env.length := by simp [wipeE]
  have w1 : (wipeE env [l])[j]? = some (.val (.tup (iL sh))) := by
    simp only [wipeE]
    rw [List.getElem?_set_ne hj]; exact h2
  have lc := pick_map (env := env) (s := s) (it := eItems (eVar i)) (ex := eOp ixD (eVar j) (eVar l)) (i := l) (lot := lot) (fun p => .int (nth sh p)) (ev_items (ev_var h1) rfl) (by have := hl.len; omega) fun p hp => ev_iop (x := .tup (iL sh)) (y := .int p) (ev_var (by rw [List.getElem?_set_ne hj]; exact w1)) (ev_var (List.getElem?_set_self (by rw [wl]; exact hlen))) (nth_at (hl.rng p hp).1 (hl.rng p hp).2)
  have e2 : (lot.map fun p => D.int (nth sh p)) = iL (lot.map (nth sh)) := by unfold iL; rw [List.map_map]; rfl
  rw [e2] at lc
  exact ev_mapA (ev_acons (ev_frz lc) ev_anil) rfl
/-- tuple([at for at, place in enumerate(lot) if place in low]) -/
theorem spots_tup {i a b l : Nat} {lot low : List Int} {env : En} {s : Dk} (hl : lot.length ≤ 4) (h1 : env[i]? = some (.val (.tup (iL lot)))) (h2 : env[l]? = some (.val (.tup (iL low)))) (hab : a ≠ b) (hal : a ≠ l) (hbl : b ≠ l) (ha : a < env.length) (hb : b < env.length) :
    Ev (eMapA (g1 tupleD) (eAcons (eFrz (eLc (eMapI gEnum (eAcons (eVar i) eAnil)) (.tp [.nm a, .nm b]) [a, b] (tVal (eOp (inI false) (eVar b) (eVar l))) (eVar a))) eAnil) env) s (.tup (iL (spots low lot))) s := by
  have w1 : (wipeE env [a, b])[l]? = some (.val (.tup (iL low))) := by
    simp only [wipeE]
    rw [List.getElem?_set_ne (by omega), List.getElem?_set_ne (by omega)]
    exact h2
  have e := spots_ev hab hal hbl w1 (by simp [wipeE]; exact ha) (by simp [wipeE]; exact hb) lot 0 s
  exact ev_mapA (ev_acons (ev_frz (ev_lc (ev_mapI (ev_acons (ev_var h1) ev_anil) rfl) (by rw [enum_len, List.length_map]; have : size7 = 10000000 := rfl; omega) e)) ev_anil) rfl
theorem nth_map {xs : List Int} {f : Int → Int} {p : Int} (h0 : 0 ≤ p) (h1 : p < xs.length) : nth (xs.map f) p = f (nth xs p) := by
  have hk : p.toNat < xs.length := by omega
  unfold nth
  rw [List.getD_eq_getElem?_getD, List.getD_eq_getElem?_getD, List.getElem?_map, List.getElem?_eq_getElem hk]
  rfl
theorem at_spots {sh w lot : List Int} : ∀ (ps : List Int) (a : Int), (∀ p ∈ ps, 0 ≤ p ∧ p < lot.length) → atW (lot.map (nth sh)) ps (lot.map (nth w)) a = atW sh (ps.map (nth lot)) w a
  | [], a, _ => rfl
  | p :: ps, a, h => by
    obtain ⟨p0, p1⟩ := h p List.mem_cons_self
    show atW _ ps _ (a * nth (lot.map (nth sh)) p + nth (lot.map (nth w)) p) = atW sh (ps.map (nth lot)) w (a * nth sh (nth lot p) + nth w (nth lot p))
    rw [nth_map p0 p1, nth_map p0 p1]
    exact at_spots ps _ fun q hq => h q (List.mem_cons_of_mem _ hq)
theorem spots_self {k : Nat} {lot low : List Int} (h : Lot k lot) (hs : low.Sublist lot) : (spots low lot).map (nth lot) = low := by
  have := spots_nth h hs id
  rw [List.map_id, List.map_id] at this
  exact this
theorem nth_or {xs : List Int} (p : Int) : nth xs p ∈ xs ∨ nth xs p = 0 := by
  unfold nth
  rw [List.getD_eq_getElem?_getD]
  cases e : xs[p.toNat]? with
  | none => exact .inr rfl
  | some x => exact .inl (List.mem_of_getElem? e)
theorem nm_zero {m : Int} (h : Md m) : Nm m 0 := by
  rcases h.ok with h | h
  · exact .inl h
  · exact .inr ⟨by omega, by omega⟩
theorem nth_map_get {W : List (List Int)} {g : List Int → Int} {a : Int} {v : List Int} (h : W[a.toNat]? = some v) : nth (W.map g) a = g v := by
  unfold nth
  rw [List.getD_eq_getElem?_getD, List.getElem?_map, h]
  rfl
/-- the spread table -/
def sprL (sh lot es : List Int) : List Int := (wordsL sh).map fun w => nth es (atW sh lot w 0)
theorem spr_shw {sh lot es : List Int} (h : Shp sh) (hb : ∀ x ∈ es, x.natAbs ≤ 1000000000000) : Shw (.tup (iL (sprL sh lot es))) 1 5000 := by
  refine shw_mono (shw_ints (k := 13) (by decide) (by decide) fun n hn => ?_) (Nat.le_refl _) ?_
  · obtain ⟨w, _, rfl⟩ := List.mem_map.mp hn
    rcases nth_or (xs := es) (atW sh lot w 0) with h | h
    · exact Nat.lt_of_le_of_lt (hb _ h) (by decide)
    · rw [h]; decide
  · have := words_len (ns := sh) (fun n hn => (h.le n hn).2) h.l4
    unfold sprL
    rw [List.length_map]
    have := Nat.mul_le_mul_right (13 + 3) this
    omega
theorem spr_lst {sh lot es : List Int} {m : Int} (h : Shp sh) (hm : Md m) (hn : ∀ x ∈ es, Nm m x) : Lst sh m (upto sh.length) (sprL sh lot es) := by
  refine ⟨?_, fun x hx => ?_, ?_⟩
  · rw [upto_nth]
    unfold sprL
    rw [List.length_map]
    exact words_prod fun n hn => by have := h.le n hn; omega
  · obtain ⟨w, _, rfl⟩ := List.mem_map.mp hx
    rcases nth_or (xs := es) (atW sh lot w 0) with h | h
    · exact hn _ h
    · rw [h]; exact nm_zero hm
  · unfold sprL
    rw [List.length_map]
    exact words_len (fun n hn => (h.le n hn).2) h.l4
theorem spr_spr {sh lot low es : List Int} (hl : Lot sh.length lot) (hs : low.Sublist lot) : sprL sh lot (sprL (lot.map (nth sh)) (spots low lot) es) = sprL sh low es := by
  unfold sprL
  refine List.map_congr_left fun w hw => ?_
  rw [nth_map_get (word_at hw hl.rng), at_spots _ _ (spots_lot hl).rng, spots_self hl hs]
theorem fold_flat : ∀ (ns : List Int) (fd : List (List Int)), ns.foldl grow fd = fd.flatMap fun w => (wordsL ns).map fun u => w ++ u
  | [], fd => by simp [wordsL]
  | n :: ns, fd => by
    have h1 : wordsL (n :: ns) = (upto n).flatMap fun x => (wordsL ns).map fun u => [x] ++ u := by
      show ns.foldl grow (grow [[]] n) = _
      rw [fold_flat ns]
      simp [grow, List.flatMap_map]
    rw [List.foldl_cons, fold_flat ns, h1]
    unfold grow
    rw [List.flatMap_assoc]
    refine congrArg (fun f => List.flatMap f fd) (funext fun w => ?_)
    rw [List.flatMap_map, List.map_flatMap]
    refine congrArg (fun f => List.flatMap f (upto n)) (funext fun x => ?_)
    rw [List.map_map]
    refine List.map_congr_left fun u _ => ?_
    simp
theorem nth_left {xs ys : List Int} {p : Int} (h0 : 0 ≤ p) (h1 : p < xs.length) : nth (xs ++ ys) p = nth xs p := by
  unfold nth
  rw [List.getD_eq_getElem?_getD, List.getD_eq_getElem?_getD, List.getElem?_append_left (by omega)]
theorem at_wide {sh more w u : List Int} (hw : w.length = sh.length) : ∀ (lot : List Int) (a : Int), (∀ p ∈ lot, 0 ≤ p ∧ p < sh.length) → atW (sh ++ more) lot (w ++ u) a = atW sh lot w a
  | [], a, _ => rfl
  | p :: lot, a, h => by
    obtain ⟨p0, p1⟩ := h p List.mem_cons_self
    show atW _ lot _ (a * nth (sh ++ more) p + nth (w ++ u) p) = atW sh lot w (a * nth sh p + nth w p)
    rw [nth_left p0 p1, nth_left p0 (by rw [hw]; exact p1)]
    exact at_wide hw lot _ fun q hq => h q (List.mem_cons_of_mem _ hq)
theorem flat_congr {α β : Type} {f g : α → List β} : ∀ {xs : List α}, (∀ x ∈ xs, f x = g x) → xs.flatMap f = xs.flatMap g
  | [], _ => rfl
  | x :: xs, h => by rw [List.flatMap_cons, List.flatMap_cons, h x List.mem_cons_self, flat_congr fun y hy => h y (List.mem_cons_of_mem _ hy)]
theorem spr_wide {sh more lot es : List Int} (hl : ∀ p ∈ lot, 0 ≤ p ∧ p < sh.length) : sprL (sh ++ more) lot es = (sprL sh lot es).flatMap (List.replicate (wordsL more).length) := by
  unfold sprL
  show List.map _ ((sh ++ more).foldl grow [[]]) = _
  rw [List.foldl_append, fold_flat more, List.map_flatMap, List.flatMap_map]
  show List.flatMap _ (wordsL sh) = _
  refine flat_congr fun w hw => ?_
  rw [List.map_map, List.eq_replicate_iff]
  refine ⟨by rw [List.length_map], fun b hb => ?_⟩
  obtain ⟨u, _, rfl⟩ := List.mem_map.mp hb
  show nth es (atW (sh ++ more) lot (w ++ u) 0) = nth es (atW sh lot w 0)
  rw [at_wide (words_mem hw).1 lot 0 hl]
theorem rep_iL (k : Nat) (x : Int) : (List.replicate k [D.int x]).flatten = iL (List.replicate k x) := by
  show _ = (List.replicate k x).map D.int
  rw [List.map_replicate]
  induction k with
  | zero => rfl
  | succ k ih => simp only [List.replicate_succ, List.flatten_cons, ih]; rfl
theorem beside_loop {a0 a1 a2 a3 a4 a5 a6 : Slot} {k : Nat} (hk : k ≤ 256) : ∀ (xs acc : List Int) (z : Slot) (s : Dk), acc.length + xs.length * k ≤ 100000 → ∃ z', Ev (forM' (.nm 9) (sExtend 8 (eOpO gRepO (eFrz (eMapO gLstO (eAcons (eVar 9) eAnil))) (eVar 7))) (iL xs) [a0, a1, a2, a3, a4, a5, a6, .val (.int (k : Nat)), .own (.lst (iL acc)), z]) s
      (.nx [a0, a1, a2, a3, a4, a5, a6, .val (.int (k : Nat)), .own (.lst (iL (acc ++ xs.flatMap (List.replicate k)))), z']) s
  | [], acc, z, s, _ => ⟨z, by rw [List.flatMap_nil, List.append_nil]; exact ev_for0⟩
  | x :: xs, acc, z, s, h => by
    rw [List.length_cons, Nat.succ_mul] at h
    obtain ⟨z', e⟩ := beside_loop (a0 := a0) (a1 := a1) (a2 := a2) (a3 := a3) (a4 := a4) (a5 := a5) (a6 := a6) hk xs (acc ++ List.replicate k x) (.val (.int x)) s (by rw [List.length_append, List.length_replicate]; omega)
    have hg : gRepO (.lst [.int x]) (.int (k : Nat)) = some (.lst (iL (List.replicate k x))) := by
      show (if 0 ≤ (k : Int) ∧ (k : Int) ≤ 1000 ∧ [D.int x].length ≤ 1000 then some (OD.lst (List.replicate (k : Int).toNat [D.int x]).flatten) else none) = _
      rw [if_pos ⟨by omega, by omega, by simp⟩, Int.toNat_natCast, rep_iL]
    have ex := ev_extend (i := 8) (env := [a0, a1, a2, a3, a4, a5, a6, .val (.int (k : Nat)), .own (.lst (iL acc)), .val (.int x)]) (s := s) (s1 := s) (ds := iL acc) (m := eOpO gRepO (eFrz (eMapO gLstO (eAcons (eVar 9) eAnil))) (eVar 7)) rfl (ev_opO (ev_frz (ev_mapO (ev_acons (ev_var rfl) ev_anil) rfl)) (ev_var rfl) hg) (by rw [List.length_map, List.length_map, List.length_replicate]; have : size7 = 10000000 := rfl; omega)
    rw [← List.map_append] at ex
    rw [List.flatMap_cons, ← List.append_assoc]
    exact ⟨z', ev_for1 rfl ex e⟩
theorem wide_lst {sh more lot es : List Int} {m : Int} (hr : ∀ p ∈ lot, 0 ≤ p ∧ p < sh.length) (he : Lst sh m lot es) : Lst (sh ++ more) m lot es := by
  refine ⟨?_, he.num, he.few⟩
  rw [he.len]
  congr 1
  exact List.map_congr_left fun p hp => (nth_left (hr p hp).1 (hr p hp).2).symm
/-! ### the members of the words -/
theorem fold_mem_of : ∀ (ns : List Int) (fd : List (List Int)) (v u : List Int), v ∈ fd → u.length = ns.length → (∀ (i : Nat) (n x : Int), ns[i]? = some n → u[i]? = some x → 0 ≤ x ∧ x < n) → v ++ u ∈ ns.foldl grow fd
  | [], fd, v, u, hv, hl, _ => by
    have : u = [] := List.length_eq_zero_iff.mp hl
    subst this
    rw [List.append_nil]; exact hv
  | n :: ns, fd, v, [], _, hl, _ => by simp at hl
  | n :: ns, fd, v, x :: u, hv, hl, h => by
    have := fold_mem_of ns (grow fd n) (v ++ [x]) u (List.mem_flatMap.mpr ⟨v, hv, List.mem_map.mpr ⟨x, upto_mem.mpr (h 0 n x rfl rfl), rfl⟩⟩) (by simpa using hl) fun i m y e1 e2 => h (i + 1) m y (by simpa using e1) (by simpa using e2)
    rw [List.append_assoc] at this
    exact this
theorem words_mem_of {ns w : List Int} (hl : w.length = ns.length) (h : ∀ (i : Nat) (n x : Int), ns[i]? = some n → w[i]? = some x → 0 ≤ x ∧ x < n) : w ∈ wordsL ns := by
  have := fold_mem_of ns [[]] [] w (by simp) hl h
  rw [List.nil_append] at this
  exact this
/-- a word over a lot, letter by letter -/
theorem lot_word {sh lot : List Int} {g : Int → Int} (h : ∀ p ∈ lot, 0 ≤ g p ∧ g p < nth sh p) : lot.map g ∈ wordsL (lot.map (nth sh)) := by
  refine words_mem_of (by rw [List.length_map, List.length_map]) fun i n x e1 e2 => ?_
  rw [List.getElem?_map] at e1 e2
  cases e : lot[i]? with
  | none => rw [e] at e1; cases e1
  | some p =>
    rw [e] at e1 e2
    cases e1
    cases e2
    exact h p (List.mem_of_getElem? e)
/-! ### the entry at a word -/
def entW (W : List (List Int)) (es : List Int) (v : List Int) : Int := nth es (W.idxOf v)
theorem entW_at {W : List (List Int)} {es v : List Int} {i : Nat} (hn : W.Nodup) (h : W[i]? = some v) : entW W es v = nth es i := by
  obtain ⟨hi, rfl⟩ := List.getElem?_eq_some_iff.mp h
  unfold entW
  rw [hn.idxOf_getElem]
theorem val_ent {W : List (List Int)} {es v : List Int} (hn : W.Nodup) (hl : W.length = es.length) (h : v ∈ W) : valD (kvs W es) (kL v) = some (.int (entW W es v)) := by
  have hi := List.idxOf_lt_length_of_mem h
  refine val_at W es (W.idxOf v) v _ hn ?_ ?_
  · rw [List.getElem?_eq_getElem hi, List.getElem_idxOf]
  · exact get_nth (xs := es) (p := (W.idxOf v : Nat)) (by omega) (by omega)
/-- dict(list(zip(words, entries))) -/
theorem dict_words {W : List (List Int)} {es : List Int} (hn : W.Nodup) (hl : W.length = es.length) (hW : W ≠ []) : gDict [.lst (zipD (W.map tupI) (iL es))] = some (.dT (kvs W es)) := by
  have hm : mergeD (kvs W es) = kvs W es := by
    have := merge_fresh (kvs W es) [] (by rw [kvs_keys _ _ hl]; exact hn.map _ fun a b hab e => hab (kL_inj e)) (fun p hp => by cases hp)
    rw [List.nil_append] at this
    exact this
  have h2 : g1O gDictT [.lst (zipD (W.map tupI) (iL es))] = some (.dT (kvs W es)) := by
    show ((pairsT _).map fun kvs => OD.dT (mergeD kvs)) = _
    rw [pairs_kvs, Option.map_some, hm]
  have h1 : g1O gDictK [.lst (zipD (W.map tupI) (iL es))] = none := by
    cases W with
    | nil => exact absurd rfl hW
    | cons w W =>
      cases es with
      | nil => simp at hl
      | cons e es => rfl
  unfold gDict orO
  rw [h1]
  exact h2
theorem words_ne {ns : List Int} (h : ∀ n ∈ ns, 1 ≤ n) : wordsL ns ≠ [] := by
  have : (ns.map fun _ => (0 : Int)) ∈ wordsL ns := words_mem_of (by rw [List.length_map]) fun i n x e1 e2 => by
    rw [List.getElem?_map] at e2
    rw [e1] at e2
    cases e2
    have := h n (List.mem_of_getElem? e1)
    show (0 : Int) ≤ 0 ∧ (0 : Int) < n
    omega
  intro z
  rw [z] at this
  cases this
/-! ### a dict of letters -/
def kvI (qs : List Int) (g : Int → Int) : List (Key × D) := qs.map fun q => (Sum.inl q, .int (g q))
theorem put_newI {acc : List (Key × D)} {k : Key} {v : D} (h : ∀ p ∈ acc, p.1 ≠ k) : putD acc k v = acc ++ [(k, v)] := by
  unfold putD
  rw [if_neg]
  intro hc
  obtain ⟨p, hp, e⟩ := List.any_eq_true.mp hc
  exact h p hp (of_decide_eq_true e)
theorem merge_freshI : ∀ (more acc : List (Key × D)), (more.map (·.1)).Nodup → (∀ p ∈ acc, ∀ q ∈ more, p.1 ≠ q.1) → more.foldl (fun acc kv => putD acc kv.1 kv.2) acc = acc ++ more
  | [], acc, _, _ => by simp
  | q :: more, acc, hn, hd => by
    obtain ⟨h1, h2⟩ := List.nodup_cons.mp hn
    rw [List.foldl_cons, put_newI fun p hp => hd p hp q List.mem_cons_self, merge_freshI more _ h2 fun p hp r hr => ?_]
    · simp
    · rcases List.mem_append.mp hp with hp | hp
      · exact hd p hp r (List.mem_cons_of_mem _ hr)
      · rw [List.mem_singleton.mp hp]
        intro e
        exact h1 (List.mem_map.mpr ⟨r, hr, e.symm⟩)
theorem pairs_kvI (g : Int → Int) : ∀ qs : List Int, pairsK (qs.map fun q => D.tup [.int q, .int (g q)]) = some (kvI qs g)
  | [] => rfl
  | q :: qs => by
    show (match keyD (.int q), pairsK (qs.map fun q => D.tup [.int q, .int (g q)]) with | some k, some rs => some ((k, D.int (g q)) :: rs) | _, _ => none) = _
    rw [pairs_kvI g qs]
    rfl
theorem dict_letters {qs : List Int} {g : Int → Int} (hn : qs.Nodup) : gDict [.lst (qs.map fun q => D.tup [.int q, .int (g q)])] = some (.dK (kvI qs g)) := by
  have hm : mergeD (kvI qs g) = kvI qs g := by
    have := merge_freshI (kvI qs g) [] (by unfold kvI; rw [List.map_map]; exact hn.map _ fun a b hab e => hab (Sum.inl.inj e)) (fun p hp => by cases hp)
    rw [List.nil_append] at this
    exact this
  have h1 : g1O gDictK [.lst (qs.map fun q => D.tup [.int q, .int (g q)])] = some (.dK (kvI qs g)) := by
    show ((pairsK _).map fun kvs => OD.dK (mergeD kvs)) = _
    rw [pairs_kvI, Option.map_some, hm]
  unfold gDict orO
  rw [h1]
theorem val_letter {g : Int → Int} {p : Int} : ∀ {qs : List Int}, p ∈ qs → valD (kvI qs g) (.inl p) = some (.int (g p))
  | q :: qs, h => by
    by_cases hq : q = p
    · subst hq; simp [valD, kvI]
    · have ih := val_letter (g := g) ((List.mem_cons.mp h).resolve_left fun e => hq e.symm)
      show ((List.find? (fun kv => decide (kv.1 = Sum.inl p)) ((Sum.inl q, D.int (g q)) :: kvI qs g)).map (·.2)) = _
      rw [List.find?_cons]
      simp only [show ¬ (Sum.inl q : Key) = Sum.inl p from fun e => hq (Sum.inl.inj e), decide_false]
      exact ih
/-- [f(p) for at, p in enumerate(ps)] -/
theorem enum_map {a b : Nat} {e : En → M D} {env : En} {s : Dk} {g : Int → D} : ∀ (ps : List Int) (k : Nat), (∀ (i : Nat) (p : Int), ps[i]? = some p → Ev (e ((env.set a (.val (.int (k + i : Nat)))).set b (.val (.int p)))) s (g p) s) → Ev (lcM (.tp [.nm a, .nm b]) tYes' e env (enumD k (iL ps))) s (ps.map g) s
  | [], k, _ => rfl
  | p :: ps, k, h => by
    have h0 := h 0 p rfl
    have ih := enum_map (a := a) (b := b) (e := e) (env := env) (s := s) (g := g) ps (k + 1) fun i q hq => by
      have := h (i + 1) q (by simpa using hq)
      rw [show k + (i + 1) = k + 1 + i by omega] at this
      exact this
    show Ev (lcM _ _ _ env (D.tup [.int k, .int p] :: enumD (k + 1) (iL ps))) s _ s
    exact ev_lc1 bindP_2 rfl h0 ih
/-! ### a rearrangement of the places -/
structure Ord (k : Nat) (order : List Int) : Prop where
  perm : order.Perm (upto k)
theorem Ord.len {k : Nat} {order : List Int} (h : Ord k order) : order.length = k := by rw [h.perm.length_eq, upto_len]; omega
theorem Ord.mem {k : Nat} {order : List Int} (h : Ord k order) {p : Int} : p ∈ order ↔ 0 ≤ p ∧ p < k := by rw [h.perm.mem_iff]; exact upto_mem
theorem Ord.nodup {k : Nat} {order : List Int} (h : Ord k order) : order.Nodup := h.perm.nodup_iff.mpr (asc_nodup (upto_asc k))
def posn (order : List Int) (p : Int) : Int := (order.idxOf p : Nat)
theorem Ord.pos {k : Nat} {order : List Int} (h : Ord k order) {p : Int} (h0 : 0 ≤ p) (h1 : p < k) : 0 ≤ posn order p ∧ posn order p < k ∧ nth order (posn order p) = p := by
  have hm := h.mem.mpr ⟨h0, h1⟩
  have hi := List.idxOf_lt_length_of_mem hm
  have hl := h.len
  unfold posn
  refine ⟨by omega, by omega, ?_⟩
  refine nth_get (by omega) ?_
  rw [Int.toNat_natCast, List.getElem?_eq_getElem hi, List.getElem_idxOf]
theorem Ord.back {k : Nat} {order : List Int} (h : Ord k order) {a : Int} (h0 : 0 ≤ a) (h1 : a < k) : (0 ≤ nth order a ∧ nth order a < k) ∧ posn order (nth order a) = a := by
  have hl := h.len
  refine ⟨h.mem.mp (nth_mem h0 (by omega)), ?_⟩
  have hk : a.toNat < order.length := by omega
  have e : nth order a = order[a.toNat] := by
    refine nth_get h0 ?_
    rw [List.getElem?_eq_getElem hk]
  unfold posn
  rw [e, h.nodup.idxOf_getElem]
  omega
theorem Ord.shp {sh order : List Int} (h : Shp sh) (ho : Ord sh.length order) : Shp (order.map (nth sh)) := by
  have hl := ho.len
  refine ⟨by rw [List.length_map, hl]; exact h.l1, by rw [List.length_map, hl]; exact h.l4, fun n hn => ?_⟩
  obtain ⟨p, hp, rfl⟩ := List.mem_map.mp hn
  obtain ⟨p0, p1⟩ := ho.mem.mp hp
  exact h.le _ (nth_mem p0 p1)
/-- the lot's places, rearranged -/
def turn (order lot : List Int) : List Int := sortI (lot.map (posn order))
theorem turn_perm (order lot : List Int) : (turn order lot).Perm (lot.map (posn order)) := sortI_perm _
theorem turn_mem {order lot : List Int} {a : Int} : a ∈ turn order lot ↔ ∃ p ∈ lot, posn order p = a := by rw [(turn_perm order lot).mem_iff]; exact List.mem_map
theorem pos_nodup {k : Nat} {order : List Int} (h : Ord k order) : ∀ {lot : List Int}, (∀ p ∈ lot, 0 ≤ p ∧ p < k) → lot.Nodup → (lot.map (posn order)).Nodup
  | [], _, _ => by simp
  | p :: lot, hr, hn => by
    obtain ⟨h1, h2⟩ := List.nodup_cons.mp hn
    rw [List.map_cons]
    refine List.nodup_cons.mpr ⟨fun hm => ?_, pos_nodup h (fun q hq => hr q (List.mem_cons_of_mem _ hq)) h2⟩
    obtain ⟨q, hq, e⟩ := List.mem_map.mp hm
    have hp := hr p List.mem_cons_self
    have hq' := hr q (List.mem_cons_of_mem _ hq)
    have e1 := (h.pos hp.1 hp.2).2.2
    have e2 := (h.pos hq'.1 hq'.2).2.2
    rw [e] at e2
    exact h1 (by rw [← e1, e2]; exact hq)
theorem turn_lot {k : Nat} {order lot : List Int} (h : Ord k order) (hl : Lot k lot) : Lot k (turn order lot) := by
  have hnd : (turn order lot).Nodup := (turn_perm order lot).nodup_iff.mpr (pos_nodup h hl.rng (asc_nodup hl.asc))
  refine ⟨?_, fun a ha => ?_, ?_⟩
  · have h1 := sortI_sorted (lot.map (posn order))
    exact (h1.and hnd).imp fun ⟨x, y⟩ => by omega
  · obtain ⟨p, hp, rfl⟩ := turn_mem.mp ha
    obtain ⟨p0, p1⟩ := hl.rng p hp
    exact ⟨(h.pos p0 p1).1, (h.pos p0 p1).2.1⟩
  · rw [(turn_perm order lot).length_eq, List.length_map]
    exact hl.len
/-- back to the places -/
theorem turn_back {k : Nat} {order lot : List Int} (h : Ord k order) (hr : ∀ p ∈ lot, 0 ≤ p ∧ p < k) : ((turn order lot).map (nth order)).Perm lot := by
  have h1 := (turn_perm order lot).map (nth order)
  rw [List.map_map] at h1
  have h2 : lot.map (nth order ∘ posn order) = lot := by
    have : lot.map (nth order ∘ posn order) = lot.map id := List.map_congr_left fun p hp => (h.pos (hr p hp).1 (hr p hp).2).2.2
    rw [this, List.map_id]
  rw [h2] at h1
  exact h1
end K04

end

section
set_option maxRecDepth 100000
namespace K04
open PySem PySem.Spec PyProof.Rows L2 PV
/-! ### numbers by a modulus -/
def red (m x : Int) : Int := if m = 0 then x else x.fmod m
def Cg (m a b : Int) : Prop := ∃ t, a = b + m * t
theorem Cg.refl {m a : Int} : Cg m a a := ⟨0, by simp⟩
theorem Cg.symm {m a b : Int} (h : Cg m a b) : Cg m b a := by
  obtain ⟨t, e⟩ := h
  exact ⟨-t, by rw [e, Int.mul_neg]; omega⟩
theorem Cg.trans {m a b c : Int} (h : Cg m a b) (h2 : Cg m b c) : Cg m a c := by
  obtain ⟨t, e⟩ := h
  obtain ⟨u, e2⟩ := h2
  exact ⟨u + t, by rw [e, e2, Int.mul_add]; omega⟩
theorem Cg.add {m a b c d : Int} (h : Cg m a b) (h2 : Cg m c d) : Cg m (a + c) (b + d) := by
  obtain ⟨t, e⟩ := h
  obtain ⟨u, e2⟩ := h2
  exact ⟨t + u, by rw [e, e2, Int.mul_add]; omega⟩
theorem Cg.mul {m a b : Int} (k : Int) (h : Cg m a b) : Cg m (k * a) (k * b) := by
  obtain ⟨t, e⟩ := h
  exact ⟨k * t, by rw [e, Int.mul_add, Int.mul_left_comm]⟩
theorem Cg.neg {m a b : Int} (h : Cg m a b) : Cg m (-a) (-b) := by
  have := h.mul (-1)
  simpa using this
theorem Cg.sub {m a b c d : Int} (h : Cg m a b) (h2 : Cg m c d) : Cg m (a - c) (b - d) := by
  have := h.add h2.neg
  rw [← Int.sub_eq_add_neg, ← Int.sub_eq_add_neg] at this
  exact this
theorem Cg.sum {α : Type} {m : Int} {f g : α → Int} : ∀ {xs : List α}, (∀ x ∈ xs, Cg m (f x) (g x)) → Cg m (xs.map f).sum (xs.map g).sum
  | [], _ => .refl
  | x :: xs, h => by
    rw [List.map_cons, List.map_cons, List.sum_cons, List.sum_cons]
    exact (h x List.mem_cons_self).add (Cg.sum fun y hy => h y (List.mem_cons_of_mem _ hy))
theorem red_cg (m x : Int) : Cg m (red m x) x := by
  unfold red
  by_cases h : m = 0
  · rw [if_pos h]; exact .refl
  · rw [if_neg h]
    refine ⟨-(x.fdiv m), ?_⟩
    have := Int.mul_fdiv_add_fmod x m
    rw [Int.mul_neg]
    omega
theorem red_eq {m a b : Int} (hm : 0 ≤ m) (h : Cg m a b) : red m a = red m b := by
  obtain ⟨t, e⟩ := h
  unfold red
  by_cases h : m = 0
  · subst h
    rw [if_pos rfl, if_pos rfl, e]; simp
  · rw [if_neg h, if_neg h, e, Int.fmod_eq_emod_of_nonneg _ hm, Int.fmod_eq_emod_of_nonneg _ hm, Int.add_mul_emod_self_left]
theorem red_red {m : Int} (hm : 0 ≤ m) (x : Int) : red m (red m x) = red m x := red_eq hm (red_cg m x)
theorem red_nm {m x : Int} (h : Nm m x) : red m x = x := by
  unfold red
  by_cases hz : m = 0
  · rw [if_pos hz]
  · obtain ⟨h0, h1⟩ := h.resolve_left hz
    rw [if_neg hz, Int.fmod_eq_emod_of_nonneg _ (by omega), Int.emod_eq_of_lt h0 h1]
theorem nm_red {m : Int} (hm : m = 0 ∨ 2 ≤ m) (x : Int) : Nm m (red m x) := by
  rcases hm with h | h
  · exact .inl h
  · refine .inr ?_
    unfold red
    rw [if_neg (by omega)]
    exact ⟨Int.fmod_nonneg_of_pos _ (by omega), Int.fmod_lt_of_pos _ (by omega)⟩
theorem red_bound {m x B : Int} (hm : m = 0 ∨ 2 ≤ m) (h1 : m ≤ B) (hx : (x.natAbs : Int) ≤ B) : ((red m x).natAbs : Int) ≤ B := by
  rcases hm with h | h
  · unfold red; rw [if_pos h]; exact hx
  · rcases nm_red (.inr h) x with h' | h'
    · omega
    · omega
/-! ### sums -/
theorem sum_perm {α : Type} {f : α → Int} {xs ys : List α} (h : xs.Perm ys) : (xs.map f).sum = (ys.map f).sum := by
  induction h with
  | nil => rfl
  | cons x _ ih => rw [List.map_cons, List.map_cons, List.sum_cons, List.sum_cons, ih]
  | swap x y l => simp only [List.map_cons, List.sum_cons]; omega
  | trans _ _ a b => rw [a, b]
theorem sum_add {α : Type} {f g : α → Int} : ∀ (xs : List α), (xs.map fun x => f x + g x).sum = (xs.map f).sum + (xs.map g).sum
  | [] => rfl
  | x :: xs => by simp only [List.map_cons, List.sum_cons, sum_add xs]; omega
theorem sum_sub {α : Type} {f g : α → Int} : ∀ (xs : List α), (xs.map fun x => f x - g x).sum = (xs.map f).sum - (xs.map g).sum
  | [] => rfl
  | x :: xs => by simp only [List.map_cons, List.sum_cons, sum_sub xs]; omega
theorem sum_mul {α : Type} {f : α → Int} (k : Int) : ∀ (xs : List α), (xs.map fun x => k * f x).sum = k * (xs.map f).sum
  | [] => by simp
  | x :: xs => by simp only [List.map_cons, List.sum_cons, sum_mul k xs, Int.mul_add]
theorem sum_zero {α : Type} {f : α → Int} : ∀ {xs : List α}, (∀ x ∈ xs, f x = 0) → (xs.map f).sum = 0
  | [], _ => rfl
  | x :: xs, h => by rw [List.map_cons, List.sum_cons, h x List.mem_cons_self, sum_zero fun y hy => h y (List.mem_cons_of_mem _ hy)]; rfl
theorem sum_bound {α : Type} {f : α → Int} {B : Int} : ∀ {xs : List α}, (∀ x ∈ xs, ((f x).natAbs : Int) ≤ B) → (((xs.map f).sum).natAbs : Int) ≤ xs.length * B
  | [], _ => by simp
  | x :: xs, h => by
    have h1 := h x List.mem_cons_self
    have h2 := sum_bound fun y hy => h y (List.mem_cons_of_mem x hy)
    rw [List.map_cons, List.sum_cons, List.length_cons, Int.natCast_add, Int.add_mul]
    omega
/-- the lots of the places ps, as they come, summed -/
theorem fold_sum {g : List Int → Int} : ∀ (ps : List Int) (fd : List (List Int)), ((ps.foldl lotsF fd).map g).sum = (fd.map fun l => ((lotsL ps).map fun R => g (l ++ R)).sum).sum
  | [], fd => by simp [lotsL]
  | p :: ps, fd => by
    have h1 : ∀ h : List Int → Int, ((lotsL (p :: ps)).map h).sum = ((lotsL ps).map h).sum + ((lotsL ps).map fun R => h (p :: R)).sum := fun h => by
      show ((ps.foldl lotsF (lotsF [[]] p)).map h).sum = _
      rw [fold_sum ps]
      simp [lotsF]
    rw [List.foldl_cons, fold_sum ps]
    unfold lotsF
    rw [List.map_append, List.sum_append, List.map_map, ← sum_add]
    refine congrArg List.sum (List.map_congr_left fun l _ => ?_)
    rw [h1]
    simp only [Function.comp_def, List.append_assoc, List.singleton_append]
theorem lots_cons {g : List Int → Int} (p : Int) (ps : List Int) : ((lotsL (p :: ps)).map g).sum = ((lotsL ps).map g).sum + ((lotsL ps).map fun R => g (p :: R)).sum := by
  show ((ps.foldl lotsF (lotsF [[]] p)).map g).sum = _
  rw [fold_sum ps]
  simp [lotsF]
theorem lots_sub : ∀ (ps : List Int) (fd : List (List Int)) (R : List Int), R ∈ ps.foldl lotsF fd → ∃ l ∈ fd, ∃ r, R = l ++ r ∧ r.Sublist ps
  | [], fd, R, h => ⟨R, h, [], by simp, .slnil⟩
  | p :: ps, fd, R, h => by
    obtain ⟨l, hl, r, e, hs⟩ := lots_sub ps (lotsF fd p) R h
    rcases List.mem_append.mp hl with hl | hl
    · exact ⟨l, hl, r, e, hs.cons p⟩
    · obtain ⟨l', hl', rfl⟩ := List.mem_map.mp hl
      exact ⟨l', hl', p :: r, by rw [e, List.append_assoc]; rfl, hs.cons_cons p⟩
theorem lots_subl {ps R : List Int} (h : R ∈ lotsL ps) : R.Sublist ps := by
  obtain ⟨l, hl, r, e, hs⟩ := lots_sub ps [[]] R h
  have : l = [] := by simpa using hl
  subst this
  rw [e]; exact hs
/-! ### cubes -/
def sg (n : Int) : Int := if n.fmod 2 = 0 then 1 else -1
theorem sg_succ (n : Int) : sg (n + 1) = - sg n := by
  unfold sg
  rw [Int.fmod_eq_emod_of_nonneg _ (by decide), Int.fmod_eq_emod_of_nonneg _ (by decide)]
  by_cases h : n % 2 = 0
  · rw [if_pos h, if_neg (by omega)]
  · rw [if_neg h, if_pos (by omega)]; rfl
theorem sg_zero : sg 0 = 1 := by decide
def mixF (x b : Int → Int) (R : List Int) : Int → Int := fun q => if q ∈ R then x q else b q
def setF (b : Int → Int) (p v : Int) : Int → Int := fun q => if q = p then v else b q
theorem mix_cons (x b : Int → Int) (p : Int) (R : List Int) : mixF x b (p :: R) = mixF x (setF b p (x p)) R := by
  funext q
  unfold mixF setF
  by_cases hq : q ∈ R
  · rw [if_pos hq, if_pos (List.mem_cons_of_mem _ hq)]
  · by_cases hp : q = p
    · subst hp; rw [if_pos List.mem_cons_self, if_neg hq, if_pos rfl]
    · rw [if_neg hq, if_neg hp, if_neg fun h => (List.mem_cons.mp h).elim hp hq]
theorem mix_nil (x b : Int → Int) : mixF x b [] = b := by funext q; simp [mixF]
def cubF (F : (Int → Int) → Int) (x : Int → Int) (ps : List Int) (b : Int → Int) : Int := ((lotsL ps).map fun R => sg ((ps.length : Int) - R.length) * F (mixF x b R)).sum
theorem cub_nil (F : (Int → Int) → Int) (x b : Int → Int) : cubF F x [] b = F b := by simp [cubF, lotsL, sg_zero, mix_nil]
theorem cub_cons (F : (Int → Int) → Int) (x : Int → Int) (p : Int) (ps : List Int) (b : Int → Int) : cubF F x (p :: ps) b = cubF F x ps (setF b p (x p)) - cubF F x ps b := by
  unfold cubF
  rw [lots_cons]
  have h1 : ((lotsL ps).map fun R => sg (((p :: ps).length : Int) - R.length) * F (mixF x b R)) = (lotsL ps).map fun R => -1 * (sg ((ps.length : Int) - R.length) * F (mixF x b R)) := List.map_congr_left fun R _ => by
    rw [List.length_cons, show ((ps.length + 1 : Nat) : Int) - R.length = ((ps.length : Int) - R.length) + 1 by omega, sg_succ, Int.neg_mul, ← Int.neg_one_mul]
  have h2 : ((lotsL ps).map fun R => sg (((p :: ps).length : Int) - (p :: R).length) * F (mixF x b (p :: R))) = (lotsL ps).map fun R => sg ((ps.length : Int) - R.length) * F (mixF x (setF b p (x p)) R) := List.map_congr_left fun R _ => by
    rw [List.length_cons, List.length_cons, show ((ps.length + 1 : Nat) : Int) - ((R.length + 1 : Nat) : Int) = (ps.length : Int) - R.length by omega, mix_cons]
  rw [h1, h2, sum_mul]
  omega
theorem cub_lin {F G H : (Int → Int) → Int} {x : Int → Int} (h : ∀ f, H f = F f + G f) : ∀ (ps : List Int) (b : Int → Int), cubF H x ps b = cubF F x ps b + cubF G x ps b
  | [], b => by rw [cub_nil, cub_nil, cub_nil, h]
  | p :: ps, b => by rw [cub_cons, cub_cons, cub_cons, cub_lin h ps, cub_lin h ps]; omega
theorem cub_mul {F H : (Int → Int) → Int} {x : Int → Int} (k : Int) (h : ∀ f, H f = k * F f) : ∀ (ps : List Int) (b : Int → Int), cubF H x ps b = k * cubF F x ps b
  | [], b => by rw [cub_nil, cub_nil, h]
  | p :: ps, b => by rw [cub_cons, cub_cons, cub_mul k h ps, cub_mul k h ps, Int.mul_sub]
theorem cub_sum {α : Type} {Fs : α → (Int → Int) → Int} {x : Int → Int} : ∀ (as : List α) (ps : List Int) (b : Int → Int), cubF (fun f => (as.map fun a => Fs a f).sum) x ps b = (as.map fun a => cubF (Fs a) x ps b).sum
  | as, [], b => by rw [cub_nil]; exact congrArg List.sum (List.map_congr_left fun a _ => (cub_nil _ _ _).symm)
  | as, p :: ps, b => by
    rw [cub_cons, cub_sum as ps, cub_sum as ps, ← sum_sub]
    exact congrArg List.sum (List.map_congr_left fun a _ => (cub_cons _ _ _ _ _).symm)
/-- only what F is at the worlds that are met counts -/
theorem cub_cg {F G : (Int → Int) → Int} {x : Int → Int} {ps : List Int} {b : Int → Int} {m : Int} (h : ∀ R ∈ lotsL ps, Cg m (F (mixF x b R)) (G (mixF x b R))) : Cg m (cubF F x ps b) (cubF G x ps b) := Cg.sum fun R hR => (h R hR).mul _
theorem cub_congr {F G : (Int → Int) → Int} {x y : Int → Int} {ps : List Int} {b : Int → Int} (h : ∀ R ∈ lotsL ps, F (mixF x b R) = G (mixF y b R)) : cubF F x ps b = cubF G y ps b := by
  unfold cubF
  exact congrArg List.sum (List.map_congr_left fun R hR => by rw [h R hR])
theorem cub_zero {F : (Int → Int) → Int} {x : Int → Int} {ps : List Int} {b : Int → Int} (h : ∀ R ∈ lotsL ps, F (mixF x b R) = 0) : cubF F x ps b = 0 := sum_zero fun R hR => by rw [h R hR, Int.mul_zero]
/-- all cubes make up the entry -/
theorem cub_total {F : (Int → Int) → Int} {x : Int → Int} : ∀ (ps : List Int) (b : Int → Int), ((lotsL ps).map fun L => cubF F x L b).sum = F (mixF x b ps)
  | [], b => by simp [lotsL, cub_nil, mix_nil]
  | p :: ps, b => by
    rw [lots_cons]
    have h1 : ((lotsL ps).map fun L => cubF F x (p :: L) b) = (lotsL ps).map fun L => cubF F x L (setF b p (x p)) - cubF F x L b := List.map_congr_left fun L _ => cub_cons _ _ _ _ _
    rw [h1, sum_sub, cub_total ps, cub_total ps, mix_cons]
    omega
/-- a function that does not look at one of the places has no cube -/
theorem cub_blind {F : (Int → Int) → Int} {x : Int → Int} {a : Int} (h : ∀ f g : Int → Int, (∀ q, q ≠ a → f q = g q) → F f = F g) : ∀ (ps : List Int) (b : Int → Int), ps.Nodup → a ∈ ps → cubF F x ps b = 0
  | p :: ps, b, hn, ha => by
    obtain ⟨h1, h2⟩ := List.nodup_cons.mp hn
    rw [cub_cons]
    by_cases hp : a = p
    · subst hp
      have : cubF F x ps (setF b a (x a)) = cubF F x ps b := by
        unfold cubF
        refine congrArg List.sum (List.map_congr_left fun R hR => ?_)
        congr 1
        refine h _ _ fun q hq => ?_
        unfold mixF setF
        rw [if_neg hq]
      omega
    · have ha' := (List.mem_cons.mp ha).resolve_left hp
      rw [cub_blind h ps _ h2 ha', cub_blind h ps _ h2 ha']
      rfl
/-- a function that is 0 where one of the letters is 0 -/
theorem cub_bare {F : (Int → Int) → Int} {x : Int → Int} : ∀ (ps : List Int) (b : Int → Int), ps.Nodup → (∀ f : Int → Int, (∃ q ∈ ps, f q = 0) → F f = 0) → (∀ q ∈ ps, b q = 0) → cubF F x ps b = F (mixF x b ps)
  | [], b, _, _, _ => by rw [cub_nil, mix_nil]
  | p :: ps, b, hn, hF, hb => by
    obtain ⟨h1, h2⟩ := List.nodup_cons.mp hn
    have z : cubF F x ps b = 0 := cub_zero fun R hR => hF _ ⟨p, List.mem_cons_self, by
      unfold mixF
      rw [if_neg fun h => h1 ((lots_subl hR).subset h)]
      exact hb p List.mem_cons_self⟩
    rw [cub_cons, z, cub_bare ps _ h2 (fun f ⟨q, hq, e⟩ => hF f ⟨q, List.mem_cons_of_mem _ hq, e⟩) (fun q hq => by
      unfold setF
      rw [if_neg (show ¬ q = p from fun e => h1 (e ▸ hq))]
      exact hb q (List.mem_cons_of_mem _ hq)), mix_cons, Int.sub_zero]
/-- the places in another sequence -/
theorem cub_perm {F : (Int → Int) → Int} {x : Int → Int} {ps qs : List Int} (h : ps.Perm qs) : ∀ b : Int → Int, cubF F x ps b = cubF F x qs b := by
  induction h with
  | nil => exact fun b => rfl
  | cons p _ ih => exact fun b => by rw [cub_cons, cub_cons, ih, ih]
  | swap p q l =>
    intro b
    rw [cub_cons, cub_cons, cub_cons, cub_cons, cub_cons, cub_cons]
    have : setF (setF b p (x p)) q (x q) = setF (setF b q (x q)) p (x p) := by
      funext r
      unfold setF
      by_cases h1 : r = q
      · by_cases h2 : r = p
        · subst h1; subst h2; rfl
        · rw [if_pos h1, if_neg h2, if_pos h1]
      · by_cases h2 : r = p
        · rw [if_neg h1, if_pos h2, if_pos h2]
        · rw [if_neg h1, if_neg h2, if_neg h2, if_neg h1]
    rw [this]
    omega
  | trans _ _ a b => exact fun c => by rw [a, b]
/-! ### comprehensions over lists of any kind -/
theorem lc_pure {α : Type} {p : Pat} {e : En → M D} {env : En} {s : Dk} {c g : α → D} : ∀ (xs : List α), (∀ x ∈ xs, ∃ e1, bindP p (c x) env = some e1 ∧ Ev (e e1) s (g x) s) → Ev (lcM p tYes' e env (xs.map c)) s (xs.map g) s
  | [], _ => rfl
  | x :: xs, h => by
    obtain ⟨e1, h1, h2⟩ := h x List.mem_cons_self
    exact ev_lc1 h1 rfl h2 (lc_pure xs fun y hy => h y (List.mem_cons_of_mem _ hy))
theorem lc_filt {α : Type} {p : Pat} {t : En → M Bool} {e : En → M D} {env : En} {s : Dk} {c g : α → D} {b : α → Bool} : ∀ (xs : List α), (∀ x ∈ xs, ∃ e1, bindP p (c x) env = some e1 ∧ Ev (t e1) s (b x) s ∧ (b x = true → Ev (e e1) s (g x) s)) → Ev (lcM p t e env (xs.map c)) s ((xs.filter b).map g) s
  | [], _ => rfl
  | x :: xs, h => by
    obtain ⟨e1, h1, h2, h3⟩ := h x List.mem_cons_self
    have ih := lc_filt xs fun y hy => h y (List.mem_cons_of_mem _ hy)
    by_cases hb : b x = true
    · rw [List.filter_cons_of_pos hb, List.map_cons]
      rw [hb] at h2
      exact ev_lc1 h1 h2 (h3 hb) ih
    · rw [List.filter_cons_of_neg hb]
      rw [Bool.not_eq_true] at hb
      rw [hb] at h2
      exact ev_lc2 h1 h2 ih
theorem lc_draw {α β : Type} {p : Pat} {e : En → M D} {env : En} {c : α → D} {r : β → D} (P : α → β → Prop) : ∀ (xs : List α) (s : Dk), Fit s → (∀ x ∈ xs, ∃ e1, bindP p (c x) env = some e1 ∧ ∀ s, Fit s → ∃ y s', Ev (e e1) s (r y) s' ∧ P x y ∧ Fit s') →
    ∃ ys s', Ev (lcM p tYes' e env (xs.map c)) s (ys.map r) s' ∧ ys.length = xs.length ∧ (∀ q ∈ xs.zip ys, P q.1 q.2) ∧ Fit s'
  | [], s, f, _ => ⟨[], s, rfl, rfl, fun q hq => (by cases hq), f⟩
  | x :: xs, s, f, h => by
    obtain ⟨e1, h1, h2⟩ := h x List.mem_cons_self
    obtain ⟨y, s1, e2, py, f1⟩ := h2 s f
    obtain ⟨ys, s2, e3, l, hP, f2⟩ := lc_draw P xs s1 f1 fun z hz => h z (List.mem_cons_of_mem _ hz)
    refine ⟨y :: ys, s2, ev_lc1 h1 rfl e2 e3, by simp [l], fun q hq => ?_, f2⟩
    rw [List.zip_cons_cons] at hq
    rcases List.mem_cons.mp hq with rfl | hq
    · exact py
    · exact hP q hq
theorem zip_tups : ∀ (as bs : List (List Int)), zipD (as.map tupI) (bs.map tupI) = (as.zip bs).map fun p => D.tup [tupI p.1, tupI p.2]
  | [], bs => by simp [zipD]
  | a :: as, [] => by simp [zipD]
  | a :: as, b :: bs => by
    show D.tup [tupI a, tupI b] :: zipD (as.map tupI) (bs.map tupI) = _
    rw [zip_tups as bs]
    rfl
theorem zip_ints : ∀ (as bs : List Int), zipD (iL as) (iL bs) = (as.zip bs).map fun p => D.tup [.int p.1, .int p.2]
  | [], bs => by simp [zipD]
  | a :: as, [] => by simp [zipD]
  | a :: as, b :: bs => by
    show D.tup [.int a, .int b] :: zipD (iL as) (iL bs) = _
    rw [zip_ints as bs]
    rfl
theorem map_iL {α : Type} (f : α → Int) (xs : List α) : (xs.map fun x => D.int (f x)) = iL (xs.map f) := by unfold iL; rw [List.map_map]; rfl
theorem all_map {α : Type} (xs : List α) : allD (.lst (xs.map fun _ => .bl true)) = some (.bl true) := by
  have := all_true (xs.map fun _ => D.non)
  rw [List.map_map] at this
  exact this
/-! ### totals -/
theorem reduced_ok (m x : Int) (s : Dk) : Ev (F_reduced [.int m, .int x]) s (.int (red m x)) s := by
  by_cases h : m = 0
  · refine ev_run (ev_seqR (ev_sif (c := true) (ev_tval (ev_iop (ev_var rfl) ev_c (by rw [eq_int]; simp [h]))) (fun _ => ev_rt ?_) (fun h => by cases h)))
    unfold red
    rw [if_pos h]
    exact ev_var rfl
  · refine ev_run (ev_seq (ev_sif (c := false) (ev_tval (ev_iop (ev_var rfl) ev_c (by rw [eq_int]; simp [h]))) (fun h => by cases h) (fun _ => ev_next)) (ev_rt (ev_iop (ev_var rfl) (ev_var rfl) ?_)))
    unfold red
    rw [if_neg h]
    exact modD_i h
theorem lby_ok (m x : Int) (s : Dk) : Ev (F__law_by [.int m, .int x]) s (.int (red m x)) s := by
  refine ev_run (ev_rt (ev_if (c := decide (m = 0)) (ev_tval (ev_iop (ev_var rfl) ev_c (eq_int m 0))) (fun h => ?_) (fun h => ?_)))
  · have h := of_decide_eq_true h
    unfold red
    rw [if_pos h]
    exact ev_var rfl
  · have h := of_decide_eq_false h
    unfold red
    rw [if_neg h]
    exact ev_iop (ev_int1 (ev_var rfl)) (ev_var rfl) (modD_i h)
/-- lists over lots, in their sequence -/
structure Lsts (sh : List Int) (m : Int) (lots lists : List (List Int)) : Prop where
  len : lists.length = lots.length
  few : lots.length ≤ 1000
  lot : ∀ l ∈ lots, Lot sh.length l
  lst : ∀ p ∈ lots.zip lists, Lst sh m p.1 p.2
theorem Lsts.zip_lot {sh : List Int} {m : Int} {lots lists : List (List Int)} (h : Lsts sh m lots lists) {p : List Int × List Int} (hp : p ∈ lots.zip lists) : Lot sh.length p.1 := h.lot _ (List.of_mem_zip hp).1
def entS (sh : List Int) (w : List Int) (p : List Int × List Int) : Int := nth p.2 (atW sh p.1 w 0)
def totL (sh : List Int) (m : Int) (lots lists : List (List Int)) : List Int := (wordsL sh).map fun w => red m (((lots.zip lists).map (entS sh w)).sum)
section
variable {sh : List Int} {m : Int} {lots lists : List (List Int)}
theorem are_lots_ok (h : Shp sh) (hl : ∀ l ∈ lots, Lot sh.length l) (hf : lots.length ≤ 1000) (s : Dk) : Ev (F_is_tuple_of_lots [.tup (iL sh), .tup (lots.map tupI)]) s (.bl true) s :=
  ev_run (ev_rt (ev_andV (c := true) (ev_un (ev_var rfl) rfl) (fun _ => ev_mapA (ev_acons (ev_frz (ev_lc (ev_items (ev_var rfl) rfl) (by rw [List.length_map]; have : size7 = 10000000 := rfl; omega) (lc_pure (g := fun _ => .bl true) lots fun l hm => ⟨_, bindP_nm, ev_call (ev_acons (ev_var rfl) (ev_acons (ev_var rfl) ev_anil)) rfl (lot_ok h (hl l hm) s)⟩))) ev_anil) (all_map _)) (fun h => by cases h)))
theorem are_lists_ok (h : Shp sh) (hL : Lsts sh m lots lists) (s : Dk) : Ev (F_are_lists_over [.tup (iL sh), .int m, .tup (lots.map tupI), .tup (lists.map tupI)]) s (.bl true) s := by
  have few := hL.few
  have lc : Ev (eLc (eMapI gZip (eAcons (eVar 2) (eAcons (eVar 3) eAnil))) (.tp [.nm 4, .nm 5]) [4, 5] tYes' (eCall (cN 4 F_is_list_over) (eAcons (eVar 0) (eAcons (eVar 1) (eAcons (eVar 4) (eAcons (eVar 5) eAnil))))) [.val (.tup (iL sh)), .val (.int m), .val (.tup (lots.map tupI)), .val (.tup (lists.map tupI)), .no, .no]) s (.lst ((lots.zip lists).map fun _ => .bl true)) s := by
    have lm : Ev (lcM (.tp [.nm 4, .nm 5]) tYes' (eCall (cN 4 F_is_list_over) (eAcons (eVar 0) (eAcons (eVar 1) (eAcons (eVar 4) (eAcons (eVar 5) eAnil))))) [.val (.tup (iL sh)), .val (.int m), .val (.tup (lots.map tupI)), .val (.tup (lists.map tupI)), .no, .no] ((lots.zip lists).map fun (p : List Int × List Int) => D.tup [tupI p.1, tupI p.2])) s ((lots.zip lists).map fun _ => .bl true) s := lc_pure (lots.zip lists) fun p hp => by
      refine ⟨_, bindP_2, ?_⟩
      exact ev_call (ds := [.tup (iL sh), .int m, .tup (iL p.1), .tup (iL p.2)]) (ev_acons (ev_var rfl) (ev_acons (ev_var rfl) (ev_acons (ev_var rfl) (ev_acons (ev_var rfl) ev_anil)))) rfl (list_ok h (hL.zip_lot hp).rng (hL.lst p hp) s)
    refine ev_lc (ds := (lots.zip lists).map fun (p : List Int × List Int) => D.tup [tupI p.1, tupI p.2]) (ev_mapI (ds := [.tup (lots.map tupI), .tup (lists.map tupI)]) (ev_acons (ev_var rfl) (ev_acons (ev_var rfl) ev_anil)) ?_) ?_ lm
    · show some (zipD (lots.map tupI) (lists.map tupI)) = _
      rw [zip_tups]
    · rw [List.length_map, List.length_zip]; have : size7 = 10000000 := rfl; omega
  refine ev_run (ev_seq (ev_sif (c := false) (ev_orT (c := false) (ev_notT (c := true) (ev_tval (ev_un (ev_var rfl) rfl))) (fun _ => ev_tval (ev_iop (ev_mapA (ev_acons (ev_var rfl) ev_anil) rfl) (ev_mapA (ev_acons (ev_var rfl) ev_anil) rfl) ?_)) (fun h => by cases h)) (fun h => by cases h) (fun _ => ev_next))
    (ev_rt (ev_mapA (ev_acons (ev_frz lc) ev_anil) (all_map _))))
  rw [ne_int, List.length_map, List.length_map, hL.len]; simp
theorem met_sum_ok (h : Shp sh) (hL : Lsts sh m lots lists) {w : List Int} (hw : w ∈ wordsL sh) (s : Dk) : Ev (F_met_sum [.tup (iL sh), .int m, .tup (lots.map tupI), .tup (lists.map tupI), .tup (iL w)]) s (.int (red m (((lots.zip lists).map (entS sh w)).sum))) s := by
  have few := hL.few
  have lc : Ev (eLc (eMapI gZip (eAcons (eVar 2) (eAcons (eVar 3) eAnil))) (.tp [.nm 5, .nm 6]) [5, 6] tYes' (eCall (cN 4 F_met_entry) (eAcons (eVar 0) (eAcons (eVar 5) (eAcons (eVar 6) (eAcons (eVar 4) eAnil))))) [.val (.tup (iL sh)), .val (.int m), .val (.tup (lots.map tupI)), .val (.tup (lists.map tupI)), .val (.tup (iL w)), .no, .no]) s (.lst (iL ((lots.zip lists).map (entS sh w)))) s := by
    refine ev_eqR (?_ : Ev _ _ (.lst ((lots.zip lists).map fun p => .int (entS sh w p))) _) (congrArg OD.lst (map_iL _ _))
    refine ev_lc (ds := (lots.zip lists).map fun (p : List Int × List Int) => D.tup [tupI p.1, tupI p.2]) (ev_mapI (ds := [.tup (lots.map tupI), .tup (lists.map tupI)]) (ev_acons (ev_var rfl) (ev_acons (ev_var rfl) ev_anil)) ?_) ?_ (lc_pure (lots.zip lists) fun p hp => ⟨_, bindP_2, ?_⟩)
    · show some (zipD (lots.map tupI) (lists.map tupI)) = _
      rw [zip_tups]
    · rw [List.length_map, List.length_zip]; have : size7 = 10000000 := rfl; omega
    · have hl := hL.zip_lot hp
      obtain ⟨a0, a1⟩ := at_bound (fun p p0 p1 => world_at hw p0 p1) p.1 0 1 hl.rng (by decide) (by decide)
      exact ev_call (ds := [.tup (iL sh), .tup (iL p.1), .tup (iL p.2), .tup (iL w)]) (ev_acons (ev_var rfl) (ev_acons (ev_var rfl) (ev_acons (ev_var rfl) (ev_acons (ev_var rfl) ev_anil)))) rfl (met_ok h (words_mem hw).1 hl.rng ⟨a0, by rw [(hL.lst p hp).len]; exact a1⟩ s)
  exact ev_run (ev_rt (ev_call (ev_acons (ev_var rfl) (ev_acons (ev_mapA (ev_acons (ev_frz lc) ev_anil) (show (ints? (iL ((lots.zip lists).map (entS sh w)))).map (fun ns => D.int ns.sum) = _ by rw [ints_iL']; rfl)) ev_anil)) rfl (reduced_ok m _ s)))
theorem wshow (h : Shp sh) : (wordsL sh).length ≤ 256 := words_len (fun n hn => (h.le n hn).2) h.l4
theorem total_ok (h : Shp sh) (hm : Md m) (hL : Lsts sh m lots lists) (s : Dk) : Ev (F_total [.tup (iL sh), .int m, .tup (lots.map tupI), .tup (lists.map tupI)]) s (.tup (iL (totL sh m lots lists))) s := by
  have lc : Ev (eLc (eItems (eCall (cN 1 F_worlds) (eAcons (eVar 0) eAnil))) (.nm 4) [4] tYes' (eCall (cN 5 F_met_sum) (eAcons (eVar 0) (eAcons (eVar 1) (eAcons (eVar 2) (eAcons (eVar 3) (eAcons (eVar 4) eAnil)))))) [.val (.tup (iL sh)), .val (.int m), .val (.tup (lots.map tupI)), .val (.tup (lists.map tupI)), .no]) s (.lst (iL (totL sh m lots lists))) s := by
    refine ev_eqR (?_ : Ev _ _ (.lst ((wordsL sh).map fun w => .int (red m (((lots.zip lists).map (entS sh w)).sum)))) _) (congrArg OD.lst (map_iL _ _))
    exact (ev_lc (ds := (wordsL sh).map tupI) (ev_items (ev_call (ev_acons (ev_var rfl) ev_anil) rfl (worlds_ok h s)) rfl) (by rw [List.length_map]; have := wshow h; have : size7 = 10000000 := rfl; omega) (lc_pure (wordsL sh) fun w hw => ⟨_, bindP_nm, ev_call (ev_acons (ev_var rfl) (ev_acons (ev_var rfl) (ev_acons (ev_var rfl) (ev_acons (ev_var rfl) (ev_acons (ev_var rfl) ev_anil))))) rfl (met_sum_ok h hL hw s)⟩))
  exact ev_run (ev_seq (ev_drop (ev_call (ev_acons (ev_var rfl) ev_anil) rfl (need_shape_ok h s))) (ev_seq (ev_drop (ev_call (ev_acons (ev_var rfl) ev_anil) rfl (need_modulus_ok hm s)))
    (ev_seq (ev_sif (c := false) (ev_notT (c := true) (ev_tval (ev_call (ev_acons (ev_var rfl) (ev_acons (ev_var rfl) ev_anil)) rfl (are_lots_ok h hL.lot hL.few s)))) (fun h => by cases h) (fun _ => ev_next))
    (ev_seq (ev_sif (c := false) (ev_notT (c := true) (ev_tval (ev_call (ev_acons (ev_var rfl) (ev_acons (ev_var rfl) (ev_acons (ev_var rfl) (ev_acons (ev_var rfl) ev_anil)))) rfl (are_lists_ok h hL s)))) (fun h => by cases h) (fun _ => ev_next))
    (ev_rt (ev_mapA (ev_acons (ev_frz lc) ev_anil) rfl))))))
/-! the law's own total -/
theorem zip_map {α β γ : Type} (f : α → β) (g : α → γ) : ∀ xs : List α, (xs.map f).zip (xs.map g) = xs.map fun x => (f x, g x)
  | [] => rfl
  | x :: xs => by simp only [List.map_cons, List.zip_cons_cons, zip_map f g xs]
theorem ltot_loop {sh : List Int} {m : Int} {d2 d3 : D} (h : Shp sh) (hm : Md m) : ∀ (ps : List (List Int × List Int)) (S : List Int → Int) (z5 z6 : Slot) (s : Dk), (∀ p ∈ ps, Lot sh.length p.1 ∧ Lst sh m p.1 p.2) → ∃ z5' z6',
    Ev (forM' (.tp [(.nm 5), (.nm 6)]) (sAsg (.nm 4) (eFrz (eLc (eMapI gZip (eAcons (eVar 4) (eAcons (eCall (cN 3 F__law_spread) (eAcons (eVar 0) (eAcons (eVar 5) (eAcons (eVar 6) eAnil)))) eAnil))) (.tp [(.nm 7), (.nm 8)]) [7, 8] tYes' (eCall (cN 2 F__law_by) (eAcons (eVar 1) (eAcons (eOp addD (eVar 7) (eVar 8)) eAnil))))))
      (ps.map fun p => D.tup [tupI p.1, tupI p.2]) [.val (.tup (iL sh)), .val (.int m), .val d2, .val d3, .val (.lst (iL ((wordsL sh).map fun w => red m (S w)))), z5, z6, .no, .no]) s
      (.nx [.val (.tup (iL sh)), .val (.int m), .val d2, .val d3, .val (.lst (iL ((wordsL sh).map fun w => red m (S w + (ps.map (entS sh w)).sum)))), z5', z6', .no, .no]) s
  | [], S, z5, z6, s, _ => ⟨z5, z6, by
    have : ((wordsL sh).map fun w => red m (S w + (([] : List (List Int × List Int)).map (entS sh w)).sum)) = (wordsL sh).map fun w => red m (S w) := List.map_congr_left fun w _ => by simp
    rw [this]
    exact ev_for0⟩
  | p :: ps, S, z5, z6, s, hp => by
    obtain ⟨hl, he⟩ := hp p List.mem_cons_self
    have hm0 : 0 ≤ m := by rcases hm.ok with h | h <;> omega
    obtain ⟨z5', z6', e⟩ := ltot_loop (d2 := d2) (d3 := d3) h hm ps (fun w => S w + entS sh w p) (.val (tupI p.1)) (.val (tupI p.2)) s fun q hq => hp q (List.mem_cons_of_mem _ hq)
    have lc : Ev (eLc (eMapI gZip (eAcons (eVar 4) (eAcons (eCall (cN 3 F__law_spread) (eAcons (eVar 0) (eAcons (eVar 5) (eAcons (eVar 6) eAnil)))) eAnil))) (.tp [(.nm 7), (.nm 8)]) [7, 8] tYes' (eCall (cN 2 F__law_by) (eAcons (eVar 1) (eAcons (eOp addD (eVar 7) (eVar 8)) eAnil))) [.val (.tup (iL sh)), .val (.int m), .val d2, .val d3, .val (.lst (iL ((wordsL sh).map fun w => red m (S w)))), .val (tupI p.1), .val (tupI p.2), .no, .no]) s (.lst (iL ((wordsL sh).map fun w => red m (S w + entS sh w p)))) s := by
      refine ev_eqR (?_ : Ev _ _ (.lst ((wordsL sh).map fun w => .int (red m (S w + entS sh w p)))) _) (congrArg OD.lst (map_iL _ _))
      refine (ev_lc (ds := (wordsL sh).map fun w => D.tup [.int (red m (S w)), .int (entS sh w p)]) (ev_mapI (ev_acons (ev_var rfl) (ev_acons (ev_call (ev_acons (ev_var rfl) (ev_acons (ev_var rfl) (ev_acons (ev_var rfl) ev_anil))) rfl (lspread_ok h hl he s)) ev_anil)) ?_) (by rw [List.length_map]; have := wshow h; have : size7 = 10000000 := rfl; omega) (lc_pure (g := fun w => .int (red m (S w + entS sh w p))) (wordsL sh) fun w hw => ⟨_, bindP_2, ?_⟩))
      · show some (zipD (iL ((wordsL sh).map fun w => red m (S w))) (iL ((wordsL sh).map fun w => nth p.2 (atW sh p.1 w 0)))) = _
        rw [zip_ints, zip_map, List.map_map]
        rfl
      · have e1 := lby_ok m (red m (S w) + entS sh w p) s
        rw [red_eq hm0 (show Cg m (red m (S w) + entS sh w p) (S w + entS sh w p) from (red_cg m (S w)).add .refl)] at e1
        exact ev_call (ev_acons (ev_var rfl) (ev_acons (ev_iop (ev_var rfl) (ev_var rfl) rfl) ev_anil)) rfl e1
    have hS : ((wordsL sh).map fun w => red m (S w + entS sh w p + (ps.map (entS sh w)).sum)) = (wordsL sh).map fun w => red m (S w + ((p :: ps).map (entS sh w)).sum) := List.map_congr_left fun w _ => by
      rw [List.map_cons, List.sum_cons, Int.add_assoc]
    rw [hS] at e
    exact ⟨z5', z6', ev_for1 bindP_2 (ev_asgN (ev_frz lc)) e⟩
theorem ltotal_ok (h : Shp sh) (hm : Md m) (hL : Lsts sh m lots lists) {d2 d3 : D} (h2 : seqOf d2 = some (lots.map tupI)) (h3 : seqOf d3 = some (lists.map tupI)) (s : Dk) : Ev (F__law_total [.tup (iL sh), .int m, d2, d3]) s (.tup (iL (totL sh m lots lists))) s := by
  have hw := wshow h
  obtain ⟨z5, z6, e⟩ := ltot_loop (d2 := d2) (d3 := d3) h hm (lots.zip lists) (fun _ => 0) .no .no s fun p hp => ⟨hL.zip_lot hp, hL.lst p hp⟩
  have h0 : ((wordsL sh).map fun w => red m ((fun _ : List Int => (0 : Int)) w)) = List.replicate (wordsL sh).length 0 := by
    rw [List.eq_replicate_iff]
    refine ⟨by rw [List.length_map], fun b hb => ?_⟩
    obtain ⟨w, _, rfl⟩ := List.mem_map.mp hb
    exact red_nm (nm_zero hm)
  have h1 : ((wordsL sh).map fun w => red m ((fun _ : List Int => (0 : Int)) w + ((lots.zip lists).map (entS sh w)).sum)) = totL sh m lots lists := List.map_congr_left fun w _ => by simp
  rw [h0, h1] at e
  have hg : gRepO (.lst [.int 0]) (.int (((wordsL sh).map tupI).length : Nat)) = some (.lst (iL (List.replicate (wordsL sh).length 0))) := by
    show (if 0 ≤ ((((wordsL sh).map tupI).length : Nat) : Int) ∧ ((((wordsL sh).map tupI).length : Nat) : Int) ≤ 1000 ∧ [D.int 0].length ≤ 1000 then some (OD.lst (List.replicate ((((wordsL sh).map tupI).length : Nat) : Int).toNat [D.int 0]).flatten) else none) = _
    rw [List.length_map, if_pos ⟨by omega, by omega, by simp⟩, Int.toNat_natCast, rep_iL]
  refine ev_run (ev_seq (ev_asgN (ev_frz (ev_opO (ev_frz (ev_mapO (ev_acons ev_c ev_anil) rfl)) (ev_mapA (ev_acons (ev_call (ev_acons (ev_var rfl) ev_anil) rfl (lworlds_ok h s)) ev_anil) rfl) hg))) (ev_seq (ev_for (ev_mapI (ev_acons (ev_var rfl) (ev_acons (ev_var rfl) ev_anil)) ?_) e) (ev_rt (ev_mapA (ev_acons (ev_var rfl) ev_anil) rfl))))
  show (seqOf d2).bind (fun xs => (seqOf d3).map fun ys => zipD xs ys) = _
  rw [h2, h3, Option.bind_some, Option.map_some, zip_tups]
end
/-! ### held lots -/
theorem held_loop {d0 : D} : ∀ (ps : List Int) (fd : List (List Int)) (z : Slot) (s : Dk), fd.length * 2 ^ ps.length ≤ 1000 → (∀ l ∈ fd, l.length + ps.length ≤ 99) → ∃ z', Ev (forM' (.nm 2) (sAsg (.nm 1) (eOp addD (eVar 1) (eFrz (eLc (eItems (eVar 1)) (.nm 3) [3] tYes' (eMapA gTupD (eAstar (eVar 3) (eAcons (eVar 2) eAnil))))))) (iL ps) [.val d0, .val (.lst (fd.map tupI)), z, .no]) s
      (.nx [.val d0, .val (.lst ((ps.foldl lotsF fd).map tupI)), z', .no]) s
  | [], fd, z, s, _, _ => ⟨z, ev_for0⟩
  | p :: ps, fd, z, s, hl, hk => by
    have hf : fd.length ≤ 1000 := by
      have h1 : 1 ≤ 2 ^ (p :: ps).length := Nat.one_le_two_pow
      exact Nat.le_trans (Nat.le_mul_of_pos_right _ (by omega)) hl
    have s7 : size7 = 10000000 := rfl
    obtain ⟨z', e⟩ := held_loop (d0 := d0) ps (lotsF fd p) (.val (.int p)) s (by
      rw [lotsF_len, Nat.mul_comm 2, Nat.mul_assoc]
      rw [List.length_cons, Nat.pow_succ, Nat.mul_comm (2 ^ ps.length)] at hl
      exact hl) (fun l hm => by
      rcases List.mem_append.mp hm with h | h
      · have := hk l h
        simp at this
        omega
      · obtain ⟨l', h', rfl⟩ := List.mem_map.mp h
        have := hk l' h'
        simp at this ⊢
        omega)
    have lc : Ev (eLc (eItems (eVar 1)) (.nm 3) [3] tYes' (eMapA gTupD (eAstar (eVar 3) (eAcons (eVar 2) eAnil))) [.val d0, .val (.lst (fd.map tupI)), .val (.int p), .no]) s (.lst ((fd.map fun l => l ++ [p]).map tupI)) s := by
      have e2 : (fd.map fun l => l ++ [p]).map tupI = fd.map fun l => D.tup (iL l ++ [.int p]) := by
        rw [List.map_map]
        exact List.map_congr_left fun l _ => tupI_snoc l p
      rw [e2]
      refine ev_lc (ds := fd.map tupI) (ev_items (ev_var rfl) rfl) (by rw [List.length_map]; omega) (lc_pure fd fun l hm => ⟨_, bindP_nm, ev_mapA (ds := iL l ++ [.int p]) (ev_astar (d := tupI l) (es := iL l) (ev_var rfl) rfl (ev_acons (ev_var rfl) ev_anil)) ?_⟩)
      have := hk l hm
      simp at this
      unfold gTupD
      rw [if_pos (by rw [List.length_append, List.length_map, List.length_singleton]; omega)]
    have ad : addD (.lst (fd.map tupI)) (.lst ((fd.map fun l => l ++ [p]).map tupI)) = some (.lst ((lotsF fd p).map tupI)) := by
      show (if (fd.map tupI).length + ((fd.map fun l => l ++ [p]).map tupI).length ≤ size7 then some (D.lst (fd.map tupI ++ (fd.map fun l => l ++ [p]).map tupI)) else none) = _
      rw [if_pos (by rw [List.length_map, List.length_map, List.length_map]; omega), ← List.map_append]
      rfl
    exact ⟨z', ev_for1 rfl (ev_asgN (ev_iop (ev_var rfl) (ev_frz lc) ad)) e⟩
theorem sorted_lots (ps : List Int) : gSorted [.lst ((lotsL ps).map tupI)] = some (.lst ((sortL (lotsL ps)).map tupI)) := by
  obtain ⟨r, er⟩ := fold_cons [] ps []
  have h1 : g1O sortedD [.lst ((lotsL ps).map tupI)] = none := by
    unfold lotsL
    rw [er]
    rfl
  unfold gSorted orO
  rw [h1]
  show ((tupIs? ((lotsL ps).map tupI)).map fun nss => OD.lst ((sortL nss).map tupI)) = _
  rw [tupIs_map]
  rfl
/-! ### worlds with some letters -/
def wl (k : Nat) (f : Int → Int) : List Int := (upto k).map f
def zeroF : Int → Int := fun _ => 0
theorem wl_len (k : Nat) (f : Int → Int) : (wl k f).length = k := by unfold wl; rw [List.length_map, upto_len]; omega
theorem wl_nth {k : Nat} {f : Int → Int} {p : Int} (h0 : 0 ≤ p) (h1 : p < k) : nth (wl k f) p = f p := by
  refine nth_get h0 ?_
  unfold wl
  rw [List.getElem?_map, upto_get h0 h1]
  rfl
theorem wl_ext {k : Nat} {xs : List Int} {f : Int → Int} (hl : xs.length = k) (h : ∀ p : Int, 0 ≤ p → p < k → nth xs p = f p) : xs = wl k f := by
  rw [← upto_nth xs, hl]
  exact List.map_congr_left fun p hp => h p (upto_mem.mp hp).1 (upto_mem.mp hp).2
theorem nth_set {xs : List Int} {a : Nat} {x p : Int} (h0 : 0 ≤ p) (ha : a < xs.length) : nth (xs.set a x) p = if p = a then x else nth xs p := by
  unfold nth
  rw [List.getD_eq_getElem?_getD, List.getD_eq_getElem?_getD]
  by_cases hp : p = a
  · subst hp
    rw [if_pos rfl, Int.toNat_natCast, List.getElem?_set_self ha]
    rfl
  · rw [if_neg hp, List.getElem?_set_ne (by omega)]
theorem nth_rep {k : Nat} {p : Int} : nth (List.replicate k 0) p = 0 := by
  rcases nth_or (xs := List.replicate k (0 : Int)) p with h | h
  · exact (List.mem_replicate.mp h).2
  · exact h
theorem in_iLt (p : Int) (low : List Int) : inI false (.int p) (.tup (iL low)) = some (.bl (decide (p ∈ low))) := in_iL p low
theorem zip_self {x : Int → Int} : ∀ lot : List Int, lot.zip (lot.map x) = lot.map fun p => (p, x p)
  | [] => rfl
  | p :: lot => by simp only [List.map_cons, List.zip_cons_cons, zip_self lot]
theorem with_loop {a0 a1 a2 : Slot} {k : Nat} {kept : List Int} {x : Int → Int} : ∀ (ps : List Int) (acc : List Int) (z5 z6 : Slot) (s : Dk), (∀ p ∈ ps, 0 ≤ p ∧ p < k) → acc.length = k → ∃ acc' z5' z6',
    Ev (forM' (.tp [(.nm 5), (.nm 6)]) (sIf (tVal (eOp (inI false) (eVar 5) (eVar 3))) (sStore 4 (eVar 5) (eVar 6)) sNext) (ps.map fun p => D.tup [.int p, .int (x p)]) [a0, a1, a2, .val (.tup (iL kept)), .own (.lst (iL acc)), z5, z6]) s
      (.nx [a0, a1, a2, .val (.tup (iL kept)), .own (.lst (iL acc')), z5', z6']) s ∧ acc'.length = k ∧ ∀ q : Int, 0 ≤ q → q < k → nth acc' q = if q ∈ ps ∧ q ∈ kept then x q else nth acc q
  | [], acc, z5, z6, s, _, ha => ⟨acc, z5, z6, ev_for0, ha, fun q _ _ => by simp⟩
  | p :: ps, acc, z5, z6, s, hr, ha => by
    obtain ⟨p0, p1⟩ := hr p List.mem_cons_self
    by_cases hp : p ∈ kept
    · obtain ⟨acc', z5', z6', e, l', h'⟩ := with_loop (a0 := a0) (a1 := a1) (a2 := a2) (kept := kept) (x := x) ps (acc.set p.toNat (x p)) (.val (.int p)) (.val (.int (x p))) s (fun q hq => hr q (List.mem_cons_of_mem _ hq)) (by rw [List.length_set]; exact ha)
      have st := ev_store (i := 4) (k := p) (j := p.toNat) (d := .int (x p)) (mi := eVar 5) (mv := eVar 6) (env := [a0, a1, a2, .val (.tup (iL kept)), .own (.lst (iL acc)), .val (.int p), .val (.int (x p))]) (s := s) (s1 := s) (s2 := s) (ds := iL acc) rfl (ev_var rfl) (ev_var rfl) (ixN_nn p0 (by rw [List.length_map, ha]; exact p1))
      rw [set_iL] at st
      refine ⟨acc', z5', z6', ev_for1 bindP_2 (ev_sif (c := true) (ev_tval (ev_iop (ev_var rfl) (ev_var rfl) (by rw [in_iLt]; simp [hp]))) (fun _ => st) (fun h => by cases h)) e, l', fun q q0 q1 => ?_⟩
      rw [h' q q0 q1, nth_set q0 (by omega)]
      by_cases hm : q ∈ ps ∧ q ∈ kept
      · rw [if_pos hm, if_pos (show q ∈ p :: ps ∧ q ∈ kept from ⟨List.mem_cons_of_mem _ hm.1, hm.2⟩)]
      · rw [if_neg hm]
        by_cases hq : q = p
        · subst hq
          rw [if_pos (show q = ((q.toNat : Nat) : Int) by omega), if_pos (show q ∈ q :: ps ∧ q ∈ kept from ⟨List.mem_cons_self, hp⟩)]
        · rw [if_neg (show ¬ q = ((p.toNat : Nat) : Int) by omega), if_neg (show ¬ (q ∈ p :: ps ∧ q ∈ kept) from fun h => hm ⟨(List.mem_cons.mp h.1).resolve_left hq, h.2⟩)]
    · obtain ⟨acc', z5', z6', e, l', h'⟩ := with_loop (a0 := a0) (a1 := a1) (a2 := a2) (kept := kept) (x := x) ps acc (.val (.int p)) (.val (.int (x p))) s (fun q hq => hr q (List.mem_cons_of_mem _ hq)) ha
      refine ⟨acc', z5', z6', ev_for1 bindP_2 (ev_sif (c := false) (ev_tval (ev_iop (ev_var rfl) (ev_var rfl) (by rw [in_iLt]; simp [hp]))) (fun h => by cases h) (fun _ => ev_next)) e, l', fun q q0 q1 => ?_⟩
      rw [h' q q0 q1]
      by_cases hm : q ∈ ps ∧ q ∈ kept
      · rw [if_pos hm, if_pos (show q ∈ p :: ps ∧ q ∈ kept from ⟨List.mem_cons_of_mem _ hm.1, hm.2⟩)]
      · rw [if_neg hm, if_neg (show ¬ (q ∈ p :: ps ∧ q ∈ kept) from fun h => (List.mem_cons.mp h.1).elim (fun e => hp (by rw [← e]; exact h.2)) fun h1 => hm ⟨h1, h.2⟩)]
theorem rep_g {sh : List Int} (h : Shp sh) : gRepO (.lst [.int 0]) (.int ((iL sh).length : Nat)) = some (.lst (iL (List.replicate sh.length 0))) := by
  have b4 := h.l4
  show (if 0 ≤ (((iL sh).length : Nat) : Int) ∧ (((iL sh).length : Nat) : Int) ≤ 1000 ∧ [D.int 0].length ≤ 1000 then some (OD.lst (List.replicate (((iL sh).length : Nat) : Int).toNat [D.int 0]).flatten) else none) = _
  rw [List.length_map, if_pos ⟨by omega, by omega, by simp⟩, Int.toNat_natCast, rep_iL]
/-! ### corners, cubes -/
theorem ev_len {env : En} {m : En → M D} {s s1 : Dk} {xs : List Int} (h : Ev (m env) s (.tup (iL xs)) s1) : Ev (eMapA (g1 lenD) (eAcons m eAnil) env) s (.int (xs.length : Nat)) s1 := by
  refine ev_mapA (ev_acons h ev_anil) ?_
  show some (D.int ((iL xs).length : Nat)) = _
  rw [List.length_map]
theorem lots_len (ps : List Int) : (lotsL ps).length = 2 ^ ps.length := by
  have key : ∀ (ps : List Int) (fd : List (List Int)), (ps.foldl lotsF fd).length = fd.length * 2 ^ ps.length := fun ps => by
    induction ps with
    | nil => intro fd; simp
    | cons p ps ih => intro fd; rw [List.foldl_cons, ih, lotsF_len, List.length_cons, Nat.pow_succ, Nat.mul_comm 2, Nat.mul_assoc, Nat.mul_comm 2]
  unfold lotsL
  rw [key, List.length_singleton, Nat.one_mul]
theorem lots_16 {ps : List Int} (h : ps.length ≤ 4) : (sortL (lotsL ps)).length ≤ 16 := by
  rw [(sortL_perm _).length_eq, lots_len]
  exact Nat.pow_le_pow_right (n := 2) (by decide) h
/-- the entry at the world of the letters -/
def entT (sh T : List Int) (f : Int → Int) : Int := nth T (atW sh (upto sh.length) (wl sh.length f) 0)
def cubV (sh T lot : List Int) (x : Int → Int) : Int := cubF (entT sh T) x lot zeroF
/-- letters that are letters -/
def Let (sh : List Int) (lot : List Int) (x : Int → Int) : Prop := ∀ p ∈ lot, 0 ≤ x p ∧ x p < nth sh p
theorem mix_let {sh lot R : List Int} {x : Int → Int} (h : Shp sh) (hx : Let sh lot x) (hs : ∀ q ∈ R, q ∈ lot) : ∀ p : Int, 0 ≤ p → p < sh.length → 0 ≤ mixF x zeroF R p ∧ mixF x zeroF R p < nth sh p := fun p p0 p1 => by
  unfold mixF zeroF
  by_cases hp : p ∈ R
  · rw [if_pos hp]; exact hx p (hs p hp)
  · rw [if_neg hp]
    have := h.le _ (nth_mem p0 p1)
    omega
theorem wl_world {sh : List Int} {f : Int → Int} (hf : ∀ p : Int, 0 ≤ p → p < sh.length → 0 ≤ f p ∧ f p < nth sh p) : wl sh.length f ∈ wordsL sh := by
  refine words_mem_of (wl_len _ _) fun i n x e1 e2 => ?_
  have hi := (List.getElem?_eq_some_iff.mp e1).1
  have h1 : nth (wl sh.length f) (i : Int) = x := nth_get (by omega) (by rw [Int.toNat_natCast]; exact e2)
  have h2 : nth sh (i : Int) = n := nth_get (by omega) (by rw [Int.toNat_natCast]; exact e1)
  have := hf (i : Int) (by omega) (by omega)
  rw [wl_nth (by omega) (by omega)] at h1
  rw [h1, h2] at this
  exact this
theorem whole_rng (sh : List Int) : ∀ p ∈ upto sh.length, 0 ≤ p ∧ p < sh.length := fun p hp => upto_mem.mp hp
theorem small_sg (n : Int) : small64b (sg n) = true := by
  unfold sg
  by_cases h : n.fmod 2 = 0
  · rw [if_pos h]; decide
  · rw [if_neg h]; decide
theorem ent_ok {sh T : List Int} {m : Int} {f : Int → Int} (h : Shp sh) (hT : Lst sh m (upto sh.length) T) (hf : ∀ p : Int, 0 ≤ p → p < sh.length → 0 ≤ f p ∧ f p < nth sh p) (s : Dk) : Ev (F_met_entry [.tup (iL sh), .tup (iL (upto sh.length)), .tup (iL T), .tup (iL (wl sh.length f))]) s (.int (entT sh T f)) s := by
  obtain ⟨a0, a1⟩ := at_bound (fun p p0 p1 => world_at (wl_world hf) p0 p1) (upto sh.length) 0 1 (whole_rng sh) (by decide) (by decide)
  exact met_ok h (wl_len _ _) (whole_rng sh) ⟨a0, by rw [hT.len]; exact a1⟩ s
/-! ### parts -/
def lx (lot v : List Int) (q : Int) : Int := nth v (lot.idxOf q : Nat)
theorem lx_map {lot v : List Int} (hn : lot.Nodup) (hl : v.length = lot.length) : lot.map (lx lot v) = v := by
  apply List.ext_getElem?
  intro i
  rw [List.getElem?_map]
  by_cases hi : i < lot.length
  · rw [List.getElem?_eq_getElem hi, List.getElem?_eq_getElem (by omega)]
    show some (lx lot v lot[i]) = _
    unfold lx
    rw [hn.idxOf_getElem]
    congr 1
    exact nth_get (by omega) (by rw [Int.toNat_natCast, List.getElem?_eq_getElem (by omega)])
  · rw [List.getElem?_eq_none (by omega), List.getElem?_eq_none (by omega)]; rfl
theorem lx_at {lot : List Int} {x : Int → Int} {q : Int} (hq : q ∈ lot) : lx lot (lot.map x) q = x q := by
  have hi := List.idxOf_lt_length_of_mem hq
  unfold lx
  refine nth_get (by omega) ?_
  rw [Int.toNat_natCast, List.getElem?_map, List.getElem?_eq_getElem hi, List.getElem_idxOf]
  rfl
theorem lx_let {sh lot v : List Int} (hn : lot.Nodup) (hv : v ∈ wordsL (lot.map (nth sh))) : Let sh lot (lx lot v) := fun p hp => by
  obtain ⟨hl, hb⟩ := words_mem hv
  rw [List.length_map] at hl
  have hi := List.idxOf_lt_length_of_mem hp
  have e1 : (lot.map (nth sh))[lot.idxOf p]? = some (nth sh p) := by
    rw [List.getElem?_map, List.getElem?_eq_getElem hi, List.getElem_idxOf]
    rfl
  have e2 : v[lot.idxOf p]? = some (lx lot v p) := by
    have := get_nth (xs := v) (p := (lot.idxOf p : Nat)) (by omega) (by omega)
    rw [Int.toNat_natCast] at this
    exact this
  exact hb _ _ _ e1 e2
theorem whole_lot {sh : List Int} (h : Shp sh) : Lot sh.length (upto sh.length) := ⟨upto_asc _, whole_rng sh, by rw [upto_len]; have := h.l4; omega⟩
def partL (sh : List Int) (m : Int) (T lot : List Int) : List Int := (wordsL (lot.map (nth sh))).map fun v => red m (cubV sh T lot (lx lot v))
section
variable {sh T lot : List Int} {m : Int}
theorem lot_words (h : Shp sh) (hl : Lot sh.length lot) : (wordsL (lot.map (nth sh))).length ≤ 256 := words_len (lot_le h hl') (by rw [List.length_map]; exact hl.len)
where
  hl' : Lot sh.length lot := hl
  lot_le {sh lot : List Int} (h : Shp sh) (hl : Lot sh.length lot) : ∀ n ∈ lot.map (nth sh), n ≤ 4 := fun n hn => by
    obtain ⟨p, hp, rfl⟩ := List.mem_map.mp hn
    exact (h.le _ (nth_mem (hl.rng p hp).1 (hl.rng p hp).2)).2
/-! ### the law's cubes -/
theorem lots_map (f : Int → Int) : ∀ (ps : List Int) (fd : List (List Int)), (ps.map f).foldl lotsF (fd.map (List.map f)) = (ps.foldl lotsF fd).map (List.map f)
  | [], fd => rfl
  | p :: ps, fd => by
    have : lotsF (fd.map (List.map f)) (f p) = (lotsF fd p).map (List.map f) := by
      unfold lotsF
      rw [List.map_append, List.map_map, List.map_map]
      congr 1
      exact List.map_congr_left fun l _ => by simp
    rw [List.map_cons, List.foldl_cons, List.foldl_cons, this, lots_map f ps]
theorem lots_upto (lot : List Int) : (lotsL (upto lot.length)).map (List.map (nth lot)) = lotsL lot := by
  have := lots_map (nth lot) (upto lot.length) [[]]
  rw [upto_nth] at this
  exact this.symm
theorem put_loop {a0 a1 a2 a5 a6 a7 : Slot} {k : Nat} {x : Int → Int} (hr : ∀ p ∈ lot, 0 ≤ p ∧ p < k) : ∀ (O acc : List Int) (z9 : Slot) (s : Dk), (∀ a ∈ O, 0 ≤ a ∧ a < lot.length) → acc.length = k → ∃ acc' z9',
    Ev (forM' (.nm 9) (sStore 8 (eOp ixD (eVar 3) (eVar 9)) (eOp ixD (eVar 4) (eVar 9))) (iL O) [a0, a1, a2, .val (.tup (iL lot)), .val (.tup (iL (lot.map x))), a5, a6, a7, .own (.lst (iL acc)), z9]) s
      (.nx [a0, a1, a2, .val (.tup (iL lot)), .val (.tup (iL (lot.map x))), a5, a6, a7, .own (.lst (iL acc')), z9']) s ∧ acc'.length = k ∧ ∀ q : Int, 0 ≤ q → q < k → nth acc' q = if q ∈ O.map (nth lot) then x q else nth acc q
  | [], acc, z9, s, _, ha => ⟨acc, z9, ev_for0, ha, fun q _ _ => by simp⟩
  | a :: O, acc, z9, s, hO, ha => by
    obtain ⟨a0', a1'⟩ := hO a List.mem_cons_self
    obtain ⟨p0, p1⟩ := hr _ (nth_mem a0' a1')
    obtain ⟨acc', z9', e, l', h'⟩ := put_loop (a0 := a0) (a1 := a1) (a2 := a2) (a5 := a5) (a6 := a6) (a7 := a7) (x := x) hr O (acc.set (nth lot a).toNat (x (nth lot a))) (.val (.int a)) s (fun b hb => hO b (List.mem_cons_of_mem _ hb)) (by rw [List.length_set]; exact ha)
    have st := ev_store (i := 8) (k := nth lot a) (j := (nth lot a).toNat) (d := .int (x (nth lot a))) (mi := eOp ixD (eVar 3) (eVar 9)) (mv := eOp ixD (eVar 4) (eVar 9)) (env := [a0, a1, a2, .val (.tup (iL lot)), .val (.tup (iL (lot.map x))), a5, a6, a7, .own (.lst (iL acc)), .val (.int a)]) (s := s) (s1 := s) (s2 := s) (ds := iL acc) rfl
      (ev_iop (ev_var rfl) (ev_var rfl) (by
        have := nth_at (xs := lot.map x) a0' (by rw [List.length_map]; exact a1')
        rw [nth_map a0' a1'] at this
        exact this)) (ev_iop (ev_var rfl) (ev_var rfl) (nth_at a0' a1')) (ixN_nn p0 (by rw [List.length_map, ha]; exact p1))
    rw [set_iL] at st
    refine ⟨acc', z9', ev_for1 rfl st e, l', fun q q0 q1 => ?_⟩
    rw [h' q q0 q1, nth_set q0 (by omega), List.map_cons]
    by_cases hm : q ∈ O.map (nth lot)
    · rw [if_pos hm, if_pos (List.mem_cons_of_mem _ hm)]
    · rw [if_neg hm]
      by_cases hq : q = nth lot a
      · subst hq
        rw [if_pos (show nth lot a = (((nth lot a).toNat : Nat) : Int) by omega), if_pos List.mem_cons_self]
      · rw [if_neg (show ¬ q = (((nth lot a).toNat : Nat) : Int) by omega), if_neg fun h => (List.mem_cons.mp h).elim hq hm]
abbrev lcB : En → M Fl := (sSeq (sAsgO 8 (eOpO gRepO (eFrz (eMapO gLstO (eAcons (eC (.int 0)) eAnil))) (eMapA (g1 lenD) (eAcons (eVar 0) eAnil)))) (sSeq (sFor (eItems (eVar 7)) (.nm 9) (sStore 8 (eOp ixD (eVar 3) (eVar 9)) (eOp ixD (eVar 4) (eVar 9)))) (sFrz [8] (sAsg (.nm 6) (eOp addD (eVar 6) (eOp mulD (eOp ixD (eVar 5) (eMapA (g1 tupleD) (eAcons (eVar 8) eAnil))) (eIf (tVal (eOp eqD (eOp modD (eMapA (g1 intD) (eAcons (eOp subD (eMapA (g1 lenD) (eAcons (eVar 3) eAnil)) (eMapA (g1 lenD) (eAcons (eVar 7) eAnil))) eAnil)) (eC (.int 2))) (eC (.int 0)))) (eC (.int 1)) (eUn negD (eC (.int 1))))))))))
theorem whole_map (sh : List Int) : (upto sh.length).map (nth sh) = sh := upto_nth sh
theorem ent_world (h : Shp sh) {f : Int → Int} (hf : ∀ p : Int, 0 ≤ p → p < sh.length → 0 ≤ f p ∧ f p < nth sh p) : entW (wordsL sh) T (wl sh.length f) = entT sh T f := by
  have hw := wl_world hf
  have hx := word_at hw (whole_rng sh)
  rw [whole_map] at hx
  have e2 : (upto sh.length).map (nth (wl sh.length f)) = wl sh.length f := by
    have := upto_nth (wl sh.length f)
    rw [wl_len] at this
    exact this
  rw [e2] at hx
  obtain ⟨a0, a1⟩ := at_bound (fun p p0 p1 => world_at hw p0 p1) (upto sh.length) 0 1 (whole_rng sh) (by decide) (by decide)
  rw [entW_at (words_nodup _) hx, Int.toNat_of_nonneg a0]
  rfl
theorem sum_step {α : Type} {g : α → Int} {S : Int} {a : α} {as : List α} : S + ((a :: as).map g).sum = S + g a + (as.map g).sum := by rw [List.map_cons, List.sum_cons, Int.add_assoc]
theorem lcube_loop {d2 : D} {x : Int → Int} (h : Shp sh) (hl : Lot sh.length lot) (hT : (wordsL sh).length = T.length) (hx : Let sh lot x) : ∀ (Os : List (List Int)) (S : Int) (z7 z8 z9 : Slot) (s : Dk), (∀ O ∈ Os, O ∈ lotsL (upto lot.length)) → ∃ z7' z8' z9',
    Ev (forM' (.nm 7) lcB (Os.map tupI) [.val (.tup (iL sh)), .val (.int m), .val d2, .val (.tup (iL lot)), .val (.tup (iL (lot.map x))), .val (.dT (kvs (wordsL sh) T)), .val (.int S), z7, z8, z9]) s
      (.nx [.val (.tup (iL sh)), .val (.int m), .val d2, .val (.tup (iL lot)), .val (.tup (iL (lot.map x))), .val (.dT (kvs (wordsL sh) T)), .val (.int (S + (Os.map fun O => sg ((lot.length : Int) - O.length) * entT sh T (mixF x zeroF (O.map (nth lot)))).sum)), z7', z8', z9']) s
  | [], S, z7, z8, z9, s, _ => ⟨z7, z8, z9, by simp only [List.map_nil, List.sum_nil, Int.add_zero]; exact ev_for0⟩
  | O :: Os, S, z7, z8, z9, s, hO => by
    have hs : O.Sublist (upto lot.length) := lots_subl (hO O List.mem_cons_self)
    have hr : ∀ a ∈ O, 0 ≤ a ∧ a < lot.length := fun a ha => upto_mem.mp (hs.subset ha)
    have hq : ∀ q ∈ O.map (nth lot), q ∈ lot := fun q hq => by
      obtain ⟨a, ha, rfl⟩ := List.mem_map.mp hq
      exact nth_mem (hr a ha).1 (hr a ha).2
    have hf := mix_let h hx hq
    obtain ⟨acc', z9a, e1, l1, h1⟩ := put_loop (a0 := .val (.tup (iL sh))) (a1 := .val (.int m)) (a2 := .val d2) (a5 := .val (.dT (kvs (wordsL sh) T))) (a6 := .val (.int S)) (a7 := .val (tupI O)) (x := x) hl.rng O (List.replicate sh.length 0) z9 s hr (by rw [List.length_replicate])
    have ea : acc' = wl sh.length (mixF x zeroF (O.map (nth lot))) := wl_ext l1 fun p p0 p1 => by
      rw [h1 p p0 p1, nth_rep]
      rfl
    subst ea
    obtain ⟨z7', z8', z9', e⟩ := lcube_loop (d2 := d2) h hl hT hx Os (S + sg ((lot.length : Int) - O.length) * entT sh T (mixF x zeroF (O.map (nth lot)))) (.val (tupI O)) (.val (.lst (iL (wl sh.length (mixF x zeroF (O.map (nth lot))))))) z9a s fun Q hQ => hO Q (List.mem_cons_of_mem _ hQ)
    have hv : ixD (.dT (kvs (wordsL sh) T)) (.tup (iL (wl sh.length (mixF x zeroF (O.map (nth lot)))))) = some (.int (entT sh T (mixF x zeroF (O.map (nth lot))))) := by
      show (keysD (iL _)).bind (valD (kvs (wordsL sh) T)) = _
      rw [show keysD (iL (wl sh.length (mixF x zeroF (O.map (nth lot))))) = some (kL (wl sh.length (mixF x zeroF (O.map (nth lot))))) from keys_iL _, Option.bind_some, ← ent_world h hf]
      exact val_ent (words_nodup _) hT (wl_world hf)
    have sgn : Ev (eIf (tVal (eOp eqD (eOp modD (eMapA (g1 intD) (eAcons (eOp subD (eMapA (g1 lenD) (eAcons (eVar 3) eAnil)) (eMapA (g1 lenD) (eAcons (eVar 7) eAnil))) eAnil)) (eC (.int 2))) (eC (.int 0)))) (eC (.int 1)) (eUn negD (eC (.int 1))) [.val (.tup (iL sh)), .val (.int m), .val d2, .val (.tup (iL lot)), .val (.tup (iL (lot.map x))), .val (.dT (kvs (wordsL sh) T)), .val (.int S), .val (tupI O), .val (.lst (iL (wl sh.length (mixF x zeroF (O.map (nth lot)))))), z9a]) s (.int (sg ((lot.length : Int) - O.length))) s := by
      refine ev_if (c := decide (((lot.length : Int) - O.length).fmod 2 = 0)) (ev_tval (ev_iop (ev_iop (ev_int1 (ev_iop (ev_len (ev_var rfl)) (ev_len (xs := O) (ev_var rfl)) rfl)) ev_c (modD_i (by decide))) ev_c (eq_int _ _))) (fun hc => ?_) (fun hc => ?_)
      · unfold sg; rw [if_pos (of_decide_eq_true hc)]; exact ev_c
      · unfold sg; rw [if_neg (of_decide_eq_false hc)]; exact ev_un ev_c rfl
    have mul : mulD (.int (entT sh T (mixF x zeroF (O.map (nth lot))))) (.int (sg ((lot.length : Int) - O.length))) = some (.int (sg ((lot.length : Int) - O.length) * entT sh T (mixF x zeroF (O.map (nth lot))))) := by
      rw [mulD_r (small_sg _), Int.mul_comm]
    rw [sum_step]
    exact ⟨z7', z8', z9', ev_for1 rfl (ev_seq (ev_asgO (ev_opO (ev_frz (ev_mapO (ev_acons ev_c ev_anil) rfl)) (ev_mapA (ev_acons (ev_var rfl) ev_anil) rfl) (rep_g h))) (ev_seq (ev_for (ds := iL O) (ev_items (ev_var rfl) rfl) e1) (ev_sfrz rfl (ev_asgN (ev_iop (ev_var rfl) (ev_iop (ev_iop (ev_var rfl) (ev_mapA (ev_acons (ev_var rfl) ev_anil) rfl) hv) sgn mul) rfl))))) e⟩
theorem len_prod (h : Shp sh) (hT : Lst sh m (upto sh.length) T) : (wordsL sh).length = T.length := by
  have h1 := hT.len
  rw [whole_map] at h1
  have h2 := words_prod (ns := sh) fun n hn => by have := h.le n hn; omega
  omega
end
/-! ### comparisons -/
theorem bls_map {α : Type} (b : α → Bool) : ∀ xs : List α, bls? (xs.map fun x => D.bl (b x)) = some (xs.map b)
  | [] => rfl
  | x :: xs => by simp only [List.map_cons, bls?, bls_map b xs, Option.map_some]
theorem all_bl {α : Type} (b : α → Bool) (xs : List α) : allD (.lst (xs.map fun x => D.bl (b x))) = some (.bl (xs.all b)) := by
  simp only [allD, bls_map, Option.map_some, List.all_map, Function.comp_def, id]
theorem any_bl {α : Type} (b : α → Bool) (xs : List α) : anyD (.lst (xs.map fun x => D.bl (b x))) = some (.bl (xs.any b)) := by
  simp only [anyD, bls_map, Option.map_some, List.any_map, Function.comp_def, id]
theorem eqv_ints : ∀ as bs : List Int, PyData.eqvAll (as.map PyData.int) (bs.map PyData.int) = decide (as = bs)
  | [], [] => by simp [PyData.eqvAll]
  | [], b :: bs => by simp [PyData.eqvAll]
  | a :: as, [] => by simp [PyData.eqvAll]
  | a :: as, b :: bs => by
    simp only [List.map_cons, PyData.eqvAll, PyData.eqv, eqv_ints as bs]
    by_cases h : a = b <;> by_cases h2 : as = bs <;> simp [h, h2]
theorem ne_tups (as bs : List Int) : neD (tupI as) (tupI bs) = some (.bl (!decide (as = bs))) := by
  have e1 : ∀ ns : List Int, D.toP (tupI ns) = some (.tuple (ns.map PyData.int)) := fun ns => by
    show (D.toPs (iL ns)).map PyData.tuple = _
    rw [toPs_iL]; rfl
  unfold neD
  rw [e1, e1]
  simp only [shaped_ints, Bool.and_self, if_true, PyData.eqv, eqv_ints]
theorem shw_list {ds : List D} {h n : Nat} (H : ∀ d ∈ ds, Shw d h n) : Shw (.lst ds) (h + 1) (ds.length * (n + 2) + 2) := by
  obtain ⟨ps, e, l, a1, a2, a3, a4, a5⟩ := shws H
  refine ⟨.list ps, by simp only [D.toP, e, Option.map_some], by simp only [PyData.showable]; exact showable_all a1, by simp only [PyData.canLay0]; exact lay_all a2, ?_, ?_, ?_⟩
  · simp only [PyData.depth]
    have := depth_all a3
    omega
  · simp only [PyData.shown, shown_all]
    have hb : ∀ t ∈ ps.map PyData.shown, t.length ≤ n := fun t ht => by
      obtain ⟨p, hp, rfl⟩ := List.mem_map.mp ht
      exact a4 p hp
    have key : ∀ ts : List Str, (listText ts).length ≤ piled ts + 2 := fun ts => by
      cases ts with
      | nil => decide
      | cons t r =>
        have h := textFrom_length_pos r 1 (("[" : Str) ++ (if (0 : Nat) > 0 then ", " else "" : String) ++ t) (Nat.succ_pos 0)
        have e : ((("[" : Str) ++ (if (0 : Nat) > 0 then ", " else "" : String) ++ t)).length = 1 + t.length := by
          rw [strLen_append, strLen_append]; rfl
        have hX : (listText (t :: r)).length = (textFrom 0 "[" (t :: r)).length + 1 := by
          show (textFrom 0 "[" (t :: r) ++ "]").length = _
          rw [strLen_append]; rfl
        have hY : (textFrom 0 "[" (t :: r)).length = (textFrom 1 (("[" : Str) ++ (if (0 : Nat) > 0 then ", " else "" : String) ++ t) r).length := rfl
        rw [hX, hY, h, e, piled_cons]; omega
    have h2 := piled_bound hb
    have h3 := key (ps.map PyData.shown)
    rw [List.length_map, l] at h2
    omega
  · simp only [PyData.shown, shown_all]
    refine okS_list fun t ht => ?_
    obtain ⟨p, hp, rfl⟩ := List.mem_map.mp ht
    exact a5 p hp
theorem toP_list {ds : List D} {h n : Nat} (H : ∀ d ∈ ds, Shw d h n) (hh : h ≤ 60) : ∃ ps : List PyData, D.toP (.lst ds) = some (.list ps) ∧ ps.length = ds.length ∧ SeqAt.shaped (.list ps) = true := by
  obtain ⟨ps, e, l, a1, a2, a3, a4, a5⟩ := shws H
  refine ⟨ps, by simp only [D.toP, e, Option.map_some], l, ?_⟩
  unfold SeqAt.shaped
  rw [Bool.and_eq_true]
  refine ⟨by simp only [PyData.canLay0]; exact lay_all a2, decide_eq_true ?_⟩
  simp only [PyData.depth]
  have := depth_all a3
  omega
theorem eq_nilL {ds : List D} {h n : Nat} (H : ∀ d ∈ ds, Shw d h n) (hh : h ≤ 60) : eqD (.lst ds) (.lst []) = some (.bl ds.isEmpty) := by
  obtain ⟨ps, e, l, hs⟩ := toP_list H hh
  obtain ⟨qs, e2, l2, hs2⟩ := toP_list (ds := []) (h := 0) (n := 0) (fun d hd => by cases hd) (by decide)
  have : qs = [] := List.length_eq_zero_iff.mp l2
  subst this
  unfold eqD
  rw [e, e2]
  simp only [hs, hs2, Bool.and_self, if_true, PyData.eqv]
  cases ds with
  | nil =>
    have : ps = [] := List.length_eq_zero_iff.mp l
    subst this
    simp [PyData.eqvAll]
  | cons d ds =>
    cases ps with
    | nil => simp at l
    | cons p ps => simp [PyData.eqvAll]
theorem ne_nilL {ds : List D} {h n : Nat} (H : ∀ d ∈ ds, Shw d h n) (hh : h ≤ 60) : neD (.lst ds) (.lst []) = some (.bl (!ds.isEmpty)) := by
  obtain ⟨ps, e, l, hs⟩ := toP_list H hh
  obtain ⟨qs, e2, l2, hs2⟩ := toP_list (ds := []) (h := 0) (n := 0) (fun d hd => by cases hd) (by decide)
  have : qs = [] := List.length_eq_zero_iff.mp l2
  subst this
  unfold neD
  rw [e, e2]
  simp only [hs, hs2, Bool.and_self, if_true, PyData.eqv]
  cases ds with
  | nil =>
    have : ps = [] := List.length_eq_zero_iff.mp l
    subst this
    simp [PyData.eqvAll]
  | cons d ds =>
    cases ps with
    | nil => simp at l
    | cons p ps => simp [PyData.eqvAll]
theorem filt_empty {α : Type} (b : α → Bool) : ∀ xs : List α, (xs.filter b).isEmpty = !(xs.any b)
  | [] => rfl
  | x :: xs => by
    by_cases h : b x = true
    · rw [List.filter_cons_of_pos h, List.any_cons, h]; rfl
    · rw [List.filter_cons_of_neg h, filt_empty b xs, List.any_cons]
      rw [Bool.not_eq_true] at h
      rw [h, Bool.false_or]
theorem any_not_zero (ns : List Int) : (ns.filter fun x => !decide (x = 0)).isEmpty = !(ns.any fun n => n != 0) := by
  rw [filt_empty]
  congr 2
theorem shw_plain {i : Int} (h : i.natAbs < 10 ^ 400) : Shw (.int i) 0 401 := shw_int (by decide) (by decide) h
theorem shw_lot {k : Nat} {l : List Int} (hk : k ≤ 4) (h : Lot k l) : Shw (tupI l) 1 19 := by
  refine shw_mono (shw_ints (ns := l) (k := 1) (by decide) (by decide) fun n hn => ?_) (Nat.le_refl _) ?_
  · have := h.rng n hn
    omega
  · have : l.length * (1 + 3) ≤ 4 * (1 + 3) := Nat.mul_le_mul_right _ h.len
    omega
/-! ### what holds what -/
def heldB (lot other : List Int) : Bool := lot.all fun p => decide (p ∈ other)
def overB (lot big : List Int) : Bool := !decide (big = lot) && heldB lot big
def leastL (some : List (List Int)) : List (List Int) := some.filter fun lot => !(some.any fun big => overB lot big)
theorem notin_iL (p : Int) (low : List Int) : inI true (.int p) (.tup (iL low)) = some (.bl (!decide (p ∈ low))) := by
  show (ints? (iL low)).map _ = _
  rw [ints_iL']
  rfl
theorem least_eq (some : List (List Int)) : (some.filter fun lot => (some.filter fun big => overB lot big).isEmpty) = leastL some := by
  unfold leastL
  congr 1
  funext lot
  rw [filt_empty]
section
variable {sh T : List Int} {m : Int}
def allLots (sh : List Int) : List (List Int) := sortL (lotsL (upto sh.length))
theorem all_lot (h : Shp sh) {l : List Int} (hl : l ∈ allLots sh) : Lot sh.length l := lots_mem h.l4 hl
theorem all_16 (h : Shp sh) : (allLots sh).length ≤ 16 := lots_16 (by rw [upto_len]; have := h.l4; omega)
def someLots (sh : List Int) (m : Int) (T : List Int) : List (List Int) := (allLots sh).filter fun lot => (partL sh m T lot).any fun n => n != 0
theorem some_all {l : List Int} (hl : l ∈ someLots sh m T) : l ∈ allLots sh := (List.mem_filter.mp hl).1
theorem some_16 (h : Shp sh) : (someLots sh m T).length ≤ 16 := Nat.le_trans (List.length_filter_le _ _) (all_16 h)
end
/-! ### draws of numbers of any size -/
theorem number_drawB {m size B : Int} (hm : m = 0 ∨ 2 ≤ m) (h1 : m ≤ B) (hs : 0 ≤ size) (hs1 : size ≤ B) (hB : B + 1 < 1000000 ^ 99) (s : Dk) (hl : Fit s) : ∃ x s', Nm m x ∧ (x.natAbs : Int) ≤ B ∧ Ev (F__law_number [.deck, .int m, .int size]) s (.int x) s' ∧ Fit s' := by
  by_cases hz : m = 0
  · obtain ⟨r, s1, e1, r0, r1, f1⟩ := great_ok (size + 1) (by omega) (Int.lt_of_le_of_lt (by omega) hB) s hl
    obtain ⟨q, s2, hq, e2, f2⟩ := pick_int [1, -1] (by simp) (by decide) s1 f1
    have hq' : q = 1 ∨ q = -1 := by simpa using hq
    refine ⟨r * q, s2, .inl hz, ?_, ev_run (ev_seqR (ev_sif (c := true) (ev_tval (ev_iop (ev_var rfl) ev_c (by rw [eq_int]; simp [hz]))) (fun _ => ev_rt (ev_iop (ev_call (ev_acons (ev_var rfl) (ev_acons (ev_iop (ev_var rfl) ev_c rfl) ev_anil)) rfl e1) (ev_call (ev_acons (ev_var rfl) (ev_acons (ev_frz (ev_mapO (ds := iL [1, -1]) (ev_acons ev_c (ev_acons (ev_un ev_c rfl) ev_anil)) rfl)) ev_anil)) rfl e2) (mulD_r ?_))) (fun h => by cases h))), f2⟩
    · rcases hq' with rfl | rfl <;> omega
    · rcases hq' with rfl | rfl <;> decide
  · have h2 := hm.resolve_left hz
    obtain ⟨r, s1, e1, r0, r1, f1⟩ := great_ok m (by omega) (Int.lt_of_le_of_lt (by omega) hB) s hl
    exact ⟨r, s1, .inr ⟨r0, r1⟩, by omega, ev_run (ev_seq (ev_sif (c := false) (ev_tval (ev_iop (ev_var rfl) ev_c (by rw [eq_int]; simp [hz]))) (fun h => by cases h) (fun _ => ev_next)) (ev_rt (ev_call (ev_acons (ev_var rfl) (ev_acons (ev_var rfl) ev_anil)) rfl e1))), f1⟩
section
variable {sh lot : List Int} {m : Int}
theorem lot_bd (h : Shp sh) (hl : Lot sh.length lot) : ∀ n ∈ lot.map (nth sh), 1 ≤ n ∧ n ≤ 4 := fun n hn => by
  obtain ⟨p, hp, rfl⟩ := List.mem_map.mp hn
  exact h.le _ (nth_mem (hl.rng p hp).1 (hl.rng p hp).2)
theorem lst_of (h : Shp sh) (hl : Lot sh.length lot) {es : List Int} (he : es.length = (wordsL (lot.map (nth sh))).length) (hn : ∀ x ∈ es, Nm m x) : Lst sh m lot es := by
  refine ⟨?_, hn, by rw [he]; exact lot_words h hl⟩
  rw [he]
  exact words_prod fun n hn => by have := lot_bd h hl n hn; omega
theorem lst_len (h : Shp sh) (hl : Lot sh.length lot) {es : List Int} (he : Lst sh m lot es) : (wordsL (lot.map (nth sh))).length = es.length := by
  have h1 := he.len
  have h2 := words_prod (ns := lot.map (nth sh)) fun n hn => by have := lot_bd h hl n hn; omega
  omega
theorem entries_drawB {size B : Int} (h : Shp sh) (hl : Lot sh.length lot) (hm : m = 0 ∨ 2 ≤ m) (h1 : m ≤ B) (hs : 0 ≤ size) (hs1 : size ≤ B) (hB : B + 1 < 1000000 ^ 99) (s : Dk) (f : Fit s) :
    ∃ es s', Lst sh m lot es ∧ (∀ x ∈ es, (x.natAbs : Int) ≤ B) ∧ Ev (F__law_entries [.deck, .tup (iL sh), .int m, .tup (iL lot), .int size]) s (.tup (iL es)) s' ∧ Fit s' := by
  obtain ⟨es, s', e, l, hP, f'⟩ := lc_ints (p := .nm 5) (e := eIf (tVal (eOp gtD (eCall (cN 2 F__law_draw) (eAcons (eVar 0) (eAcons (eC (.int 5)) eAnil))) (eC (.int 0)))) (eCall (cN 3 F__law_number) (eAcons (eVar 0) (eAcons (eVar 2) (eAcons (eVar 4) eAnil)))) (eC (.int 0))) (env := [.val .deck, .val (.tup (iL sh)), .val (.int m), .val (.tup (iL lot)), .val (.int size), .no]) (fun x => Nm m x ∧ (x.natAbs : Int) ≤ B) ((wordsL (lot.map (nth sh))).map tupI) s f (fun d hd => ⟨_, bindP_nm, fun s f => by
    obtain ⟨r, s1, e1, r0, r1, f1⟩ := draw_ok 5 (by decide) (by decide) s f
    by_cases hr : 0 < r
    · obtain ⟨x, s2, n1, n2, e2, f2⟩ := number_drawB hm h1 hs hs1 hB s1 f1
      exact ⟨x, s2, ev_if (c := true) (ev_tval (ev_iop (ev_call (ev_acons (ev_var rfl) (ev_acons ev_c ev_anil)) rfl e1) ev_c (by simp [gtD, hr]))) (fun _ => ev_call (ev_acons (ev_var rfl) (ev_acons (ev_var rfl) (ev_acons (ev_var rfl) ev_anil))) rfl e2) (fun h => by cases h), ⟨n1, n2⟩, f2⟩
    · refine ⟨0, s1, ev_if (c := false) (ev_tval (ev_iop (ev_call (ev_acons (ev_var rfl) (ev_acons ev_c ev_anil)) rfl e1) ev_c (by simp [gtD, hr]))) (fun h => by cases h) (fun _ => ev_c), ⟨?_, by simp; omega⟩, f1⟩
      rcases hm with hm | hm
      · exact .inl hm
      · exact .inr ⟨by omega, by omega⟩⟩)
  rw [List.length_map] at l
  exact ⟨es, s', lst_of h hl l fun x hx => (hP x hx).1, fun x hx => (hP x hx).2, ev_run (ev_rt (ev_mapA (ev_acons (ev_frz (ev_lc (ev_items (ev_call (ev_acons (ev_var rfl) (ev_acons (ev_var rfl) ev_anil)) rfl (lwords_ok h hl s)) rfl) (by rw [List.length_map]; have := lot_words h hl; have : size7 = 10000000 := rfl; omega) e)) ev_anil) rfl)), f'⟩
theorem tot_lst (h : Shp sh) (hm : m = 0 ∨ 2 ≤ m) (lots lists : List (List Int)) : Lst sh m (upto sh.length) (totL sh m lots lists) := by
  refine ⟨?_, fun x hx => ?_, by unfold totL; rw [List.length_map]; exact wshow h⟩
  · rw [whole_map]
    unfold totL
    rw [List.length_map]
    exact words_prod fun n hn => by have := h.le n hn; omega
  · obtain ⟨w, _, rfl⟩ := List.mem_map.mp hx
    exact nm_red hm _
theorem tot_bound {lots lists : List (List Int)} {B : Int} (hm : m = 0 ∨ 2 ≤ m) (hB : m ≤ (lots.zip lists).length * B) (hB0 : 0 ≤ B) (hb : ∀ p ∈ lots.zip lists, ∀ x ∈ p.2, (x.natAbs : Int) ≤ B) : ∀ x ∈ totL sh m lots lists, (x.natAbs : Int) ≤ (lots.zip lists).length * B := fun x hx => by
  obtain ⟨w, _, rfl⟩ := List.mem_map.mp hx
  refine red_bound hm hB (sum_bound fun p hp => ?_)
  unfold entS
  rcases nth_or (xs := p.2) (atW sh p.1 w 0) with h | h
  · exact hb p hp _ h
  · rw [h]; simpa using hB0
/-! bare lists -/
def Bare (sh lot es : List Int) : Prop := ∀ (i : Nat) (v : List Int), (wordsL (lot.map (nth sh)))[i]? = some v → (0 : Int) ∈ v → es[i]? = some 0
theorem rep_tup {n : Nat} (h1 : 1 ≤ n) (h2 : n ≤ 1000) : mulT (.tup [.int 0]) (.int (n : Nat)) = some (.tup (iL (List.replicate n 0))) := by
  show (if (n : Int) = 1 then some (D.tup [.int 0]) else mulD (.tup [.int 0]) (.int (n : Nat))) = _
  by_cases hn : n = 1
  · subst hn; rfl
  · rw [if_neg (by omega)]
    show (if [D.int 0] ≠ [] ∧ 2 ≤ (n : Int) ∧ (n : Int) ≤ 1000 ∧ [D.int 0].length ≤ 1000 then some (D.tup (List.replicate (n : Int).toNat [D.int 0]).flatten) else none) = _
    rw [if_pos ⟨by simp, by omega, by omega, by simp⟩, Int.toNat_natCast, rep_iL]
end
/-! ### lots in a drawn sequence -/
theorem erase_permL : ∀ (xs : List (List Int)) (i : Nat) (x : List Int), xs[i]? = some x → (x :: xs.eraseIdx i).Perm xs
  | [], i, x, h => by simp at h
  | y :: xs, 0, x, h => by
    have : y = x := by simpa using h
    subst this
    exact .refl _
  | y :: xs, i + 1, x, h => by
    have ih := erase_permL xs i x (by simpa using h)
    show (x :: y :: xs.eraseIdx i).Perm (y :: xs)
    exact (List.Perm.swap y x _).trans (ih.cons y)
theorem erase_mapL : ∀ (xs : List (List Int)) (i : Nat), (xs.map tupI).eraseIdx i = (xs.eraseIdx i).map tupI
  | [], i => rfl
  | x :: xs, 0 => rfl
  | x :: xs, i + 1 => by
    have ih := erase_mapL xs i
    show tupI x :: (xs.map tupI).eraseIdx i = tupI x :: (xs.eraseIdx i).map tupI
    rw [ih]
abbrev mxT : En → M Bool := tBor [2] (tVal (eOp neD (eVar 2) (eFrz (eMapO gLstO eAnil))))
abbrev mxB : En → M Fl := sAppendPop 3 2 (eCall (cN 2 F__law_draw) (eAcons (eVar 0) (eAcons (eOwnLen 2) eAnil)))
theorem mixed_loop {d1 : D} {k : Nat} (h4 : k ≤ 4) : ∀ (n : Nat) (left found : List (List Int)) (s : Dk), Fit s → left.length ≤ n → found.length + left.length ≤ 1000 → (∀ l ∈ left, Lot k l) → ∃ (found' : List (List Int)) (s' : Dk),
    Ev (whileM mxT mxB (n + 1) [.val .deck, .val d1, .own (.lst (left.map tupI)), .own (.lst (found.map tupI))]) s (.nx [.val .deck, .val d1, .own (.lst []), .own (.lst (found'.map tupI))]) s' ∧ found'.Perm (found ++ left) ∧ Fit s'
  | n, [], found, s, f, _, _, _ => by
    refine ⟨found, s, ev_while0 (ev_tbor (ev_tval (ev_iop (x := .lst []) (y := .lst []) (ev_var rfl) (ev_frz (o := .lst []) (ev_mapO ev_anil rfl)) ?_))), by rw [List.append_nil], f⟩
    exact ne_nilL (h := 0) (n := 0) (fun d hd => by cases hd) (by decide)
  | 0, l :: left, found, s, f, hn, _, _ => by simp at hn
  | n + 1, l :: left, found, s, f, hn, hf, hk => by
    have hn' : left.length ≤ n := by simpa using hn
    have hf' : found.length + (left.length + 1) ≤ 1000 := hf
    have s7 : size7 = 10000000 := rfl
    obtain ⟨r, s1, e1, r0, r1, f1⟩ := draw_ok ((l :: left).length : Nat) (by rw [List.length_cons]; omega) (by rw [List.length_cons]; omega) s f
    have hr : r.toNat < (l :: left).length := by omega
    have hx : (l :: left)[r.toNat]? = some (l :: left)[r.toNat] := List.getElem?_eq_getElem hr
    have hel : ((l :: left).eraseIdx r.toNat).length = left.length := by
      have := List.length_eraseIdx_of_lt hr
      simpa using this
    obtain ⟨found', s2, e2, p2, f2⟩ := mixed_loop (d1 := d1) h4 n ((l :: left).eraseIdx r.toNat) (found ++ [(l :: left)[r.toNat]]) s1 f1 (by omega) (by rw [List.length_append, List.length_singleton]; omega) (fun q hq => hk q (List.mem_of_mem_eraseIdx hq))
    have step := ev_appendPop (i := 3) (j := 2) (n := r.toNat) (k := r) (d := tupI (l :: left)[r.toNat]) (m := eCall (cN 2 F__law_draw) (eAcons (eVar 0) (eAcons (eOwnLen 2) eAnil))) (env := [.val .deck, .val d1, .own (.lst ((l :: left).map tupI)), .own (.lst (found.map tupI))]) (ds := found.map tupI) (es := (l :: left).map tupI) (s := s) (s1 := s1) rfl rfl (ev_call (ev_acons (ev_var rfl) (ev_acons (ev_ownLen rfl) ev_anil)) rfl (by rw [List.length_map]; exact e1)) (ixN_nn r0 (by rw [List.length_map]; exact r1)) (by rw [List.getElem?_map, hx]; rfl) ⟨by rw [List.length_map]; omega, by decide, by rw [List.length_map, List.length_cons]; omega⟩
    rw [erase_mapL, show found.map tupI ++ [tupI (l :: left)[r.toNat]] = (found ++ [(l :: left)[r.toNat]]).map tupI by simp] at step
    refine ⟨found', s2, ev_while1 (ev_tbor (ev_tval (ev_iop (x := .lst ((l :: left).map tupI)) (y := .lst []) (ev_var rfl) (ev_frz (o := .lst []) (ev_mapO ev_anil rfl)) ?_))) step e2, p2.trans ?_, f2⟩
    · refine ne_nilL (h := 1) (n := 19) (fun d hd => ?_) (by decide)
      obtain ⟨q, hq, rfl⟩ := List.mem_map.mp hd
      exact shw_lot h4 (hk q hq)
    · rw [List.append_assoc]
      exact (erase_permL (l :: left) r.toNat _ hx).append_left found
section
variable {sh T : List Int} {m : Int}
theorem md_nn (hm : m = 0 ∨ 2 ≤ m) : 0 ≤ m := by rcases hm with h | h <;> omega
/-- a table is what it has at its worlds -/
theorem table_eq (h : Shp sh) (hT : Lst sh m (upto sh.length) T) : (wordsL sh).map (fun w => nth T (atW sh (upto sh.length) w 0)) = T := by
  have hl := len_prod h hT
  apply List.ext_getElem?
  intro i
  rw [List.getElem?_map]
  by_cases hi : i < T.length
  · have hw : (wordsL sh)[i]'(by omega) ∈ wordsL sh := List.getElem_mem _
    have hx := word_at hw (whole_rng sh)
    have e2 : (upto sh.length).map (nth ((wordsL sh)[i]'(by omega))) = (wordsL sh)[i]'(by omega) := by
      have := upto_nth ((wordsL sh)[i]'(by omega))
      rw [(words_mem hw).1] at this
      exact this
    rw [whole_map, e2] at hx
    obtain ⟨a0, a1⟩ := at_bound (fun p p0 p1 => world_at hw p0 p1) (upto sh.length) 0 1 (whole_rng sh) (by decide) (by decide)
    obtain ⟨hj, ej⟩ := List.getElem?_eq_some_iff.mp hx
    have eij : (atW sh (upto sh.length) ((wordsL sh)[i]'(by omega)) 0).toNat = i := by
      have e1 : (wordsL sh).idxOf ((wordsL sh)[i]'(by omega)) = i := by rw [(words_nodup sh).idxOf_getElem]
      have e2 : (wordsL sh).idxOf ((wordsL sh)[(atW sh (upto sh.length) ((wordsL sh)[i]'(by omega)) 0).toNat]'hj) = (atW sh (upto sh.length) ((wordsL sh)[i]'(by omega)) 0).toNat := by rw [(words_nodup sh).idxOf_getElem]
      rw [ej, e1] at e2
      exact e2.symm
    rw [List.getElem?_eq_getElem (by omega), List.getElem?_eq_getElem hi]
    show some (nth T (atW sh (upto sh.length) ((wordsL sh)[i]'(by omega)) 0)) = _
    congr 1
    exact nth_get a0 (by rw [eij, List.getElem?_eq_getElem hi])
  · rw [List.getElem?_eq_none (by omega), List.getElem?_eq_none (by omega)]; rfl
theorem mix_agree {x y b : Int → Int} {R : List Int} (h : ∀ q ∈ R, x q = y q) : mixF x b R = mixF y b R := by
  funext q
  unfold mixF
  by_cases hq : q ∈ R
  · rw [if_pos hq, if_pos hq, h q hq]
  · rw [if_neg hq, if_neg hq]
theorem cubV_agree {lot : List Int} {x y : Int → Int} (h : ∀ q ∈ lot, x q = y q) : cubV sh T lot x = cubV sh T lot y :=
  cub_congr fun R hR => by rw [mix_agree fun q hq => h q ((lots_subl hR).subset hq)]
theorem part_lst (h : Shp sh) (hm : m = 0 ∨ 2 ≤ m) {lot : List Int} (hl : Lot sh.length lot) : Lst sh m lot (partL sh m T lot) :=
  lst_of h hl (by unfold partL; rw [List.length_map]) fun x hx => by
    obtain ⟨v, _, rfl⟩ := List.mem_map.mp hx
    exact nm_red hm _
theorem parts_lsts (h : Shp sh) (hm : m = 0 ∨ 2 ≤ m) {L : List (List Int)} (hL : ∀ l ∈ L, Lot sh.length l) (hn : L.length ≤ 1000) : Lsts sh m L (L.map (partL sh m T)) := by
  refine ⟨by rw [List.length_map], hn, hL, fun p hp => ?_⟩
  have : p.2 = partL sh m T p.1 ∧ p.1 ∈ L := by
    have hz : L.zip (L.map (partL sh m T)) = L.map fun l => (l, partL sh m T l) := by
      have := zip_map id (partL sh m T) L
      rw [List.map_id] at this
      exact this
    rw [hz] at hp
    obtain ⟨l, hl, rfl⟩ := List.mem_map.mp hp
    exact ⟨rfl, hl⟩
  rw [this.1]
  exact part_lst h hm (hL _ this.2)
/-- all parts make up the table -/
theorem parts_total (h : Shp sh) (hm : m = 0 ∨ 2 ≤ m) (hT : Lst sh m (upto sh.length) T) {L : List (List Int)} (hL : L.Perm (lotsL (upto sh.length))) : totL sh m L (L.map (partL sh m T)) = T := by
  have h0 := md_nn hm
  have key : ∀ w ∈ wordsL sh, red m (((L.zip (L.map (partL sh m T))).map (entS sh w)).sum) = nth T (atW sh (upto sh.length) w 0) := fun w hw => by
    have hlot : ∀ l ∈ L, Lot sh.length l := fun l hl => all_lot h ((sortL_perm _).mem_iff.mpr (hL.mem_iff.mp hl))
    have hz : L.zip (L.map (partL sh m T)) = L.map fun l => (l, partL sh m T l) := by
      have := zip_map id (partL sh m T) L
      rw [List.map_id] at this
      exact this
    rw [hz, List.map_map]
    have e1 : Cg m ((L.map (entS sh w ∘ fun l => (l, partL sh m T l))).sum) ((L.map fun l => cubF (entT sh T) (nth w) l zeroF).sum) := Cg.sum fun l hl => by
      have hl' := hlot l hl
      show Cg m (nth (partL sh m T l) (atW sh l w 0)) _
      unfold partL
      rw [nth_map_get (word_at hw hl'.rng)]
      refine (red_cg m _).trans ?_
      have : cubV sh T l (lx l (l.map (nth w))) = cubF (entT sh T) (nth w) l zeroF := cubV_agree fun q hq => lx_at hq
      rw [this]
      exact .refl
    have e2 : (L.map fun l => cubF (entT sh T) (nth w) l zeroF).sum = entT sh T (mixF (nth w) zeroF (upto sh.length)) := by
      rw [sum_perm hL, cub_total]
    have e3 : wl sh.length (mixF (nth w) zeroF (upto sh.length)) = w := by
      have hwl := (words_mem hw).1
      refine (wl_ext hwl fun p p0 p1 => ?_).symm
      unfold mixF
      rw [if_pos (upto_mem.mpr ⟨p0, p1⟩)]
    have e4 : entT sh T (mixF (nth w) zeroF (upto sh.length)) = nth T (atW sh (upto sh.length) w 0) := by
      unfold entT
      rw [e3]
    rw [e2, e4] at e1
    rw [red_eq h0 e1]
    rcases nth_or (xs := T) (atW sh (upto sh.length) w 0) with hn | hn
    · exact red_nm (hT.num _ hn)
    · rw [hn]; exact red_nm (nm_zero ⟨hm⟩)
  have : totL sh m L (L.map (partL sh m T)) = (wordsL sh).map fun w => nth T (atW sh (upto sh.length) w 0) := List.map_congr_left key
  rw [this]
  exact table_eq h hT
/-! ### what is shown -/
theorem shw_nums {ns : List Int} {B : Nat} (hB : B < 10 ^ 40) (hl : ns.length ≤ 256) (hb : ∀ x ∈ ns, x.natAbs ≤ B) : Shw (tupI ns) 1 12000 := by
  refine shw_mono (shw_ints (ns := ns) (k := 40) (by decide) (by decide) fun n hn => Nat.lt_of_le_of_lt (hb n hn) hB) (Nat.le_refl _) ?_
  have := Nat.mul_le_mul_right (40 + 3) hl
  omega
theorem shw_lists {nss : List (List Int)} {B : Nat} (hB : B < 10 ^ 40) (hn : nss.length ≤ 256) (hl : ∀ ns ∈ nss, ns.length ≤ 256 ∧ ∀ x ∈ ns, x.natAbs ≤ B) : Shw (.lst (nss.map tupI)) 2 4000000 := by
  refine shw_mono (shw_list (h := 1) (n := 12000) fun d hd => ?_) (Nat.le_refl _) ?_
  · obtain ⟨ns, h, rfl⟩ := List.mem_map.mp hd
    exact shw_nums hB (hl ns h).1 (hl ns h).2
  · rw [List.length_map]
    have := Nat.mul_le_mul_right (12000 + 2) hn
    omega
theorem ent_bound {f : Int → Int} {B : Int} (hB : 0 ≤ B) (hb : ∀ x ∈ T, (x.natAbs : Int) ≤ B) : ((entT sh T f).natAbs : Int) ≤ B := by
  unfold entT
  rcases nth_or (xs := T) (atW sh (upto sh.length) (wl sh.length f) 0) with h | h
  · exact hb _ h
  · rw [h]; exact hB
theorem cub_bound {F : (Int → Int) → Int} {x : Int → Int} {B : Int} (hF : ∀ f, ((F f).natAbs : Int) ≤ B) : ∀ (ps : List Int) (b : Int → Int), ((cubF F x ps b).natAbs : Int) ≤ 2 ^ ps.length * B
  | [], b => by rw [cub_nil]; simpa using hF b
  | p :: ps, b => by
    have h1 := cub_bound (x := x) hF ps (setF b p (x p))
    have h2 := cub_bound (x := x) hF ps b
    rw [cub_cons, List.length_cons, Int.pow_succ, Int.mul_comm (2 ^ ps.length) 2, Int.mul_assoc]
    omega
theorem part_bound {lot : List Int} {B : Int} (hm : m = 0 ∨ 2 ≤ m) (hl : lot.length ≤ 4) (hmB : m ≤ 16 * B) (hB : 0 ≤ B) (hb : ∀ x ∈ T, (x.natAbs : Int) ≤ B) : ∀ x ∈ partL sh m T lot, (x.natAbs : Int) ≤ 16 * B := fun x hx => by
  obtain ⟨v, _, rfl⟩ := List.mem_map.mp hx
  refine red_bound hm hmB ?_
  have h1 := cub_bound (F := entT sh T) (x := lx lot v) (fun f => ent_bound (sh := sh) (f := f) hB hb) lot zeroF
  have h2 : (2 : Int) ^ lot.length ≤ 16 := by
    have : 2 ^ lot.length ≤ 2 ^ 4 := Nat.pow_le_pow_right (by decide) hl
    have h3 : ((2 ^ lot.length : Nat) : Int) ≤ 16 := by exact_mod_cast this
    simpa using h3
  have h3 : (2 : Int) ^ lot.length * B ≤ 16 * B := Int.mul_le_mul_of_nonneg_right h2 hB
  unfold cubV
  omega
end
end K04

end

section
set_option maxRecDepth 100000
namespace K04
open PySem PySem.Spec PyProof.Rows L2 PV
abbrev Ps := List (List Int × List Int)
abbrev LA (ps : Ps) : List D := ps.map fun p : List Int × List Int => tupI p.1
abbrev LB (ps : Ps) : List D := ps.map fun p : List Int × List Int => tupI p.2
structure Good (sh : List Int) (m : Int) (p : List Int × List Int) : Prop where
  lot : Lot sh.length p.1
  lst : Lst sh m p.1 p.2
def totP (sh : List Int) (m : Int) (ps : Ps) : List Int := (wordsL sh).map fun w => red m ((ps.map (entS sh w)).sum)
section
variable {sh : List Int} {m : Int}
theorem zip_self2 : ∀ ps : Ps, (ps.map Prod.fst).zip (ps.map Prod.snd) = ps
  | [] => rfl
  | p :: ps => by rw [List.map_cons, List.map_cons, List.zip_cons_cons, zip_self2 ps]
theorem good_lsts {ps : Ps} (hg : ∀ p ∈ ps, Good sh m p) (hn : ps.length ≤ 1000) : Lsts sh m (ps.map Prod.fst) (ps.map Prod.snd) := ⟨by rw [List.length_map, List.length_map], by rw [List.length_map]; exact hn, fun l hl => by
  obtain ⟨p, hp, rfl⟩ := List.mem_map.mp hl
  exact (hg p hp).lot, fun p hp => by
  rw [zip_self2] at hp
  exact (hg p hp).lst⟩
theorem la_eq (ps : Ps) : (ps.map Prod.fst).map tupI = LA ps := by rw [List.map_map]; rfl
theorem lb_eq (ps : Ps) : (ps.map Prod.snd).map tupI = LB ps := by rw [List.map_map]; rfl
theorem totalP_ok {ps : Ps} (h : Shp sh) (hm : Md m) (hg : ∀ p ∈ ps, Good sh m p) (hn : ps.length ≤ 1000) (s : Dk) : Ev (F_total [.tup (iL sh), .int m, .tup (LA ps), .tup (LB ps)]) s (.tup (iL (totP sh m ps))) s := by
  have e := total_ok h hm (good_lsts hg hn) s
  rw [la_eq, lb_eq, show totL sh m (ps.map Prod.fst) (ps.map Prod.snd) = totP sh m ((ps.map Prod.fst).zip (ps.map Prod.snd)) from rfl, zip_self2] at e
  exact e
theorem ltotalP_ok {ps : Ps} (h : Shp sh) (hm : Md m) (hg : ∀ p ∈ ps, Good sh m p) (hn : ps.length ≤ 1000) (s : Dk) : Ev (F__law_total [.tup (iL sh), .int m, .tup (LA ps), .tup (LB ps)]) s (.tup (iL (totP sh m ps))) s := by
  have e := ltotal_ok h hm (good_lsts hg hn) (d2 := .tup (LA ps)) (d3 := .tup (LB ps)) (by rw [la_eq]; rfl) (by rw [lb_eq]; rfl) s
  rw [show totL sh m (ps.map Prod.fst) (ps.map Prod.snd) = totP sh m ((ps.map Prod.fst).zip (ps.map Prod.snd)) from rfl, zip_self2] at e
  exact e
theorem totP_cg (h0 : 0 ≤ m) {ps qs : Ps} (h : ∀ w ∈ wordsL sh, Cg m ((ps.map (entS sh w)).sum) ((qs.map (entS sh w)).sum)) : totP sh m ps = totP sh m qs := List.map_congr_left fun w hw => red_eq h0 (h w hw)
theorem totP_perm {ps qs : Ps} (h : ps.Perm qs) : totP sh m ps = totP sh m qs := List.map_congr_left fun w _ => by rw [sum_perm h]
theorem totP_lst (h : Shp sh) (hm : m = 0 ∨ 2 ≤ m) (ps : Ps) : Lst sh m (upto sh.length) (totP sh m ps) := by
  have := tot_lst h hm (ps.map Prod.fst) (ps.map Prod.snd)
  rw [show totL sh m (ps.map Prod.fst) (ps.map Prod.snd) = totP sh m ((ps.map Prod.fst).zip (ps.map Prod.snd)) from rfl, zip_self2] at this
  exact this
theorem totP_good (h : Shp sh) (hm : m = 0 ∨ 2 ≤ m) (ps : Ps) : Good sh m (upto sh.length, totP sh m ps) := ⟨whole_lot h, totP_lst h hm ps⟩
/-- a table as a list over the whole lot -/
theorem ent_tab {g : List Int → Int} {w : List Int} (hw : w ∈ wordsL sh) : entS sh w (upto sh.length, (wordsL sh).map g) = g w := by
  unfold entS
  have e := word_at hw (whole_rng sh)
  rw [whole_map, show (upto sh.length).map (nth w) = w by rw [← (words_mem hw).1]; exact upto_nth w] at e
  exact nth_map_get e
theorem nth_cg {f : Int → Int} {k : Int} (hf : ∀ x, Cg m (f x) (k * x)) (es : List Int) (a : Int) : Cg m (nth (es.map f) a) (k * nth es a) := by
  unfold nth
  rw [List.getD_eq_getElem?_getD, List.getD_eq_getElem?_getD, List.getElem?_map]
  cases es[a.toNat]? with
  | none => exact ⟨0, by simp⟩
  | some x => exact hf x
/-! ### lists put together -/
def look : Ps → List Int → Option (List Int)
  | [], _ => none
  | (k, xs) :: r, l => if k = l then some xs else look r l
def setP : Ps → List Int → List Int → Ps
  | [], l, v => [(l, v)]
  | (k, xs) :: r, l, v => if k = l then (k, v) :: r else (k, xs) :: setP r l v
def addE (m : Int) (xs ys : List Int) : List Int := (xs.zip ys).map fun p => red m (p.1 + p.2)
def zer (es : List Int) : List Int := List.replicate es.length 0
def stepP (m : Int) (acc : Ps) (p : List Int × List Int) : Ps := setP acc p.1 (addE m ((look acc p.1).getD (zer p.2)) p.2)
def kvT (acc : Ps) : List (List Key × D) := acc.map fun q : List Int × List Int => (kL q.1, tupI q.2)
theorem val_look (l : List Int) : ∀ acc : Ps, valD (kvT acc) (kL l) = (look acc l).map tupI
  | [] => rfl
  | (k, xs) :: r => by
    have ih := val_look l r
    unfold valD kvT at *
    rw [List.map_cons, List.find?_cons]
    show Option.map _ (match decide (kL k = kL l) with | true => some (kL k, tupI xs) | false => _) = Option.map tupI (if k = l then some xs else look r l)
    by_cases hk : k = l
    · rw [decide_eq_true (congrArg kL hk), if_pos hk]; rfl
    · rw [decide_eq_false (fun e => hk (kL_inj e)), if_neg hk]; exact ih
theorem any_kv (l : List Int) : ∀ acc : Ps, ((kvT acc).any fun kv => decide (kv.1 = kL l)) = decide (l ∈ acc.map Prod.fst)
  | [] => rfl
  | (k, xs) :: r => by
    have ih := any_kv l r
    unfold kvT at *
    rw [List.map_cons, List.any_cons, ih, List.map_cons]
    show (decide (kL k = kL l) || _) = decide (l ∈ k :: r.map Prod.fst)
    by_cases hk : k = l
    · subst hk
      rw [decide_eq_true (rfl : kL k = kL k), Bool.true_or]
      exact (decide_eq_true List.mem_cons_self).symm
    · rw [decide_eq_false (fun e => hk (kL_inj e)), Bool.false_or]
      exact decide_eq_decide.mpr ⟨fun h => List.mem_cons_of_mem _ h, fun h => (List.mem_cons.mp h).resolve_left fun e => hk e.symm⟩
theorem set_in {l v : List Int} : ∀ {acc : Ps}, (acc.map Prod.fst).Nodup → l ∈ acc.map Prod.fst → (kvT acc).map (fun kv => if kv.1 = kL l then (kv.1, tupI v) else kv) = kvT (setP acc l v)
  | [], _, h => by cases h
  | (k, xs) :: r, nd, h => by
    rw [List.map_cons] at nd h
    obtain ⟨n1, n2⟩ := List.nodup_cons.mp nd
    unfold setP
    by_cases hk : k = l
    · subst hk
      rw [if_pos rfl]
      have same : (kvT r).map (fun kv => if kv.1 = kL k then (kv.1, tupI v) else kv) = kvT r := by
        conv => rhs; rw [← List.map_id (kvT r)]
        refine List.map_congr_left fun q hq => ?_
        obtain ⟨z, hz, rfl⟩ := List.mem_map.mp hq
        show (if kL z.1 = kL k then _ else _) = _
        rw [if_neg fun e => n1 (by rw [← show z.1 = k from kL_inj e]; exact List.mem_map.mpr ⟨z, hz, rfl⟩)]
        rfl
      show (if kL k = kL k then (kL k, tupI v) else _) :: (kvT r).map _ = _
      rw [if_pos rfl, same]
      rfl
    · rw [if_neg hk]
      have hl := (List.mem_cons.mp h).resolve_left fun e => hk e.symm
      show (if kL k = kL l then (kL k, tupI v) else (kL k, tupI xs)) :: (kvT r).map _ = _
      rw [if_neg fun e => hk (kL_inj e), set_in n2 hl]
      rfl
theorem set_out {l v : List Int} : ∀ {acc : Ps}, l ∉ acc.map Prod.fst → setP acc l v = acc ++ [(l, v)]
  | [], _ => rfl
  | (k, xs) :: r, h => by
    rw [List.map_cons, List.mem_cons, not_or] at h
    unfold setP
    rw [if_neg fun e => h.1 e.symm, set_out h.2]
    rfl
theorem put_set {acc : Ps} {l v : List Int} (nd : (acc.map Prod.fst).Nodup) : putD (kvT acc) (kL l) (tupI v) = kvT (setP acc l v) := by
  unfold putD
  rw [any_kv]
  by_cases h : l ∈ acc.map Prod.fst
  · rw [if_pos (decide_eq_true h), set_in nd h]
  · rw [if_neg (by rw [decide_eq_false h]; exact Bool.false_ne_true), set_out h]
    unfold kvT
    rw [List.map_append]
    rfl
theorem set_keys {l v : List Int} : ∀ {acc : Ps}, l ∈ acc.map Prod.fst → (setP acc l v).map Prod.fst = acc.map Prod.fst
  | [], h => by cases h
  | (k, xs) :: r, h => by
    unfold setP
    by_cases hk : k = l
    · rw [if_pos hk]; rfl
    · rw [if_neg hk, List.map_cons, List.map_cons, set_keys ((List.mem_cons.mp h).resolve_left fun e => hk e.symm)]
theorem set_nodup {acc : Ps} {l v : List Int} (nd : (acc.map Prod.fst).Nodup) : ((setP acc l v).map Prod.fst).Nodup := by
  by_cases h : l ∈ acc.map Prod.fst
  · rw [set_keys h]; exact nd
  · rw [set_out h, List.map_append]
    refine List.nodup_append.mpr ⟨nd, by simp, fun a ha b hb e => ?_⟩
    simp at hb
    subst hb e
    exact h ha
theorem set_len {l v : List Int} : ∀ {acc : Ps}, (setP acc l v).length ≤ acc.length + 1
  | [] => Nat.le_refl _
  | (k, xs) :: r => by
    unfold setP
    by_cases hk : k = l
    · rw [if_pos hk]; exact Nat.le_succ _
    · rw [if_neg hk]; exact Nat.succ_le_succ set_len
theorem set_mem {l v : List Int} {q : List Int × List Int} : ∀ {acc : Ps}, q ∈ setP acc l v → q = (l, v) ∨ q ∈ acc
  | [], h => .inl (List.mem_singleton.mp h)
  | (k, xs) :: r, h => by
    unfold setP at h
    by_cases hk : k = l
    · rw [if_pos hk] at h
      rcases List.mem_cons.mp h with e | h
      · exact .inl (by rw [e, hk])
      · exact .inr (List.mem_cons_of_mem _ h)
    · rw [if_neg hk] at h
      rcases List.mem_cons.mp h with e | h
      · exact .inr (by rw [e]; exact List.mem_cons_self)
      · exact (set_mem h).imp id (List.mem_cons_of_mem _)
theorem look_mem {l xs : List Int} : ∀ {acc : Ps}, look acc l = some xs → (l, xs) ∈ acc
  | [], h => by cases h
  | (k, ys) :: r, h => by
    unfold look at h
    by_cases hk : k = l
    · rw [if_pos hk] at h
      cases h
      rw [hk]
      exact List.mem_cons_self
    · rw [if_neg hk] at h
      exact List.mem_cons_of_mem _ (look_mem h)
theorem look_self : ∀ {acc : Ps} {q : List Int × List Int}, (acc.map Prod.fst).Nodup → q ∈ acc → look acc q.1 = some q.2
  | [], q, _, h => by cases h
  | (k, ys) :: r, q, nd, h => by
    rw [List.map_cons] at nd
    obtain ⟨n1, n2⟩ := List.nodup_cons.mp nd
    unfold look
    rcases List.mem_cons.mp h with rfl | h
    · exact if_pos rfl
    · rw [if_neg fun e => n1 (by rw [e]; exact List.mem_map.mpr ⟨q, h, rfl⟩)]
      exact look_self n2 h
theorem add_cg {xs ys : List Int} (hl : xs.length = ys.length) (a : Int) : Cg m (nth (addE m xs ys) a) (nth xs a + nth ys a) := by
  unfold nth addE
  rw [List.getD_eq_getElem?_getD, List.getD_eq_getElem?_getD, List.getD_eq_getElem?_getD, List.getElem?_map]
  by_cases h : a.toNat < xs.length
  · have h2 : a.toNat < ys.length := by omega
    rw [List.getElem?_eq_getElem h, List.getElem?_eq_getElem h2, List.getElem?_eq_getElem (by rw [List.length_zip]; omega), List.getElem_zip]
    exact red_cg m _
  · rw [List.getElem?_eq_none (by omega : xs.length ≤ a.toNat), List.getElem?_eq_none (by omega : ys.length ≤ a.toNat), List.getElem?_eq_none (by rw [List.length_zip]; omega)]
    exact .refl
theorem nth_zer (es : List Int) (a : Int) : nth (zer es) a = 0 := by
  unfold nth zer
  rw [List.getD_eq_getElem?_getD, List.getElem?_replicate]
  by_cases h : a.toNat < es.length
  · rw [if_pos h]; rfl
  · rw [if_neg h]; rfl
theorem step_sum {l es : List Int} (w : List Int) : ∀ {acc : Ps}, (∀ q ∈ acc, q.1 = l → q.2.length = es.length) → Cg m (((setP acc l (addE m ((look acc l).getD (zer es)) es)).map (entS sh w)).sum) ((acc.map (entS sh w)).sum + entS sh w (l, es))
  | [], _ => by
    show Cg m ([entS sh w (l, addE m (zer es) es)].sum) (0 + entS sh w (l, es))
    have := add_cg (m := m) (xs := zer es) (ys := es) (by unfold zer; rw [List.length_replicate]) (atW sh l w 0)
    rw [nth_zer] at this
    simpa [entS] using this
  | (k, xs) :: r, h => by
    unfold setP look
    by_cases hk : k = l
    · subst hk
      rw [if_pos rfl, if_pos rfl, List.map_cons, List.sum_cons, List.map_cons, List.sum_cons]
      have := add_cg (m := m) (xs := xs) (ys := es) (h (k, xs) List.mem_cons_self rfl) (atW sh k w 0)
      have e : entS sh w (k, xs) + (r.map (entS sh w)).sum + entS sh w (k, es) = (nth xs (atW sh k w 0) + nth es (atW sh k w 0)) + (r.map (entS sh w)).sum := by
        show nth xs (atW sh k w 0) + _ + nth es (atW sh k w 0) = _
        omega
      rw [e]
      exact this.add .refl
    · rw [if_neg hk, if_neg hk, List.map_cons, List.sum_cons, List.map_cons, List.sum_cons, Int.add_assoc]
      exact Cg.refl.add (step_sum w fun q hq => h q (List.mem_cons_of_mem _ hq))
theorem add_len {xs ys : List Int} (hl : xs.length = ys.length) : (addE m xs ys).length = ys.length := by
  unfold addE
  rw [List.length_map, List.length_zip]
  omega
theorem add_lst (hm : m = 0 ∨ 2 ≤ m) {l xs es : List Int} (hl : xs.length = es.length) (he : Lst sh m l es) : Lst sh m l (addE m xs es) := by
  have e := add_len (m := m) hl
  refine ⟨by rw [e]; exact he.len, fun x hx => ?_, by rw [e]; exact he.few⟩
  obtain ⟨p, _, rfl⟩ := List.mem_map.mp hx
  exact nm_red hm _
theorem lst_same {l xs es : List Int} (h1 : Lst sh m l xs) (h2 : Lst sh m l es) : xs.length = es.length := by
  have a := h1.len
  have b := h2.len
  omega
theorem look_len {acc : Ps} {p : List Int × List Int} (ha : ∀ q ∈ acc, Good sh m q) (hp : Good sh m p) : ((look acc p.1).getD (zer p.2)).length = p.2.length := by
  cases z : look acc p.1 with
  | none => show (zer p.2).length = _; unfold zer; rw [List.length_replicate]
  | some xs => exact lst_same (ha _ (look_mem z)).lst hp.lst
theorem step_good (hm : m = 0 ∨ 2 ≤ m) {acc : Ps} {p : List Int × List Int} (ha : ∀ q ∈ acc, Good sh m q) (hp : Good sh m p) : ∀ q ∈ stepP m acc p, Good sh m q := fun q hq => by
  rcases set_mem hq with rfl | hq
  · exact ⟨hp.lot, add_lst hm (look_len ha hp) hp.lst⟩
  · exact ha q hq
theorem keyI_kL : ∀ w : List Int, keyInt? (kL w) = some w
  | [] => rfl
  | x :: w => by
    show (keyInt? (kL w)).map (x :: ·) = _
    rw [keyI_kL w]
    rfl
theorem keysI_kv : ∀ acc : Ps, keysInt? ((kvT acc).map (·.1)) = some (acc.map Prod.fst)
  | [] => rfl
  | (k, xs) :: r => by
    have ih := keysI_kv r
    unfold kvT at *
    rw [List.map_cons, List.map_cons, List.map_cons]
    show (match keyInt? (kL k), keysInt? _ with | some i, some is => some (i :: is) | _, _ => none) = _
    rw [keyI_kL, ih]
/-- the lists by their lots in order -/
def inOrder (acc : Ps) : Ps := (sortL (acc.map Prod.fst)).map fun l => (l, (look acc l).getD [])
theorem in_perm {acc : Ps} (nd : (acc.map Prod.fst).Nodup) : (inOrder acc).Perm acc := by
  have h := (sortL_perm (acc.map Prod.fst)).map fun l => (l, (look acc l).getD [])
  refine h.trans (.of_eq ?_)
  rw [List.map_map]
  conv => rhs; rw [← List.map_id acc]
  refine List.map_congr_left fun q hq => ?_
  show (q.1, (look acc q.1).getD []) = q
  rw [look_self nd hq]
  rfl
theorem ev_ownGet {o : OD} {x d r : D} {i : Nat} {mk md : En → M D} {env : En} {s s1 s2 : Dk} (ho : ownDD env i = some o) (hk : Ev (mk env) s x s1) (hd : Ev (md env) s1 d s2) (hg : dgetD o x d = some r) : Ev (eOwnGet i mk md env) s r s2 := ev_bind (ev_opt ho) (ev_bind hk (ev_bind hd (ev_opt hg)))
theorem ev_dput {o u : OD} {x d : D} {i : Nat} {mi mv : En → M D} {env : En} {s s1 s2 : Dk} (ho : ownD env i = some o) (hv : Ev (mv env) s d s1) (hi : Ev (mi env) s1 x s2) (hp : dput o x d = some u) : Ev (sDput i mi mv env) s (.nx (env.set i (.own u))) s2 := ev_bind (ev_opt ho) (ev_bind hv (ev_bind hi (ev_bind (ev_opt hp) ev_ret)))
theorem put_loop2 {d1 d2 : D} (h : Shp sh) (hm : m = 0 ∨ 2 ≤ m) : ∀ (ps acc : Ps) (z4 z5 : Slot) (s : Dk), (∀ p ∈ ps, Good sh m p) → (∀ q ∈ acc, Good sh m q) → (acc.map Prod.fst).Nodup → acc.length + ps.length ≤ 1000 → ∃ (acc' : Ps) (z4' z5' : Slot),
    Ev (forM' (.tp [(.nm 4), (.nm 5)]) (sDput 3 (eVar 4) (eMapA (g1 tupleD) (eAcons (eFrz (eLc (eMapI gZip (eAcons (eOwnGet 3 (eVar 4) (eOp mulT (eMapA gTupD (eAcons (eC (.int 0)) eAnil)) (eMapA (g1 lenD) (eAcons (eVar 5) eAnil)))) (eAcons (eVar 5) eAnil))) (.tp [(.nm 7), (.nm 8)]) [7, 8] tYes' (eCall (cN 2 F__law_by) (eAcons (eVar 0) (eAcons (eOp addD (eVar 7) (eVar 8)) eAnil))))) eAnil)))
      (ps.map fun p => D.tup [tupI p.1, tupI p.2]) [.val (.int m), .val d1, .val d2, .own (.dT (kvT acc)), z4, z5, .no, .no, .no]) s
      (.nx [.val (.int m), .val d1, .val d2, .own (.dT (kvT acc')), z4', z5', .no, .no, .no]) s ∧
    (∀ q ∈ acc', Good sh m q) ∧ (acc'.map Prod.fst).Nodup ∧ acc'.length ≤ acc.length + ps.length ∧ ∀ w, Cg m ((acc'.map (entS sh w)).sum) ((acc.map (entS sh w)).sum + (ps.map (entS sh w)).sum)
  | [], acc, z4, z5, s, _, ha, nd, hn => ⟨acc, z4, z5, ev_for0, ha, nd, Nat.le_refl _, fun w => by
    rw [List.map_nil, List.sum_nil, Int.add_zero]
    exact .refl⟩
  | p :: ps, acc, z4, z5, s, hp, ha, nd, hn => by
    have hn' : acc.length + (ps.length + 1) ≤ 1000 := hn
    have s7 : size7 = 10000000 := rfl
    have gp := hp p List.mem_cons_self
    have hl := set_len (acc := acc) (l := p.1) (v := addE m ((look acc p.1).getD (zer p.2)) p.2)
    have hs : (stepP m acc p).length ≤ acc.length + 1 := hl
    obtain ⟨acc', z4', z5', e, y1, y2, y3, y4⟩ := put_loop2 (d1 := d1) (d2 := d2) h hm ps (stepP m acc p) (.val (tupI p.1)) (.val (tupI p.2)) s (fun q hq => hp q (List.mem_cons_of_mem _ hq)) (step_good hm ha gp) (set_nodup nd) (by omega)
    have few := gp.lst.few
    have pos : 1 ≤ p.2.length := by
      have a := lst_len h gp.lot gp.lst
      have b := words_ne (ns := p.1.map (nth sh)) fun n hn => (lot_bd h gp.lot n hn).1
      have := List.length_pos_iff.mpr b
      omega
    have get : Ev (eOwnGet 3 (eVar 4) (eOp mulT (eMapA gTupD (eAcons (eC (.int 0)) eAnil)) (eMapA (g1 lenD) (eAcons (eVar 5) eAnil))) [.val (.int m), .val d1, .val d2, .own (.dT (kvT acc)), .val (tupI p.1), .val (tupI p.2), .no, .no, .no]) s (tupI ((look acc p.1).getD (zer p.2))) s := by
      refine ev_ownGet (o := .dT (kvT acc)) (d := tupI (zer p.2)) rfl (ev_var rfl) (ev_iop (ev_mapA (ev_acons ev_c ev_anil) rfl) (ev_mapA (ev_acons (ev_var rfl) ev_anil) rfl) ?_) ?_
      · rw [List.length_map]
        exact rep_tup pos (by omega)
      · show (keysD (p.1.map D.int)).map (fun k => (valD (kvT acc) k).getD (tupI (zer p.2))) = _
        rw [keys_iL, Option.map_some, val_look]
        cases look acc p.1 <;> rfl
    have lc : Ev (eLc (eMapI gZip (eAcons (eOwnGet 3 (eVar 4) (eOp mulT (eMapA gTupD (eAcons (eC (.int 0)) eAnil)) (eMapA (g1 lenD) (eAcons (eVar 5) eAnil)))) (eAcons (eVar 5) eAnil))) (.tp [(.nm 7), (.nm 8)]) [7, 8] tYes' (eCall (cN 2 F__law_by) (eAcons (eVar 0) (eAcons (eOp addD (eVar 7) (eVar 8)) eAnil))) [.val (.int m), .val d1, .val d2, .own (.dT (kvT acc)), .val (tupI p.1), .val (tupI p.2), .no, .no, .no]) s (.lst (iL (addE m ((look acc p.1).getD (zer p.2)) p.2))) s := by
      refine ev_eqR (?_ : Ev _ _ (.lst ((((look acc p.1).getD (zer p.2)).zip p.2).map fun q => .int (red m (q.1 + q.2)))) _) (congrArg OD.lst (map_iL _ _))
      refine ev_lc (ds := (((look acc p.1).getD (zer p.2)).zip p.2).map fun q => D.tup [.int q.1, .int q.2]) (ev_mapI (ev_acons get (ev_acons (ev_var rfl) ev_anil)) ?_) (by rw [List.length_map, List.length_zip]; omega) (lc_pure (g := fun q : Int × Int => .int (red m (q.1 + q.2))) _ fun q hq => ⟨_, bindP_2, ev_call (ev_acons (ev_var rfl) (ev_acons (ev_iop (ev_var rfl) (ev_var rfl) rfl) ev_anil)) rfl (lby_ok m _ s)⟩)
      show some (zipD (iL _) (iL _)) = _
      rw [zip_ints]
    refine ⟨acc', z4', z5', ev_for1 bindP_2 (ev_dput (o := .dT (kvT acc)) (u := .dT (kvT (stepP m acc p))) rfl (ev_mapA (ev_acons (ev_frz lc) ev_anil) rfl) (ev_var rfl) ?_) e, y1, y2, ?_, fun w => ?_⟩
    · show (keysD (p.1.map D.int)).bind (fun k => if (kvT acc).length < size7 then some (OD.dT (putD (kvT acc) k (tupI (addE m ((look acc p.1).getD (zer p.2)) p.2)))) else none) = _
      rw [keys_iL, Option.bind_some, put_set nd, if_pos (by unfold kvT; rw [List.length_map]; omega)]
      rfl
    · show acc'.length ≤ acc.length + (ps.length + 1)
      omega
    · refine (y4 w).trans ?_
      rw [List.map_cons, List.sum_cons, ← Int.add_assoc]
      exact (step_sum w fun q hq hql => lst_same (sh := sh) (m := m) (l := p.1) (by have z := (ha q hq).lst; rw [hql] at z; exact z) gp.lst).add .refl
theorem put_together_ok {ps : Ps} (h : Shp sh) (hm : m = 0 ∨ 2 ≤ m) (hp : ∀ p ∈ ps, Good sh m p) (hn : ps.length ≤ 1000) (s : Dk) : ∃ qs : Ps, Ev (F__law_put_together [.int m, .tup (LA ps), .tup (LB ps)]) s (.tup [.tup (LA qs), .tup (LB qs)]) s ∧ (∀ q ∈ qs, Good sh m q) ∧ qs.length ≤ 1000 ∧ totP sh m qs = totP sh m ps := by
  have s7 : size7 = 10000000 := rfl
  have h0 := md_nn hm
  obtain ⟨acc, z4, z5, e, y1, y2, y3, y4⟩ := put_loop2 (d1 := .tup (LA ps)) (d2 := .tup (LB ps)) h hm ps [] .no .no s hp (fun q hq => by cases hq) List.nodup_nil (by simpa using hn)
  have hP := in_perm y2
  have hlen : acc.length ≤ 1000 := by
    have : acc.length ≤ ([] : Ps).length + ps.length := y3
    simp at this
    omega
  have hsl : (sortL (acc.map Prod.fst)).length = acc.length := by rw [(sortL_perm _).length_eq, List.length_map]
  refine ⟨inOrder acc, ?_, fun q hq => y1 q (hP.mem_iff.mp hq), by rw [hP.length_eq]; exact hlen, (totP_perm hP).trans (totP_cg h0 fun w _ => ?_)⟩
  · have hz : zipD (LA ps) (LB ps) = ps.map fun p => D.tup [tupI p.1, tupI p.2] := by
      rw [← la_eq, ← lb_eq, zip_tups, zip_self2]
    have lc : Ev (eLc (eItems (eVar 6)) (.nm 4) [4] tYes' (eOp ixD (eVar 3) (eVar 4)) [.val (.int m), .val (.tup (LA ps)), .val (.tup (LB ps)), .val (.dT (kvT acc)), z4, z5, .val (.lst ((sortL (acc.map Prod.fst)).map tupI)), .no, .no]) s (.lst ((sortL (acc.map Prod.fst)).map fun l => tupI ((look acc l).getD []))) s := by
      refine ev_lc (ds := (sortL (acc.map Prod.fst)).map tupI) (ev_items (ev_var rfl) rfl) (by rw [List.length_map]; omega) (lc_pure (g := fun l => tupI ((look acc l).getD [])) _ fun l hl => ⟨_, bindP_nm, ev_iop (ev_var rfl) (ev_var rfl) ?_⟩)
      obtain ⟨q, hq, rfl⟩ := List.mem_map.mp ((sortL_perm _).mem_iff.mp hl)
      show (keysD (q.1.map D.int)).bind (valD (kvT acc)) = _
      rw [keys_iL, Option.bind_some, val_look, look_self y2 hq]
      rfl
    have r1 : (sortL (acc.map Prod.fst)).map tupI = LA (inOrder acc) := by
      unfold inOrder LA
      rw [List.map_map]
      rfl
    have r2 : ((sortL (acc.map Prod.fst)).map fun l => tupI ((look acc l).getD [])) = LB (inOrder acc) := by
      unfold inOrder LB
      rw [List.map_map]
      rfl
    refine ev_eqR (ev_run (ev_seq (ev_asgO (o := .dT []) rfl) (ev_seq (ev_for (ev_mapI (ds := [.tup (LA ps), .tup (LB ps)]) (ev_acons (ev_var rfl) (ev_acons (ev_var rfl) ev_anil)) (show some (zipD (LA ps) (LB ps)) = some (ps.map fun p => D.tup [tupI p.1, tupI p.2]) by rw [hz])) e) (ev_seq (ev_sfrz rfl (ev_asgN (ev_frz (ev_mapO (o := .lst ((sortL (acc.map Prod.fst)).map tupI)) (ev_acons (ev_var rfl) ev_anil) ?_)))) (ev_rt (ev_mapA (ev_acons (ev_mapA (ev_acons (ev_var rfl) ev_anil) rfl) (ev_acons (ev_mapA (ev_acons (ev_frz lc) ev_anil) rfl) ev_anil)) rfl)))))) ?_
    · show (keysInt? ((kvT acc).map (·.1))).map (fun ks => OD.lst ((sortL ks).map tupI)) = _
      rw [keysI_kv]
      rfl
    · show D.tup [.tup _, .tup _] = _
      rw [r1, r2]
  · refine (y4 w).trans ?_
    rw [List.map_nil, List.sum_nil, Int.zero_add]
    exact .refl
end
end K04

end

section
set_option maxRecDepth 100000
set_option maxHeartbeats 4000000
namespace K04
open PySem PySem.Spec PyProof.Rows L2 PV
section
variable {sh : List Int} {m : Int}
/-! ### slices -/
theorem cut_to {ds : List D} {r : Int} (h0 : 0 ≤ r) (h1 : r ≤ ds.length) : cutL ds none (some r) = ds.take r.toNat := by
  obtain ⟨k, rfl⟩ := Int.eq_ofNat_of_zero_le h0
  unfold cutL
  rw [HT.sIx_none, HT.sIx_nat, List.drop_zero, Nat.sub_zero, Nat.min_eq_left (by omega)]
  rfl
theorem cut_from {ds : List D} {r : Int} (h0 : 0 ≤ r) (h1 : r ≤ ds.length) : cutL ds (some r) none = ds.drop r.toNat := by
  obtain ⟨k, rfl⟩ := Int.eq_ofNat_of_zero_le h0
  unfold cutL
  rw [HT.sIx_none, HT.sIx_nat, Nat.min_eq_left (by omega), List.take_of_length_le (by rw [List.length_drop]; omega)]
  rfl
theorem ev_sliceTo {a b : En → M D} {env : En} {s s1 s2 : Dk} {d e : D} {r : Int} (h : Ev (a env) s d s1) (hb : Ev (b env) s1 (.int r) s2) (h2 : cutD d none (some r) = some e) : Ev (eSlice a eNoPart (ePart b) env) s e s2 := ev_bind h (ev_bind (show Ev (eNoPart env) s1 none s1 from rfl) (ev_bind (show Ev (ePart b env) s1 (some r) s2 from ev_bind hb rfl) (ev_opt h2)))
theorem ev_sliceFrom {a b : En → M D} {env : En} {s s1 s2 : Dk} {d e : D} {r : Int} (h : Ev (a env) s d s1) (hb : Ev (b env) s1 (.int r) s2) (h2 : cutD d (some r) none = some e) : Ev (eSlice a (ePart b) eNoPart env) s e s2 := ev_bind h (ev_bind (show Ev (ePart b env) s1 (some r) s2 from ev_bind hb rfl) (ev_bind (show Ev (eNoPart env) s2 none s2 from rfl) (ev_opt h2)))
theorem cutA_to {ps : Ps} {r : Int} (h0 : 0 ≤ r) (h1 : r ≤ ps.length) : cutD (.tup (LA ps)) none (some r) = some (.tup (LA (ps.take r.toNat))) := by
  show some (D.tup (cutL _ _ _)) = _
  rw [cut_to h0 (by rw [List.length_map]; exact h1)]
  show some (D.tup (List.take r.toNat (List.map _ ps))) = some (D.tup (List.map _ (List.take r.toNat ps)))
  rw [List.map_take]
theorem cutB_to {ps : Ps} {r : Int} (h0 : 0 ≤ r) (h1 : r ≤ ps.length) : cutD (.tup (LB ps)) none (some r) = some (.tup (LB (ps.take r.toNat))) := by
  show some (D.tup (cutL _ _ _)) = _
  rw [cut_to h0 (by rw [List.length_map]; exact h1)]
  show some (D.tup (List.take r.toNat (List.map _ ps))) = some (D.tup (List.map _ (List.take r.toNat ps)))
  rw [List.map_take]
theorem cutA_from {ps : Ps} {r : Int} (h0 : 0 ≤ r) (h1 : r ≤ ps.length) : cutD (.tup (LA ps)) (some r) none = some (.tup (LA (ps.drop r.toNat))) := by
  show some (D.tup (cutL _ _ _)) = _
  rw [cut_from h0 (by rw [List.length_map]; exact h1)]
  show some (D.tup (List.drop r.toNat (List.map _ ps))) = some (D.tup (List.map _ (List.drop r.toNat ps)))
  rw [List.map_drop]
theorem cutB_from {ps : Ps} {r : Int} (h0 : 0 ≤ r) (h1 : r ≤ ps.length) : cutD (.tup (LB ps)) (some r) none = some (.tup (LB (ps.drop r.toNat))) := by
  show some (D.tup (cutL _ _ _)) = _
  rw [cut_from h0 (by rw [List.length_map]; exact h1)]
  show some (D.tup (List.drop r.toNat (List.map _ ps))) = some (D.tup (List.map _ (List.drop r.toNat ps)))
  rw [List.map_drop]
/-! ### bounds, multiples -/
theorem totP_bd (hm : m = 0 ∨ 2 ≤ m) (h1 : m ≤ 1000000000000) {ps : Ps} (hb : ∀ p ∈ ps, ∀ x ∈ p.2, (x.natAbs : Int) ≤ 10 ^ 28) (hn : ps.length ≤ 9) : ∀ x ∈ totP sh m ps, (x.natAbs : Int) ≤ 10 ^ 30 := fun x hx => by
  obtain ⟨w, _, rfl⟩ := List.mem_map.mp hx
  refine red_bound hm (by omega) ?_
  have hsb := sum_bound (f := entS sh w) (xs := ps) (B := 10 ^ 28) fun p hp => by
    unfold entS
    rcases nth_or (xs := p.2) (atW sh p.1 w 0) with h | h
    · exact hb p hp _ h
    · rw [h]; decide
  have : (ps.length : Int) * 10 ^ 28 ≤ 9 * 10 ^ 28 := Int.mul_le_mul_of_nonneg_right (by omega) (by decide)
  omega
theorem totP_len (h : Shp sh) (ps : Ps) : (totP sh m ps).length ≤ 256 := by unfold totP; rw [List.length_map]; exact wshow h
theorem shw_tot (h : Shp sh) {ns : List Int} {B : Int} (hl : ns.length ≤ 256) (hB : B ≤ 10 ^ 32) (hb : ∀ x ∈ ns, (x.natAbs : Int) ≤ B) : Shw (tupI ns) 1 12000 := shw_nums (B := 10 ^ 32) (by decide) hl fun x hx => by
  have := hb x hx
  omega
theorem shw_pair {a b : D} {h n : Nat} (s : Shw a h n) (t : Shw b h n) : Shw (.tup [a, b]) (h + 1) (2 * (n + 2) + 3) := shw_tup (n := n) fun x hx => by
  simp only [List.mem_cons, List.not_mem_nil, or_false] at hx
  rcases hx with rfl | rfl
  · exact s
  · exact t
theorem ltimes_ok {k : Int} (hk : small64b k = true) {es : List Int} (he : es.length ≤ 256) (s : Dk) : Ev (F__law_times [.int m, .int k, .tup (iL es)]) s (.tup (iL (es.map fun x => red m (k * x)))) s := by
  have s7 : size7 = 10000000 := rfl
  have lc : Ev (eLc (eItems (eVar 2)) (.nm 3) [3] tYes' (eCall (cN 2 F__law_by) (eAcons (eVar 0) (eAcons (eOp mulD (eVar 1) (eVar 3)) eAnil))) [.val (.int m), .val (.int k), .val (.tup (iL es)), .no]) s (.lst (iL (es.map fun x => red m (k * x)))) s := by
    refine ev_eqR (?_ : Ev _ _ (.lst (es.map fun x => .int (red m (k * x)))) _) (congrArg OD.lst (map_iL _ _))
    exact ev_lc (ds := es.map D.int) (ev_items (ev_var rfl) rfl) (by rw [List.length_map]; omega) (lc_pure (g := fun x => .int (red m (k * x))) _ fun x hx => ⟨_, bindP_nm, ev_call (ev_acons (ev_var rfl) (ev_acons (ev_iop (ev_var rfl) (ev_var rfl) (mulD_l hk)) ev_anil)) rfl (lby_ok m _ s)⟩)
  exact ev_run (ev_rt (ev_mapA (ev_acons (ev_frz lc) ev_anil) rfl))
theorem times_lst (hm : m = 0 ∨ 2 ≤ m) {m0 k : Int} {l es : List Int} (he : Lst sh m0 l es) : Lst sh m l (es.map fun x => red m (k * x)) :=
  ⟨by rw [List.length_map]; exact he.len, fun x hx => by
    obtain ⟨y, _, rfl⟩ := List.mem_map.mp hx
    exact nm_red hm _, by rw [List.length_map]; exact he.few⟩
theorem times_cg {k : Int} (w l es : List Int) : Cg m (entS sh w (l, es.map fun x => red m (k * x))) (k * entS sh w (l, es)) := nth_cg (fun x => red_cg m _) es _
theorem range_ev {i : Nat} {env : En} {s : Dk} (h : Shp sh) (hi : env[i]? = some (.val (.tup (iL sh)))) : Ev (eMapA (gTupR gRange1) (eAcons (eMapA (g1 lenD) (eAcons (eVar i) eAnil)) eAnil) env) s (.tup (iL (upto sh.length))) s := by
  have b4 := h.l4
  have s7 : size7 = 10000000 := rfl
  refine ev_mapA (ev_acons (ev_mapA (ev_acons (ev_var hi) ev_anil) rfl) ev_anil) ?_
  show ((if small62 ((iL sh).length : Nat) = true then some (rangeD 0 ((iL sh).length : Nat)) else none).bind fun es => if es.length ≤ size7 then some (D.tup es) else none) = _
  rw [List.length_map, if_pos (small62_of (by omega) (by omega)), Option.bind_some, rangeD_upto, if_pos (by rw [List.length_map, upto_len]; omega)]
theorem lots_ev (h : Shp sh) (s : Dk) : Ev (F__law_lots [.int ((iL sh).length : Nat)]) s (.lst ((allLots sh).map tupI)) s := by
  have b4 := h.l4
  rw [List.length_map]
  exact lots_ok (by omega) (by omega) s
theorem lots_ne : allLots sh ≠ [] := by
  intro z
  have := (sortL_perm (lotsL (upto sh.length))).length_eq
  rw [show sortL (lotsL (upto sh.length)) = [] from z, lots_len] at this
  have := Nat.pow_pos (n := (upto sh.length).length) (show 0 < 2 by decide)
  simp at *
  omega
theorem pick_lot (h : Shp sh) (s : Dk) (f : Fit s) : ∃ l s', Lot sh.length l ∧ Ev (F__law_pick [.deck, .lst ((allLots sh).map tupI)]) s (tupI l) s' ∧ Fit s' := by
  have h16 := all_16 h
  obtain ⟨d', s', hd', e', f'⟩ := pick_ok ((allLots sh).map tupI) (by simpa using lots_ne (sh := sh)) (by rw [List.length_map]; omega) s f
  obtain ⟨l, hl, rfl⟩ := List.mem_map.mp hd'
  exact ⟨l, s', all_lot h hl, e', f'⟩
theorem two_tabs (h0 : 0 ≤ m) (ps qs : Ps) : totP sh m [(upto sh.length, totP sh m ps), (upto sh.length, totP sh m qs)] = totP sh m (ps ++ qs) := totP_cg h0 fun w hw => by
  rw [List.map_cons, List.sum_cons, List.map_cons, List.sum_cons, List.map_nil, List.sum_nil, Int.add_zero, List.map_append, List.sum_append]
  have a : entS sh w (upto sh.length, totP sh m ps) = red m ((ps.map (entS sh w)).sum) := ent_tab hw
  have b : entS sh w (upto sh.length, totP sh m qs) = red m ((qs.map (entS sh w)).sum) := ent_tab hw
  rw [a, b]
  exact (red_cg m _).add (red_cg m _)
theorem away (h0 : 0 ≤ m) (l es : List Int) (ps : Ps) : totP sh m ((l, es) :: ps ++ [(l, es.map fun x => red m (-1 * x))]) = totP sh m ps := totP_cg h0 fun w hw => by
  rw [List.map_append, List.sum_append, List.map_cons, List.sum_cons, List.map_cons, List.sum_cons, List.map_nil, List.sum_nil, Int.add_zero]
  have a := (Cg.refl (m := m) (a := entS sh w (l, es) + (ps.map (entS sh w)).sum)).add (times_cg (sh := sh) (m := m) (k := -1) w l es)
  rw [show entS sh w (l, es) + (ps.map (entS sh w)).sum + -1 * entS sh w (l, es) = (ps.map (entS sh w)).sum by omega] at a
  exact a
theorem turned_ok (h : Shp sh) (hm : m = 0 ∨ 2 ≤ m) (h1 : m ≤ 1000000000000) {ps : Ps} (hg : ∀ p ∈ ps, Good sh m p) (hb : ∀ p ∈ ps, ∀ x ∈ p.2, (x.natAbs : Int) ≤ 10 ^ 28) (hn : ps.length ≤ 6) (s : Dk) (f : Fit s) :
    ∃ s', Ev (F__law_is_turned_right [.deck, .tup (iL sh), .int m, .tup (LA ps), .tup (LB ps), .tup (iL (totP sh m ps))]) s (.bl true) s' ∧ Fit s' := by
  have s7 : size7 = 10000000 := rfl
  have h0 := md_nn hm
  have sd : Shw (tupI (totP sh m ps)) 1 12000 := shw_tot h (totP_len h ps) (by decide : (10 ^ 30 : Int) ≤ 10 ^ 32) (totP_bd hm h1 hb (by omega))
  have sub : ∀ {qs : Ps}, (∀ q ∈ qs, q ∈ ps) → qs.length ≤ 6 → Shw (tupI (totP sh m qs)) 1 12000 := fun hq hl => shw_tot h (totP_len h _) (by decide : (10 ^ 30 : Int) ≤ 10 ^ 32) (totP_bd hm h1 (fun p hp => hb p (hq p hp)) (by omega))
  have e1 : Ev (F_total [.tup (iL sh), .int m, .tup (LA ps).reverse, .tup (LB ps).reverse]) s (.tup (iL (totP sh m ps))) s := by
    have e := totalP_ok (ps := ps.reverse) h ⟨hm⟩ (fun p hp => hg p (List.mem_reverse.mp hp)) (by rw [List.length_reverse]; omega) s
    rw [totP_perm (List.reverse_perm ps)] at e
    unfold LA LB at e ⊢
    rw [List.map_reverse, List.map_reverse] at e
    exact e
  obtain ⟨r, s1, e2, r0, r1, f1⟩ := draw_ok (((LA ps).length : Nat) + 1 : Int) (by omega) (by rw [List.length_map]; omega) s f
  rw [List.length_map] at r1
  have r2 : r ≤ ps.length := by omega
  have gt : ∀ p ∈ ps.take r.toNat, p ∈ ps := fun p hp => List.mem_of_mem_take hp
  have gd : ∀ p ∈ ps.drop r.toNat, p ∈ ps := fun p hp => List.mem_of_mem_drop hp
  have lt : (ps.take r.toNat).length ≤ 6 := by rw [List.length_take]; omega
  have ld : (ps.drop r.toNat).length ≤ 6 := by rw [List.length_drop]; omega
  have e3 := totalP_ok (ps := ps.take r.toNat) h ⟨hm⟩ (fun p hp => hg p (gt p hp)) (by omega) s1
  have e4 := totalP_ok (ps := ps.drop r.toNat) h ⟨hm⟩ (fun p hp => hg p (gd p hp)) (by omega) s1
  have e5 := ltotalP_ok (ps := ps.take r.toNat) h ⟨hm⟩ (fun p hp => hg p (gt p hp)) (by omega) s1
  have e6 := ltotalP_ok (ps := ps.drop r.toNat) h ⟨hm⟩ (fun p hp => hg p (gd p hp)) (by omega) s1
  have e7 := is_list_ok h ⟨hm⟩ (whole_lot h) (totP_lst h hm (ps.take r.toNat)) s1
  have e8 := totalP_ok (ps := [(upto sh.length, totP sh m (ps.take r.toNat)), (upto sh.length, totP sh m (ps.drop r.toNat))]) h ⟨hm⟩ (fun p hp => by
    simp only [List.mem_cons, List.not_mem_nil, or_false] at hp
    rcases hp with rfl | rfl <;> exact totP_good h hm _) (by simp) s1
  rw [two_tabs h0, List.take_append_drop] at e8
  obtain ⟨qs, e9, gq, lq, tq⟩ := put_together_ok h hm hg (by omega) s1
  have e10 := totalP_ok h ⟨hm⟩ gq lq s1
  rw [tq] at e10
  obtain ⟨lot, s2, hl, e11, f2⟩ := pick_lot h s1 f1
  obtain ⟨es, s3, he, heb, e12, f3⟩ := entries_drawB (B := 1000000000000) (size := 1000000000) h hl hm h1 (by decide) (by decide) (by decide) s2 f2
  have e13 := ltimes_ok (m := m) (k := -1) (by decide) he.few s3
  have e14 := totalP_ok (ps := (lot, es) :: ps ++ [(lot, es.map fun x => red m (-1 * x))]) h ⟨hm⟩ (fun p hp => by
    rcases List.mem_append.mp hp with hp | hp
    · rcases List.mem_cons.mp hp with rfl | hp
      · exact ⟨hl, he⟩
      · exact hg p hp
    · rw [List.mem_singleton.mp hp]
      exact ⟨hl, times_lst hm he⟩) (by simp; omega) s3
  rw [away h0] at e14
  have a1 : addD (.tup [tupI lot]) (.tup (LA ps)) = some (.tup (LA ((lot, es) :: ps))) := by
    show (if [tupI lot].length + (LA ps).length ≤ size7 then some (D.tup ([tupI lot] ++ LA ps)) else none) = _
    rw [if_pos (by rw [List.length_map, List.length_singleton]; omega)]
    rfl
  have b1 : addD (.tup [tupI es]) (.tup (LB ps)) = some (.tup (LB ((lot, es) :: ps))) := by
    show (if [tupI es].length + (LB ps).length ≤ size7 then some (D.tup ([tupI es] ++ LB ps)) else none) = _
    rw [if_pos (by rw [List.length_map, List.length_singleton]; omega)]
    rfl
  have a2 : addD (.tup (LA ((lot, es) :: ps))) (.tup [tupI lot]) = some (.tup (LA ((lot, es) :: ps ++ [(lot, es.map fun x => red m (-1 * x))]))) := by
    show (if (LA ((lot, es) :: ps)).length + [tupI lot].length ≤ size7 then some (D.tup (LA ((lot, es) :: ps) ++ [tupI lot])) else none) = _
    rw [if_pos (by rw [List.length_map, List.length_singleton, List.length_cons]; omega)]
    unfold LA
    rw [List.map_append]
    rfl
  have b2 : addD (.tup (LB ((lot, es) :: ps))) (.tup [tupI (es.map fun x => red m (-1 * x))]) = some (.tup (LB ((lot, es) :: ps ++ [(lot, es.map fun x => red m (-1 * x))]))) := by
    show (if (LB ((lot, es) :: ps)).length + [tupI (es.map fun x => red m (-1 * x))].length ≤ size7 then some (D.tup (LB ((lot, es) :: ps) ++ [tupI (es.map fun x => red m (-1 * x))])) else none) = _
    rw [if_pos (by rw [List.length_map, List.length_singleton, List.length_cons]; omega)]
    unfold LB
    rw [List.map_append]
    rfl
  exact ⟨s3, ev_run (ev_seq (ev_asgN (range_ev h rfl))
    (ev_seq (ev_sif (c := false) (ev_reprNe (ev_call (ev_acons (ev_var rfl) (ev_acons (ev_var rfl) (ev_acons (ev_un (ev_var rfl) rfl) (ev_acons (ev_un (ev_var rfl) rfl) ev_anil)))) rfl e1) (ev_var rfl) sd) (fun h => by cases h) (fun _ => ev_next))
    (ev_seq (ev_asgN (ev_call (ev_acons (ev_var rfl) (ev_acons (ev_iop (ev_mapA (ev_acons (ev_var rfl) ev_anil) rfl) ev_c rfl) ev_anil)) rfl e2))
    (ev_seq (ev_asg2 (xs := [.val (.tup (iL (totP sh m (ps.take r.toNat)))), .val (.tup (iL (totP sh m (ps.drop r.toNat))))]) (ev_2val (ev_call (ev_acons (ev_var rfl) (ev_acons (ev_var rfl) (ev_acons (ev_sliceTo (ev_var rfl) (ev_var rfl) (cutA_to r0 r2)) (ev_acons (ev_sliceTo (ev_var rfl) (ev_var rfl) (cutB_to r0 r2)) ev_anil)))) rfl e3)
      (ev_2val (ev_callK (es := [.tup (iL sh), .int m, .tup (LA (ps.drop r.toNat)), .tup (LB (ps.drop r.toNat))]) (ev_acons (ev_sliceFrom (ev_var rfl) (ev_var rfl) (cutB_from r0 r2)) (ev_acons (ev_sliceFrom (ev_var rfl) (ev_var rfl) (cutA_from r0 r2)) (ev_acons (ev_var rfl) (ev_acons (ev_var rfl) ev_anil)))) rfl rfl e4) ev_2nil)) (show 2 ≤ 1000 by decide) rfl)
    (ev_seq (ev_asgN (ev_mapA (ev_acons (ev_call (ev_acons (ev_var rfl) (ev_acons (ev_var rfl) (ev_acons (ev_sliceTo (ev_var rfl) (ev_var rfl) (cutA_to r0 r2)) (ev_acons (ev_sliceTo (ev_var rfl) (ev_var rfl) (cutB_to r0 r2)) ev_anil)))) rfl e5) (ev_acons (ev_call (ev_acons (ev_var rfl) (ev_acons (ev_var rfl) (ev_acons (ev_sliceFrom (ev_var rfl) (ev_var rfl) (cutA_from r0 r2)) (ev_acons (ev_sliceFrom (ev_var rfl) (ev_var rfl) (cutB_from r0 r2)) ev_anil)))) rfl e6) ev_anil)) rfl))
    (ev_seq (ev_sif (c := false) (ev_orT (c := false) (ev_reprNe (ev_mapA (ev_acons (ev_var rfl) (ev_acons (ev_var rfl) ev_anil)) rfl) (ev_var rfl) (shw_pair (sub gt lt) (sub gd ld))) (fun _ => ev_tval (ev_iop (ev_call (ev_acons (ev_var rfl) (ev_acons (ev_var rfl) (ev_acons (ev_var rfl) (ev_acons (ev_var rfl) ev_anil)))) rfl e7) ev_c rfl)) (fun h => by cases h)) (fun h => by cases h) (fun _ => ev_next))
    (ev_seq (ev_sif (c := false) (ev_reprNe (ev_call (ev_acons (ev_var rfl) (ev_acons (ev_var rfl) (ev_acons (ev_mapA (ev_acons (ev_var rfl) (ev_acons (ev_var rfl) ev_anil)) rfl) (ev_acons (ev_var rfl) ev_anil)))) rfl e8) (ev_var rfl) sd) (fun h => by cases h) (fun _ => ev_next))
    (ev_seq (ev_asg (ev_call (ev_acons (ev_var rfl) (ev_acons (ev_var rfl) (ev_acons (ev_var rfl) ev_anil))) rfl e9) bindP_2)
    (ev_seq (ev_sif (c := false) (ev_reprNe (ev_call (ev_acons (ev_var rfl) (ev_acons (ev_var rfl) (ev_acons (ev_var rfl) (ev_acons (ev_var rfl) ev_anil)))) rfl e10) (ev_var rfl) sd) (fun h => by cases h) (fun _ => ev_next))
    (ev_seq (ev_asgN (ev_call (ev_acons (ev_var rfl) (ev_acons (ev_call (ev_acons (ev_mapA (ev_acons (ev_var rfl) ev_anil) rfl) ev_anil) rfl (lots_ev h s1)) ev_anil)) rfl e11))
    (ev_seq (ev_asgN (ev_call (ev_acons (ev_var rfl) (ev_acons (ev_var rfl) (ev_acons (ev_var rfl) (ev_acons (ev_var rfl) (ev_acons (ev_iop ev_c ev_c rfl) ev_anil))))) rfl e12))
    (ev_seq (ev_asgN (ev_call (ev_acons (ev_var rfl) (ev_acons (ev_var rfl) (ev_acons (ev_iop (ev_iop (ev_mapA (ev_acons (ev_var rfl) ev_anil) rfl) (ev_var rfl) a1) (ev_mapA (ev_acons (ev_var rfl) ev_anil) rfl) a2) (ev_acons (ev_iop (ev_iop (ev_mapA (ev_acons (ev_var rfl) ev_anil) rfl) (ev_var rfl) b1) (ev_mapA (ev_acons (ev_call (ev_acons (ev_var rfl) (ev_acons (ev_un ev_c rfl) (ev_acons (ev_var rfl) ev_anil))) rfl e13) ev_anil) rfl) b2) ev_anil)))) rfl e14))
    (ev_rt (ev_reprEq (ev_var rfl) (ev_var rfl) sd)))))))))))))), f3⟩
end
end K04

end

section
set_option maxRecDepth 100000
set_option maxHeartbeats 4000000
namespace K04
open PySem PySem.Spec PyProof.Rows L2 PV
theorem toP_tup {ds : List D} {h n : Nat} (H : ∀ d ∈ ds, Shw d h n) (hh : h ≤ 60) : ∃ ps : List PyData, D.toP (.tup ds) = some (.tuple ps) ∧ ps.length = ds.length ∧ SeqAt.shaped (.tuple ps) = true := by
  obtain ⟨ps, e, l, a1, a2, a3, a4, a5⟩ := shws H
  refine ⟨ps, by simp only [D.toP, e, Option.map_some], l, ?_⟩
  unfold SeqAt.shaped
  rw [Bool.and_eq_true]
  refine ⟨by simp only [PyData.canLay0]; exact lay_all a2, decide_eq_true ?_⟩
  simp only [PyData.depth]
  have := depth_all a3
  omega
theorem ne_nilT {ds : List D} {h n : Nat} (H : ∀ d ∈ ds, Shw d h n) (hh : h ≤ 60) : neD (.tup ds) (.tup []) = some (.bl (!ds.isEmpty)) := by
  obtain ⟨ps, e, l, hs⟩ := toP_tup H hh
  obtain ⟨qs, e2, l2, hs2⟩ := toP_tup (ds := []) (h := 0) (n := 0) (fun d hd => by cases hd) (by decide)
  have : qs = [] := List.length_eq_zero_iff.mp l2
  subst this
  unfold neD
  rw [e, e2]
  simp only [hs, hs2, Bool.and_self, if_true, PyData.eqv]
  cases ds with
  | nil =>
    have : ps = [] := List.length_eq_zero_iff.mp l
    subst this
    simp [PyData.eqvAll]
  | cons d ds =>
    cases ps with
    | nil => simp at l
    | cons p ps => simp [PyData.eqvAll]
theorem small_b {k : Int} (h : -1000 ≤ k ∧ k ≤ 1000) : small64b k = true := by
  unfold small64b
  rw [Bool.and_eq_true]
  exact ⟨decide_eq_true (by omega), decide_eq_true (by omega)⟩
section
variable {sh : List Int} {m : Int}
theorem divisor_draw (hm : m = 0 ∨ 2 ≤ m) (h1 : m ≤ 1000000000000) (s : Dk) (f : Fit s) : ∃ low s', 2 ≤ low ∧ low ≤ 1000000000000 ∧ low ∣ m ∧ Ev (F__law_divisor [.deck, .int m]) s (.int low) s' ∧ Fit s' := by
  have s7 : size7 = 10000000 := rfl
  by_cases hz : m = 0
  · obtain ⟨low, s1, hl, e1, f1⟩ := pick_int [2, 3, 4, 10, 97, 1000000000000] (by simp) (by decide) s f
    have hl' : 2 ≤ low ∧ low ≤ 1000000000000 := by simp at hl; omega
    exact ⟨low, s1, hl'.1, hl'.2, by rw [hz]; exact Int.dvd_zero _, ev_run (ev_seqR (ev_sif (c := true) (ev_tval (ev_iop (ev_var rfl) ev_c (by rw [eq_int]; simp [hz]))) (fun _ => ev_rt (ev_call (ev_acons (ev_var rfl) (ev_acons (ev_frz (ev_mapO (ds := iL [2, 3, 4, 10, 97, 1000000000000]) (ev_acons ev_c (ev_acons ev_c (ev_acons ev_c (ev_acons ev_c (ev_acons ev_c (ev_acons (ev_iop ev_c ev_c rfl) ev_anil)))))) rfl)) ev_anil)) rfl e1)) (fun h => by cases h))), f1⟩
  · have h2 := hm.resolve_left hz
    have all2 : ∀ k ∈ [2, 3, 4, 5, 6, 8, 9, 10, 15, 1000000, m], 2 ≤ k ∧ k ≤ 1000000000000 := fun k hk => by simp at hk; omega
    have mm : m ∈ [2, 3, 4, 5, 6, 8, 9, 10, 15, 1000000, m].filter fun k => decide (m.fmod k = 0) := List.mem_filter.mpr ⟨by simp, by simp [Int.fmod_self]⟩
    have lc : Ev (eLc (eItems (eMapA gTupD (eAcons (eC (.int 2)) (eAcons (eC (.int 3)) (eAcons (eC (.int 4)) (eAcons (eC (.int 5)) (eAcons (eC (.int 6)) (eAcons (eC (.int 8)) (eAcons (eC (.int 9)) (eAcons (eC (.int 10)) (eAcons (eC (.int 15)) (eAcons (eOp powD (eC (.int 10)) (eC (.int 6))) (eAcons (eVar 1) eAnil))))))))))))) (.nm 3) [3] (tVal (eOp eqD (eOp modD (eMapA (g1 intD) (eAcons (eVar 1) eAnil)) (eVar 3)) (eC (.int 0)))) (eVar 3) [.val .deck, .val (.int m), .no, .no]) s (.lst (iL ([2, 3, 4, 5, 6, 8, 9, 10, 15, 1000000, m].filter fun k => decide (m.fmod k = 0)))) s := by
      refine ev_lc (ds := iL [2, 3, 4, 5, 6, 8, 9, 10, 15, 1000000, m]) (ev_items (ev_mapA (ds := iL [2, 3, 4, 5, 6, 8, 9, 10, 15, 1000000, m]) (ev_acons ev_c (ev_acons ev_c (ev_acons ev_c (ev_acons ev_c (ev_acons ev_c (ev_acons ev_c (ev_acons ev_c (ev_acons ev_c (ev_acons ev_c (ev_acons (ev_iop ev_c ev_c rfl) (ev_acons (ev_var rfl) ev_anil))))))))))) rfl) rfl) (by rw [List.length_map, s7]; simp) (lc_filt (c := D.int) (g := D.int) (b := fun k => decide (m.fmod k = 0)) [2, 3, 4, 5, 6, 8, 9, 10, 15, 1000000, m] fun k hk => ?_)
      have := all2 k hk
      exact ⟨_, bindP_nm, ev_tval (ev_iop (ev_iop (ev_int1 (ev_var rfl)) (ev_var rfl) (modD_i (by omega))) ev_c (eq_int _ _)), fun _ => ev_var rfl⟩
    obtain ⟨low, s1, hl, e1, f1⟩ := pick_int ([2, 3, 4, 5, 6, 8, 9, 10, 15, 1000000, m].filter fun k => decide (m.fmod k = 0)) (List.ne_nil_of_mem mm) (Nat.le_trans (List.length_filter_le _ _) (by simp)) s f
    obtain ⟨i1, i2⟩ := List.mem_filter.mp hl
    have := all2 low i1
    exact ⟨low, s1, this.1, this.2, Int.dvd_of_fmod_eq_zero (of_decide_eq_true i2), ev_run (ev_seq (ev_sif (c := false) (ev_tval (ev_iop (ev_var rfl) ev_c (by rw [eq_int]; simp [hz]))) (fun h => by cases h) (fun _ => ev_next)) (ev_seq (ev_asgN (ev_frz lc)) (ev_rt (ev_call (ev_acons (ev_var rfl) (ev_acons (ev_var rfl) ev_anil)) rfl e1)))), f1⟩
/-! ### the lists that are drawn -/
theorem lots_draw (h : Shp sh) (s : Dk) (f : Fit s) : ∃ (lots : List (List Int)) (s' : Dk), lots.length ≤ 6 ∧ (∀ l ∈ lots, Lot sh.length l) ∧
    Ev (eMapA (g1 tupleD) (eAcons (eFrz (eLc (eMapI gRange1 (eAcons (eCall (cN 2 F__law_draw) (eAcons (eVar 1) (eAcons (eC (.int 7)) eAnil))) eAnil)) (.nm 16) [16] tYes' (eCall (cN 2 F__law_pick) (eAcons (eVar 1) (eAcons (eCall (cN 1 F__law_lots) (eAcons (eMapA (g1 lenD) (eAcons (eVar 2) eAnil)) eAnil)) eAnil))))) eAnil)
      [.no, .val .deck, .val (.tup (iL sh)), .val (.int m), .no, .no, .no, .no, .no, .no, .no, .no, .no, .no, .no, .no, .no, .no]) s (.tup (lots.map tupI)) s' ∧ Fit s' := by
  have s7 : size7 = 10000000 := rfl
  obtain ⟨n, s1, e1, n0, n1, f1⟩ := draw_ok 7 (by decide) (by decide) s f
  obtain ⟨lots, s2, e2, l2, p2, f2⟩ := lc_draw (α := D) (β := List Int) (p := .nm 16) (e := eCall (cN 2 F__law_pick) (eAcons (eVar 1) (eAcons (eCall (cN 1 F__law_lots) (eAcons (eMapA (g1 lenD) (eAcons (eVar 2) eAnil)) eAnil)) eAnil))) (env := [.no, .val .deck, .val (.tup (iL sh)), .val (.int m), .no, .no, .no, .no, .no, .no, .no, .no, .no, .no, .no, .no, .no, .no]) (c := id) (r := tupI) (fun _ l => Lot sh.length l) (rangeD 0 n) s1 f1 (fun d hd => ⟨_, bindP_nm, fun s f => by
    obtain ⟨l, s', hl, e', f'⟩ := pick_lot h s f
    exact ⟨l, s', ev_call (ev_acons (ev_var rfl) (ev_acons (ev_call (ev_acons (ev_mapA (ev_acons (ev_var rfl) ev_anil) rfl) ev_anil) rfl (lots_ev h s)) ev_anil)) rfl e', hl, f'⟩⟩)
  rw [List.map_id] at e2
  have hln : lots.length = n.toNat := by rw [l2, rangeD_upto, List.length_map, upto_len]
  refine ⟨lots, s2, by omega, fun l hl => ?_, ev_mapA (ev_acons (ev_frz (ev_lc (ds := rangeD 0 n) (ev_mapI (ev_acons (ev_call (ev_acons (ev_var rfl) (ev_acons ev_c ev_anil)) rfl e1) ev_anil) (show (if small62 n = true then some (rangeD 0 n) else none) = some (rangeD 0 n) from if_pos (small62_of n0 (by omega)))) (by rw [rangeD_upto, List.length_map, upto_len]; omega) e2)) ev_anil) rfl, f2⟩
  obtain ⟨i, hi, rfl⟩ := List.getElem_of_mem hl
  exact p2 ((rangeD 0 n)[i]'(by omega), lots[i]) (List.mem_iff_getElem.mpr ⟨i, by rw [List.length_zip]; omega, by rw [List.getElem_zip]⟩)
theorem lists_draw (h : Shp sh) (hm : m = 0 ∨ 2 ≤ m) (h1 : m ≤ 1000000000000) {lots : List (List Int)} (hl : ∀ l ∈ lots, Lot sh.length l) (hn : lots.length ≤ 6) {size : Int} (hs : 0 ≤ size ∧ size ≤ 10 ^ 28) (s : Dk) (f : Fit s) : ∃ (ps : Ps) (s' : Dk), LA ps = lots.map tupI ∧ ps.length = lots.length ∧ (∀ p ∈ ps, Good sh m p) ∧ (∀ p ∈ ps, ∀ x ∈ p.2, (x.natAbs : Int) ≤ 10 ^ 28) ∧
    Ev (eMapA (g1 tupleD) (eAcons (eFrz (eLc (eItems (eVar 4)) (.nm 13) [13] tYes' (eCall (cN 5 F__law_entries) (eAcons (eVar 1) (eAcons (eVar 2) (eAcons (eVar 3) (eAcons (eVar 13) (eAcons (eVar 5) eAnil)))))))) eAnil)
      [.no, .val .deck, .val (.tup (iL sh)), .val (.int m), .val (.tup (lots.map tupI)), .val (.int size), .no, .no, .no, .no, .no, .no, .no, .no, .no, .no, .no, .no]) s (.tup (LB ps)) s' ∧ Fit s' := by
  have s7 : size7 = 10000000 := rfl
  obtain ⟨lists, s4, e4, l4, p4, f4⟩ := lc_draw (α := List Int) (β := List Int) (p := .nm 13) (e := eCall (cN 5 F__law_entries) (eAcons (eVar 1) (eAcons (eVar 2) (eAcons (eVar 3) (eAcons (eVar 13) (eAcons (eVar 5) eAnil)))))) (env := [.no, .val .deck, .val (.tup (iL sh)), .val (.int m), .val (.tup (lots.map tupI)), .val (.int size), .no, .no, .no, .no, .no, .no, .no, .no, .no, .no, .no, .no]) (c := tupI) (r := tupI) (fun l es => Lst sh m l es ∧ ∀ x ∈ es, (x.natAbs : Int) ≤ 10 ^ 28) lots s f (fun l hm' => ⟨_, bindP_nm, fun s f => by
    obtain ⟨es, s', he, hb, e', f'⟩ := entries_drawB (B := 10 ^ 28) h (hl l hm') hm (by omega) hs.1 hs.2 (by decide) s f
    exact ⟨es, s', ev_call (ev_acons (ev_var rfl) (ev_acons (ev_var rfl) (ev_acons (ev_var rfl) (ev_acons (ev_var rfl) (ev_acons (ev_var rfl) ev_anil))))) rfl e', ⟨he, hb⟩, f'⟩⟩)
  have eA : LA (lots.zip lists) = lots.map tupI := by rw [← la_eq, List.map_fst_zip (by omega)]
  have eB : LB (lots.zip lists) = lists.map tupI := by rw [← lb_eq, List.map_snd_zip (by omega)]
  refine ⟨lots.zip lists, s4, eA, by rw [List.length_zip]; omega, fun p hp => ⟨hl _ (List.of_mem_zip hp).1, (p4 p hp).1⟩, fun p hp => (p4 p hp).2, ?_, f4⟩
  rw [eB]
  exact ev_mapA (ev_acons (ev_frz (ev_lc (ds := lots.map tupI) (ev_items (ev_var rfl) rfl) (by rw [List.length_map]; omega) e4)) ev_anil) rfl
/-! ### multiples and divisors -/
def mulP (m k : Int) (ps : Ps) : Ps := ps.map fun p : List Int × List Int => (p.1, p.2.map fun x => red m (k * x))
theorem mulP_A (m k : Int) (ps : Ps) : LA (mulP m k ps) = LA ps := by unfold LA mulP; rw [List.map_map]; rfl
theorem mulP_good {m0 k : Int} (hm : m = 0 ∨ 2 ≤ m) {ps : Ps} (hg : ∀ p ∈ ps, Good sh m0 p) : ∀ p ∈ mulP m k ps, Good sh m p := fun p hp => by
  obtain ⟨q, hq, rfl⟩ := List.mem_map.mp hp
  exact ⟨(hg q hq).lot, times_lst hm (hg q hq).lst⟩
theorem cg_dvd {low a b : Int} (hd : low ∣ m) (h : Cg m a b) : Cg low a b := by
  obtain ⟨c, rfl⟩ := hd
  obtain ⟨t, e⟩ := h
  exact ⟨c * t, by rw [e, Int.mul_assoc]⟩
theorem mulP_tot {low k : Int} (h0 : 0 ≤ low) (hd : low ∣ m) (ps : Ps) : totP sh low (mulP low k ps) = (totP sh m ps).map fun x => red low (k * x) := by
  unfold totP
  rw [List.map_map]
  refine List.map_congr_left fun w _ => red_eq h0 ?_
  have a : Cg low (((mulP low k ps).map (entS sh w)).sum) ((ps.map fun p => k * entS sh w p).sum) := by
    unfold mulP
    rw [List.map_map]
    exact Cg.sum fun p _ => times_cg w p.1 p.2
  rw [sum_mul] at a
  exact a.trans ((cg_dvd hd (red_cg m _)).symm.mul k)
theorem mul_ev {i j k : Nat} {env : En} {s : Dk} {low c : Int} {ps : Ps} {mk : En → M D} (hc : small64b c = true) (hg : ∀ p ∈ ps, Good sh m p) (hn : ps.length ≤ 6) (hi : env[i]? = some (.val (.tup (LB ps)))) (hj : env[j]? = some (.val (.int low))) (hk : ∀ d : D, Ev (mk ((wipeE env [k]).set k (.val d))) s (.int c) s) (jk : k ≠ j) (kl : k < env.length) :
    Ev (eMapA (g1 tupleD) (eAcons (eFrz (eLc (eItems (eVar i)) (.nm k) [k] tYes' (eCall (cN 3 F__law_times) (eAcons (eVar j) (eAcons mk (eAcons (eVar k) eAnil)))))) eAnil) env) s (.tup (LB (mulP low c ps))) s := by
  have s7 : size7 = 10000000 := rfl
  have e : LB (mulP low c ps) = ps.map fun p : List Int × List Int => tupI (p.2.map fun x => red low (c * x)) := by unfold LB mulP; rw [List.map_map]; rfl
  rw [e]
  refine ev_mapA (ev_acons (ev_frz (ev_lc (ds := LB ps) (ev_items (ev_var hi) rfl) (by rw [List.length_map]; omega) (lc_pure (c := fun p : List Int × List Int => tupI p.2) (g := fun p : List Int × List Int => tupI (p.2.map fun x => red low (c * x))) ps fun p hp => ?_))) ev_anil) rfl
  have g1 : ((wipeE env [k]).set k (.val (tupI p.2)))[k]? = some (.val (tupI p.2)) := List.getElem?_set_self (by simp [wipeE]; exact kl)
  have g2 : ((wipeE env [k]).set k (.val (tupI p.2)))[j]? = some (.val (.int low)) := by
    rw [List.getElem?_set_ne jk]
    simp only [wipeE]
    rw [List.getElem?_set_ne jk]
    exact hj
  exact ⟨_, bindP_nm, ev_call (ev_acons (ev_var g2) (ev_acons (hk _) (ev_acons (ev_var g1) ev_anil))) rfl (ltimes_ok hc (hg p hp).lst.few s)⟩
theorem totP_nil (hm : Md m) : totP sh m [] = List.replicate (wordsL sh).length 0 := by
  rw [List.eq_replicate_iff]
  refine ⟨by unfold totP; rw [List.length_map], fun b hb => ?_⟩
  obtain ⟨w, _, rfl⟩ := List.mem_map.mp hb
  exact red_nm (nm_zero hm)
theorem totP_spr (h0 : 0 ≤ m) (p : List Int × List Int) (ps : Ps) : totP sh m ((upto sh.length, (wordsL sh).map fun w => nth p.2 (atW sh p.1 w 0)) :: ps) = totP sh m (p :: ps) := totP_cg h0 fun w hw => by
  rw [List.map_cons, List.sum_cons, List.map_cons, List.sum_cons, ent_tab (g := fun w => nth p.2 (atW sh p.1 w 0)) hw]
  exact .refl
theorem totP_one (hm : Md m) {p : List Int × List Int} (hp : Good sh m p) : totP sh m [p] = (wordsL sh).map fun w => nth p.2 (atW sh p.1 w 0) := List.map_congr_left fun w _ => by
  rw [List.map_cons, List.sum_cons, List.map_nil, List.sum_nil, Int.add_zero]
  unfold entS
  rcases nth_or (xs := p.2) (atW sh p.1 w 0) with hn | hn
  · exact red_nm (hp.lst.num _ hn)
  · rw [hn]; exact red_nm (nm_zero hm)
theorem one_loop {a0 a1 a4 a5 a6 a7 a8 a9 a10 a11 a12 : Slot} (h : Shp sh) (hm : m = 0 ∨ 2 ≤ m) (h1 : m ≤ 1000000000000) : ∀ (ps : Ps) (z13 z14 z15 : Slot) (s : Dk), (∀ p ∈ ps, Good sh m p) → (∀ p ∈ ps, ∀ x ∈ p.2, (x.natAbs : Int) ≤ 10 ^ 28) → ∃ z13' z14' z15',
    Ev (forM' (.tp [(.nm 13), (.nm 14)]) (sSeq (sAsg (.nm 15) (eCall (cN 3 F__law_spread) (eAcons (eVar 2) (eAcons (eVar 13) (eAcons (eVar 14) eAnil))))) (sIf (tVal (eOp neD (eMapA (g1 reprD) (eAcons (eMapA gTupD (eAcons (eCall (cN 4 F_total) (eAcons (eVar 2) (eAcons (eVar 3) (eAcons (eMapA gTupD (eAcons (eVar 13) eAnil)) (eAcons (eMapA gTupD (eAcons (eVar 14) eAnil)) eAnil))))) (eAcons (eCall (cN 4 F_spread) (eAcons (eVar 2) (eAcons (eVar 3) (eAcons (eVar 13) (eAcons (eVar 14) eAnil))))) eAnil))) eAnil)) (eMapA (g1 reprD) (eAcons (eMapA gTupD (eAcons (eVar 15) (eAcons (eVar 15) eAnil))) eAnil)))) (sRet (eC (.bl false))) sNext)) (ps.map fun p => D.tup [tupI p.1, tupI p.2])
      [a0, a1, .val (.tup (iL sh)), .val (.int m), a4, a5, a6, a7, a8, a9, a10, a11, a12, z13, z14, z15, .no, .no]) s
      (.nx [a0, a1, .val (.tup (iL sh)), .val (.int m), a4, a5, a6, a7, a8, a9, a10, a11, a12, z13', z14', z15', .no, .no]) s
  | [], z13, z14, z15, s, _, _ => ⟨z13, z14, z15, ev_for0⟩
  | p :: ps, z13, z14, z15, s, hg, hb => by
    have gp := hg p List.mem_cons_self
    have e1 := lspread_ok h gp.lot gp.lst s
    have e2 := spread_ok h ⟨hm⟩ gp.lot gp.lst s
    have e3 := totalP_ok (ps := [p]) h ⟨hm⟩ (fun q hq => by rw [List.mem_singleton.mp hq]; exact gp) (by simp) s
    have sd : Shw (tupI (totP sh m [p])) 1 12000 := shw_tot h (totP_len h _) (by decide : (10 ^ 30 : Int) ≤ 10 ^ 32) (totP_bd hm h1 (fun q hq => by rw [List.mem_singleton.mp hq]; exact hb p List.mem_cons_self) (by simp))
    rw [totP_one ⟨hm⟩ gp] at e3 sd
    obtain ⟨z13', z14', z15', e⟩ := one_loop (a0 := a0) (a1 := a1) (a4 := a4) (a5 := a5) (a6 := a6) (a7 := a7) (a8 := a8) (a9 := a9) (a10 := a10) (a11 := a11) (a12 := a12) h hm h1 ps (.val (tupI p.1)) (.val (tupI p.2)) (.val (tupI ((wordsL sh).map fun w => nth p.2 (atW sh p.1 w 0)))) s (fun q hq => hg q (List.mem_cons_of_mem _ hq)) (fun q hq => hb q (List.mem_cons_of_mem _ hq))
    exact ⟨z13', z14', z15', ev_for1 bindP_2 (ev_seq (ev_asgN (ev_call (ev_acons (ev_var rfl) (ev_acons (ev_var rfl) (ev_acons (ev_var rfl) ev_anil))) rfl e1)) (ev_sif (c := false) (ev_reprNe (ev_mapA (ev_acons (ev_call (ev_acons (ev_var rfl) (ev_acons (ev_var rfl) (ev_acons (ev_mapA (ev_acons (ev_var rfl) ev_anil) rfl) (ev_acons (ev_mapA (ev_acons (ev_var rfl) ev_anil) rfl) ev_anil)))) rfl e3) (ev_acons (ev_call (ev_acons (ev_var rfl) (ev_acons (ev_var rfl) (ev_acons (ev_var rfl) (ev_acons (ev_var rfl) ev_anil)))) rfl e2) ev_anil)) rfl) (ev_mapA (ev_acons (ev_var rfl) (ev_acons (ev_var rfl) ev_anil)) rfl) (shw_pair sd sd)) (fun h => by cases h) (fun _ => ev_next))) e⟩
theorem cut_two (ds : List D) : cutL ds none (some 2) = ds.take 2 := by
  unfold cutL
  rw [HT.sIx_none, show HT.sIx ds.length ds.length (some (2 : Int)) = min 2 ds.length from HT.sIx_nat _ _ 2, List.drop_zero, Nat.sub_zero]
  by_cases h : 2 ≤ ds.length
  · rw [Nat.min_eq_left h]
  · rw [Nat.min_eq_right (by omega), List.take_of_length_le (Nat.le_refl _), List.take_of_length_le (by omega)]
end
end K04

end

section
set_option maxRecDepth 100000
set_option maxHeartbeats 4000000
namespace K04
open PySem PySem.Spec PyProof.Rows L2 PV
theorem atI_cons0 {d : D} {ds : List D} : atI (d :: ds) 0 = some d := by
  show ((ixN (d :: ds).length 0).bind fun j => (d :: ds)[j]?) = some d
  unfold ixN
  simp
section
variable {sh : List Int} {m : Int}
/-- the first list by its table -/
theorem near_ok {a0 a1 a5 a8 a9 a10 a11 a13 a14 a15 : Slot} (h : Shp sh) (hm : m = 0 ∨ 2 ≤ m) {ps : Ps} (hg : ∀ p ∈ ps, Good sh m p) (hn : ps.length ≤ 6) (sd : Shw (tupI (totP sh m ps)) 1 12000) (s : Dk) : ∃ z12,
    Ev ((sIf (tVal (eOp neD (eVar 4) (eMapA gTupD eAnil))) (sSeq (sAsg (.nm 12) (eOp addD (eMapA gTupD (eAcons (eMapA (gTupR gRange1) (eAcons (eMapA (g1 lenD) (eAcons (eVar 2) eAnil)) eAnil)) eAnil)) (eSlice (eVar 4) (ePart (eC (.int 1))) eNoPart))) (sIf (tVal (eOp neD (eMapA (g1 reprD) (eAcons (eCall (cN 4 F_total) (eAcons (eVar 2) (eAcons (eVar 3) (eAcons (eVar 12) (eAcons (eOp addD (eMapA gTupD (eAcons (eCall (cN 3 F__law_spread) (eAcons (eVar 2) (eAcons (eOp ixD (eVar 4) (eC (.int 0))) (eAcons (eOp ixD (eVar 6) (eC (.int 0))) eAnil)))) eAnil)) (eSlice (eVar 6) (ePart (eC (.int 1))) eNoPart)) eAnil))))) eAnil)) (eMapA (g1 reprD) (eAcons (eVar 7) eAnil)))) (sRet (eC (.bl false))) sNext)) sNext)
      [a0, a1, .val (.tup (iL sh)), .val (.int m), .val (.tup (LA ps)), a5, .val (.tup (LB ps)), .val (.tup (iL (totP sh m ps))), a8, a9, a10, a11, .no, a13, a14, a15, .no, .no]) s
      (.nx [a0, a1, .val (.tup (iL sh)), .val (.int m), .val (.tup (LA ps)), a5, .val (.tup (LB ps)), .val (.tup (iL (totP sh m ps))), a8, a9, a10, a11, z12, a13, a14, a15, .no, .no]) s := by
  have s7 : size7 = 10000000 := rfl
  have h0 := md_nn hm
  have nn : neD (.tup (LA ps)) (.tup []) = some (.bl (!(LA ps).isEmpty)) := ne_nilT (h := 1) (n := 19) (fun d hd => by
    obtain ⟨p, hp, rfl⟩ := List.mem_map.mp hd
    exact shw_lot h.l4 (hg p hp).lot) (by decide)
  cases ps with
  | nil => exact ⟨.no, ev_sif (c := false) (ev_tval (ev_iop (ev_var rfl) (ev_mapA ev_anil rfl) nn)) (fun h => by cases h) (fun _ => ev_next)⟩
  | cons p r =>
    have gp := hg p List.mem_cons_self
    have gr : ∀ q ∈ r, Good sh m q := fun q hq => hg q (List.mem_cons_of_mem _ hq)
    have hr : r.length ≤ 5 := by simp at hn; omega
    have e1 := lspread_ok h gp.lot gp.lst s
    have gt : Good sh m (upto sh.length, (wordsL sh).map fun w => nth p.2 (atW sh p.1 w 0)) := by
      rw [← totP_one ⟨hm⟩ gp]
      exact totP_good h hm [p]
    have e2 := totalP_ok (ps := (upto sh.length, (wordsL sh).map fun w => nth p.2 (atW sh p.1 w 0)) :: r) h ⟨hm⟩ (fun q hq => by
      rcases List.mem_cons.mp hq with rfl | hq
      · exact gt
      · exact gr q hq) (by simp; omega) s
    rw [totP_spr h0 p r] at e2
    have a1' : addD (.tup [tupI (upto sh.length)]) (.tup (LA r)) = some (.tup (LA ((upto sh.length, (wordsL sh).map fun w => nth p.2 (atW sh p.1 w 0)) :: r))) := by
      show (if [tupI (upto sh.length)].length + (LA r).length ≤ size7 then some (D.tup ([tupI (upto sh.length)] ++ LA r)) else none) = _
      rw [if_pos (by rw [List.length_map, List.length_singleton]; omega)]
      rfl
    have b1' : addD (.tup [tupI ((wordsL sh).map fun w => nth p.2 (atW sh p.1 w 0))]) (.tup (LB r)) = some (.tup (LB ((upto sh.length, (wordsL sh).map fun w => nth p.2 (atW sh p.1 w 0)) :: r))) := by
      show (if [tupI ((wordsL sh).map fun w => nth p.2 (atW sh p.1 w 0))].length + (LB r).length ≤ size7 then some (D.tup ([tupI ((wordsL sh).map fun w => nth p.2 (atW sh p.1 w 0))] ++ LB r)) else none) = _
      rw [if_pos (by rw [List.length_map, List.length_singleton]; omega)]
      rfl
    have ca : cutD (.tup (LA (p :: r))) (some 1) none = some (.tup (LA r)) := by
      show some (D.tup (cutL _ _ _)) = _
      rw [cut1D]
      rfl
    have cb : cutD (.tup (LB (p :: r))) (some 1) none = some (.tup (LB r)) := by
      show some (D.tup (cutL _ _ _)) = _
      rw [cut1D]
      rfl
    have xa : ixD (.tup (LA (p :: r))) (.int 0) = some (tupI p.1) := by
      show atI (LA (p :: r)) 0 = _
      exact atI_cons0
    have xb : ixD (.tup (LB (p :: r))) (.int 0) = some (tupI p.2) := by
      show atI (LB (p :: r)) 0 = _
      exact atI_cons0
    exact ⟨.val (.tup (LA ((upto sh.length, (wordsL sh).map fun w => nth p.2 (atW sh p.1 w 0)) :: r))), ev_sif (c := true) (ev_tval (ev_iop (ev_var rfl) (ev_mapA ev_anil rfl) nn)) (fun _ => ev_seq (ev_asgN (ev_iop (ev_mapA (ev_acons (range_ev h rfl) ev_anil) rfl) (ev_slice1 (ev_var rfl) ca) a1'))
      (ev_sif (c := false) (ev_reprNe (ev_call (ev_acons (ev_var rfl) (ev_acons (ev_var rfl) (ev_acons (ev_var rfl) (ev_acons (ev_iop (ev_mapA (ev_acons (ev_call (ev_acons (ev_var rfl) (ev_acons (ev_iop (ev_var rfl) ev_c xa) (ev_acons (ev_iop (ev_var rfl) ev_c xb) ev_anil))) rfl e1) ev_anil) rfl) (ev_slice1 (ev_var rfl) cb) b1') ev_anil)))) rfl e2) (ev_var rfl) sd) (fun h => by cases h) (fun _ => ev_next))) (fun h => by cases h)⟩
end
theorem law_ok (s : Dk) (f : Fit s) : ∃ s', Ev (B_law (lawEnv 18)) s (.rt (.bl true)) s' := by
  have s7 : size7 = 10000000 := rfl
  obtain ⟨sh, s1, h, e1, f1⟩ := shape_draw 24 s f
  obtain ⟨m, s2, hm, h1, e2, f2⟩ := modulus_draw s1 f1
  have h0 := md_nn hm
  obtain ⟨lots, s3, hln, hlots, e3, f3⟩ := lots_draw (m := m) h s2 f2
  obtain ⟨size, s4, hs, e4, f4⟩ := pick_int [9, 99, 10 ^ 28] (by simp) (by decide) s3 f3
  have hs' : 0 ≤ size ∧ size ≤ 10 ^ 28 := by simp at hs; omega
  obtain ⟨ps, s5, hA, hpl, hg, hb, e5, f5⟩ := lists_draw h hm h1 hlots hln hs' s4 f4
  rw [← hA] at e3 e5
  have hn : ps.length ≤ 6 := by omega
  have e6 := ltotalP_ok h ⟨hm⟩ hg (by omega) s5
  have e7 := totalP_ok h ⟨hm⟩ hg (by omega) s5
  have bd := totP_bd (sh := sh) hm h1 hb (by omega)
  have tl := totP_len (m := m) h ps
  have sd : Shw (tupI (totP sh m ps)) 1 12000 := shw_tot h tl (by decide : (10 ^ 30 : Int) ≤ 10 ^ 32) bd
  obtain ⟨s6, e8, f6⟩ := turned_ok h hm h1 hg hb hn s5 f5
  obtain ⟨r, s7', e9, r0, r1, f7⟩ := draw_ok 19 (by decide) (by decide) s6 f6
  obtain ⟨low, s8, l2, l12, ld, e10, f8⟩ := divisor_draw hm h1 s7' f7
  have hk : small64b (r - 9) = true := small_b (by omega)
  have hk1 : small64b 1 = true := by decide
  have e11 := totalP_ok (ps := mulP m (r - 9) ps) h ⟨hm⟩ (mulP_good hm hg) (by unfold mulP; rw [List.length_map]; omega) s8
  rw [mulP_tot h0 (Int.dvd_refl m), mulP_A] at e11
  have e12 := totalP_ok (ps := mulP low 1 ps) h ⟨.inr l2⟩ (mulP_good (.inr l2) hg) (by unfold mulP; rw [List.length_map]; omega) s8
  rw [mulP_tot (by omega) ld, mulP_A] at e12
  have e13 := ltimes_ok (m := m) hk tl s8
  have e14 := ltimes_ok (m := low) hk1 tl s8
  have sm : Shw (tupI ((totP sh m ps).map fun x => red m ((r - 9) * x))) 1 12000 := shw_tot h (by rw [List.length_map]; exact tl) (by decide : (10 ^ 31 : Int) ≤ 10 ^ 32) fun x hx => by
    obtain ⟨y, hy, rfl⟩ := List.mem_map.mp hx
    have b := bd y hy
    refine red_bound hm (by omega) ?_
    rw [Int.natAbs_mul]
    have a1 : (r - 9).natAbs ≤ 10 := by omega
    have a2 := Nat.mul_le_mul a1 (show y.natAbs ≤ 10 ^ 30 by omega)
    omega
  have sl : Shw (tupI ((totP sh m ps).map fun x => red low (1 * x))) 1 12000 := shw_tot h (by rw [List.length_map]; exact tl) (by decide : (10 ^ 31 : Int) ≤ 10 ^ 32) fun x hx => by
    obtain ⟨y, hy, rfl⟩ := List.mem_map.mp hx
    have b := bd y hy
    refine red_bound (.inr l2) (by omega) ?_
    rw [Int.one_mul]
    omega
  have mm1 := mul_ev (i := 6) (j := 3) (k := 17) (low := m) (c := r - 9) (mk := eVar 8) (s := s8) (env := [.no, .val .deck, .val (.tup (iL sh)), .val (.int m), .val (.tup (LA ps)), .val (.int size), .val (.tup (LB ps)), .val (.tup (iL (totP sh m ps))), .val (.int (r - 9)), .val (.int low), .no, .no, .no, .no, .no, .no, .no, .no]) hk hg hn rfl rfl (fun d => ev_var rfl) (by decide) (by simp)
  have mm2 := mul_ev (i := 6) (j := 9) (k := 17) (low := low) (c := 1) (mk := eC (.int 1)) (s := s8) (env := [.no, .val .deck, .val (.tup (iL sh)), .val (.int m), .val (.tup (LA ps)), .val (.int size), .val (.tup (LB ps)), .val (.tup (iL (totP sh m ps))), .val (.int (r - 9)), .val (.int low), .no, .no, .no, .no, .no, .no, .no, .no]) hk1 hg hn rfl rfl (fun d => ev_c) (by decide) (by simp)
  have wl1 : (totP sh m ps).length = (wordsL sh).length := by unfold totP; rw [List.length_map]
  have wne := List.length_pos_iff.mpr (words_ne (ns := sh) fun n hn => (h.le n hn).1)
  have e15 := totalP_ok (ps := []) h ⟨hm⟩ (fun p hp => by cases hp) (by simp) s8
  have z0 : totP sh m [] = List.replicate (totP sh m ps).length 0 := by rw [totP_nil ⟨hm⟩, wl1]
  have s0 : Shw (tupI (totP sh m [])) 1 12000 := shw_tot h (totP_len h _) (by decide : (10 ^ 30 : Int) ≤ 10 ^ 32) (totP_bd hm h1 (fun p hp => by cases hp) (by simp))
  have rp := rep_tup (n := (totP sh m ps).length) (by omega) (by omega)
  rw [← z0] at rp
  have rp' : mulT (.tup [.int 0]) (.int ((iL (totP sh m ps)).length : Nat)) = some (.tup (iL (totP sh m []))) := by rw [List.length_map]; exact rp
  obtain ⟨z12, e16⟩ := near_ok (a0 := .no) (a1 := .val .deck) (a5 := .val (.int size)) (a8 := .val (.int (r - 9))) (a9 := .val (.int low)) (a10 := .val (.tup (LB (mulP m (r - 9) ps)))) (a11 := .val (.tup (LB (mulP low 1 ps)))) (a13 := .no) (a14 := .no) (a15 := .no) h hm hg hn sd s8
  obtain ⟨z13, z14, z15, e17⟩ := one_loop (a0 := .no) (a1 := .val .deck) (a4 := .val (.tup (LA ps))) (a5 := .val (.int size)) (a6 := .val (.tup (LB ps))) (a7 := .val (.tup (iL (totP sh m ps)))) (a8 := .val (.int (r - 9))) (a9 := .val (.int low)) (a10 := .val (.tup (LB (mulP m (r - 9) ps)))) (a11 := .val (.tup (LB (mulP low 1 ps)))) (a12 := z12) h hm h1 (ps.take 2) .no .no .no s8 (fun p hp => hg p (List.mem_of_mem_take hp)) (fun p hp => hb p (List.mem_of_mem_take hp))
  have hz : zipD (LA ps) (LB ps) = ps.map fun p => D.tup [tupI p.1, tupI p.2] := by
    rw [← la_eq, ← lb_eq, zip_tups, zip_self2]
  have it : Ev (eItems (eSlice (eFrz (eMapO gLstZip (eAcons (eVar 4) (eAcons (eVar 6) eAnil)))) eNoPart (ePart (eC (.int 2)))) [.no, .val .deck, .val (.tup (iL sh)), .val (.int m), .val (.tup (LA ps)), .val (.int size), .val (.tup (LB ps)), .val (.tup (iL (totP sh m ps))), .val (.int (r - 9)), .val (.int low), .val (.tup (LB (mulP m (r - 9) ps))), .val (.tup (LB (mulP low 1 ps))), z12, .no, .no, .no, .no, .no]) s8 ((ps.take 2).map fun p => D.tup [tupI p.1, tupI p.2]) s8 := by
    refine ev_items (d := .lst ((ps.take 2).map fun p => D.tup [tupI p.1, tupI p.2])) (ev_sliceTo (d := .lst (ps.map fun p => D.tup [tupI p.1, tupI p.2])) (ev_frz (o := .lst (ps.map fun p => D.tup [tupI p.1, tupI p.2])) (ev_mapO (ds := [.tup (LA ps), .tup (LB ps)]) (ev_acons (ev_var rfl) (ev_acons (ev_var rfl) ev_anil)) ?_)) ev_c ?_) rfl
    · show (if (LA ps).length ≤ size7 then some (OD.lst (zipD (LA ps) (LB ps))) else none) = _
      rw [if_pos (by rw [List.length_map]; omega), hz]
    · show some (D.lst (cutL _ _ _)) = _
      rw [cut_two, List.map_take]
  refine ⟨s8, ev_seq (ev_asg2 (xs := [.val (.tup (iL sh)), .val (.int m)]) (ev_2val (ev_call (ev_acons (ev_var rfl) (ev_acons ev_c ev_anil)) rfl e1) (ev_2val (ev_call (ev_acons (ev_var rfl) ev_anil) rfl e2) ev_2nil)) (show 2 ≤ 1000 by decide) rfl)
    (ev_seq (ev_asgN e3)
    (ev_seq (ev_asgN (ev_call (ev_acons (ev_var rfl) (ev_acons (ev_frz (ev_mapO (ds := iL [9, 99, 10 ^ 28]) (ev_acons ev_c (ev_acons ev_c (ev_acons (ev_iop ev_c ev_c rfl) ev_anil))) rfl)) ev_anil)) rfl e4))
    (ev_seq (ev_asgN e5)
    (ev_seq (ev_asgN (ev_call (ev_acons (ev_var rfl) (ev_acons (ev_var rfl) (ev_acons (ev_var rfl) (ev_acons (ev_var rfl) ev_anil)))) rfl e6))
    (ev_seq (ev_sif (c := false) (ev_reprNe (ev_mapA (ev_acons (ev_call (ev_acons (ev_var rfl) (ev_acons (ev_var rfl) (ev_acons (ev_var rfl) (ev_acons (ev_var rfl) ev_anil)))) rfl e7) (ev_acons (ev_callK (es := [.tup (iL sh), .int m, .tup (LA ps), .tup (LB ps)]) (ev_acons (ev_var rfl) (ev_acons (ev_var rfl) (ev_acons (ev_var rfl) (ev_acons (ev_var rfl) ev_anil)))) rfl rfl e7) ev_anil)) rfl) (ev_mapA (ev_acons (ev_var rfl) (ev_acons (ev_var rfl) ev_anil)) rfl) (shw_pair sd sd)) (fun h => by cases h) (fun _ => ev_next))
    (ev_seq (ev_sif (c := false) (ev_notT (c := true) (ev_tval (ev_call (ev_acons (ev_var rfl) (ev_acons (ev_var rfl) (ev_acons (ev_var rfl) (ev_acons (ev_var rfl) (ev_acons (ev_var rfl) (ev_acons (ev_var rfl) ev_anil)))))) rfl e8))) (fun h => by cases h) (fun _ => ev_next))
    (ev_seq (ev_asg2 (xs := [.val (.int (r - 9)), .val (.int low)]) (ev_2val (ev_iop (ev_call (ev_acons (ev_var rfl) (ev_acons ev_c ev_anil)) rfl e9) ev_c rfl) (ev_2val (ev_call (ev_acons (ev_var rfl) (ev_acons (ev_var rfl) ev_anil)) rfl e10) ev_2nil)) (show 2 ≤ 1000 by decide) rfl)
    (ev_seq (ev_asg2 (xs := [.val (.tup (LB (mulP m (r - 9) ps))), .val (.tup (LB (mulP low 1 ps)))]) (ev_2val mm1 (ev_2val mm2 ev_2nil)) (show 2 ≤ 1000 by decide) rfl)
    (ev_seq (ev_sif (c := false) (ev_reprNe (ev_mapA (ev_acons (ev_call (ev_acons (ev_var rfl) (ev_acons (ev_var rfl) (ev_acons (ev_var rfl) (ev_acons (ev_var rfl) ev_anil)))) rfl e11) (ev_acons (ev_call (ev_acons (ev_var rfl) (ev_acons (ev_var rfl) (ev_acons (ev_var rfl) (ev_acons (ev_var rfl) ev_anil)))) rfl e12) ev_anil)) rfl) (ev_mapA (ev_acons (ev_call (ev_acons (ev_var rfl) (ev_acons (ev_var rfl) (ev_acons (ev_var rfl) ev_anil))) rfl e13) (ev_acons (ev_call (ev_acons (ev_var rfl) (ev_acons ev_c (ev_acons (ev_var rfl) ev_anil))) rfl e14) ev_anil)) rfl) (shw_pair sm sl)) (fun h => by cases h) (fun _ => ev_next))
    (ev_seq (ev_sif (c := false) (ev_reprNe (ev_call (ev_acons (ev_var rfl) (ev_acons (ev_var rfl) (ev_acons (ev_mapA ev_anil rfl) (ev_acons (ev_mapA ev_anil rfl) ev_anil)))) rfl e15) (ev_iop (ev_mapA (ev_acons ev_c ev_anil) rfl) (ev_mapA (ev_acons (ev_var rfl) ev_anil) rfl) rp') s0) (fun h => by cases h) (fun _ => ev_next))
    (ev_seq e16 (ev_seq (ev_for it e17) (ev_rt ev_c))))))))))))) ⟩
theorem math : ∀ s : Dk, s.left.length ≤ 63 → ∃ s', B_law (lawEnv 18) s = .ok (.rt (.bl true)) s' := fun s f => law_ok s f
end K04

end

section
set_option maxRecDepth 100000
set_option maxHeartbeats 4000000
namespace K04
open PySem PySem.Spec PyProof.Rows L2 PV
section
theorem all_mk {P : Program} {w : World} {K : PySem.W.Frag} {h : Heap} {mg : Str → Option Value} {fa : Addr} (X : K.In h) (G : h.Ns mainGlobals mg) (hfa : mg "law" = some (.ref fa))
    {f0 : Addr} {od0 an0 : Option Addr} {sl0 : Array (Option Value)} {oc0 kV0 dc0 pm0 cd0 ct0 : Value}
    (a0 : PySem.W.nsIn K mainGlobals "is_plain_integer" = some (some (.ref f0))) (l0 : K.lookup f0 = some ⟨oc0, od0, .func (PySem.W.fnOf "is_plain_integer" "is_plain_integer" (defArgs s_is_plain_integer) (defBody s_is_plain_integer) (defScope s_is_plain_integer) .none kV0 dc0 pm0 an0 cd0 ct0), sl0⟩) (c0 : PySem.W.codeIn K cd0 "is_plain_integer" = true) (k0 : PySem.W.keepIn K (.ref f0) = true)
    {f1 : Addr} {od1 an1 : Option Addr} {sl1 : Array (Option Value)} {oc1 kV1 dc1 pm1 cd1 ct1 : Value}
    (a1 : PySem.W.nsIn K mainGlobals "is_ascending" = some (some (.ref f1))) (l1 : K.lookup f1 = some ⟨oc1, od1, .func (PySem.W.fnOf "is_ascending" "is_ascending" (defArgs s_is_ascending) (defBody s_is_ascending) (defScope s_is_ascending) .none kV1 dc1 pm1 an1 cd1 ct1), sl1⟩) (c1 : PySem.W.codeIn K cd1 "is_ascending" = true) (k1 : PySem.W.keepIn K (.ref f1) = true)
    {f2 : Addr} {od2 an2 : Option Addr} {sl2 : Array (Option Value)} {oc2 kV2 dc2 pm2 cd2 ct2 : Value}
    (a2 : PySem.W.nsIn K mainGlobals "all_places" = some (some (.ref f2))) (l2 : K.lookup f2 = some ⟨oc2, od2, .func (PySem.W.fnOf "all_places" "all_places" (defArgs s_all_places) (defBody s_all_places) (defScope s_all_places) .none kV2 dc2 pm2 an2 cd2 ct2), sl2⟩) (c2 : PySem.W.codeIn K cd2 "all_places" = true) (k2 : PySem.W.keepIn K (.ref f2) = true)
    {f3 : Addr} {od3 an3 : Option Addr} {sl3 : Array (Option Value)} {oc3 kV3 dc3 pm3 cd3 ct3 : Value}
    (a3 : PySem.W.nsIn K mainGlobals "words_over" = some (some (.ref f3))) (l3 : K.lookup f3 = some ⟨oc3, od3, .func (PySem.W.fnOf "words_over" "words_over" (defArgs s_words_over) (defBody s_words_over) (defScope s_words_over) .none kV3 dc3 pm3 an3 cd3 ct3), sl3⟩) (c3 : PySem.W.codeIn K cd3 "words_over" = true) (k3 : PySem.W.keepIn K (.ref f3) = true)
    {f4 : Addr} {od4 an4 : Option Addr} {sl4 : Array (Option Value)} {oc4 kV4 dc4 pm4 cd4 ct4 : Value}
    (a4 : PySem.W.nsIn K mainGlobals "reduced" = some (some (.ref f4))) (l4 : K.lookup f4 = some ⟨oc4, od4, .func (PySem.W.fnOf "reduced" "reduced" (defArgs s_reduced) (defBody s_reduced) (defScope s_reduced) .none kV4 dc4 pm4 an4 cd4 ct4), sl4⟩) (c4 : PySem.W.codeIn K cd4 "reduced" = true) (k4 : PySem.W.keepIn K (.ref f4) = true)
    {f5 : Addr} {od5 an5 : Option Addr} {sl5 : Array (Option Value)} {oc5 kV5 dc5 pm5 cd5 ct5 : Value}
    (a5 : PySem.W.nsIn K mainGlobals "many_words" = some (some (.ref f5))) (l5 : K.lookup f5 = some ⟨oc5, od5, .func (PySem.W.fnOf "many_words" "many_words" (defArgs s_many_words) (defBody s_many_words) (defScope s_many_words) .none kV5 dc5 pm5 an5 cd5 ct5), sl5⟩) (c5 : PySem.W.codeIn K cd5 "many_words" = true) (k5 : PySem.W.keepIn K (.ref f5) = true)
    {f6 : Addr} {od6 an6 : Option Addr} {sl6 : Array (Option Value)} {oc6 kV6 dc6 pm6 cd6 ct6 : Value}
    (a6 : PySem.W.nsIn K mainGlobals "met_entry" = some (some (.ref f6))) (l6 : K.lookup f6 = some ⟨oc6, od6, .func (PySem.W.fnOf "met_entry" "met_entry" (defArgs s_met_entry) (defBody s_met_entry) (defScope s_met_entry) .none kV6 dc6 pm6 an6 cd6 ct6), sl6⟩) (c6 : PySem.W.codeIn K cd6 "met_entry" = true) (k6 : PySem.W.keepIn K (.ref f6) = true)
    {f7 : Addr} {od7 an7 : Option Addr} {sl7 : Array (Option Value)} {oc7 kV7 dc7 pm7 cd7 ct7 : Value}
    (a7 : PySem.W.nsIn K mainGlobals "_law_deck" = some (some (.ref f7))) (l7 : K.lookup f7 = some ⟨oc7, od7, .func (PySem.W.fnOf "_law_deck" "_law_deck" (defArgs s__law_deck) (defBody s__law_deck) (defScope s__law_deck) .none kV7 dc7 pm7 an7 cd7 ct7), sl7⟩) (c7 : PySem.W.codeIn K cd7 "_law_deck" = true) (k7 : PySem.W.keepIn K (.ref f7) = true)
    {f8 : Addr} {od8 an8 : Option Addr} {sl8 : Array (Option Value)} {oc8 kV8 dc8 pm8 cd8 ct8 : Value}
    (a8 : PySem.W.nsIn K mainGlobals "_law_draw" = some (some (.ref f8))) (l8 : K.lookup f8 = some ⟨oc8, od8, .func (PySem.W.fnOf "_law_draw" "_law_draw" (defArgs s__law_draw) (defBody s__law_draw) (defScope s__law_draw) .none kV8 dc8 pm8 an8 cd8 ct8), sl8⟩) (c8 : PySem.W.codeIn K cd8 "_law_draw" = true) (k8 : PySem.W.keepIn K (.ref f8) = true)
    {f9 : Addr} {od9 an9 : Option Addr} {sl9 : Array (Option Value)} {oc9 kV9 dc9 pm9 cd9 ct9 : Value}
    (a9 : PySem.W.nsIn K mainGlobals "_law_by" = some (some (.ref f9))) (l9 : K.lookup f9 = some ⟨oc9, od9, .func (PySem.W.fnOf "_law_by" "_law_by" (defArgs s__law_by) (defBody s__law_by) (defScope s__law_by) .none kV9 dc9 pm9 an9 cd9 ct9), sl9⟩) (c9 : PySem.W.codeIn K cd9 "_law_by" = true) (k9 : PySem.W.keepIn K (.ref f9) = true)
    {f10 : Addr} {od10 an10 : Option Addr} {sl10 : Array (Option Value)} {oc10 kV10 dc10 pm10 cd10 ct10 : Value}
    (a10 : PySem.W.nsIn K mainGlobals "_law_worlds" = some (some (.ref f10))) (l10 : K.lookup f10 = some ⟨oc10, od10, .func (PySem.W.fnOf "_law_worlds" "_law_worlds" (defArgs s__law_worlds) (defBody s__law_worlds) (defScope s__law_worlds) .none kV10 dc10 pm10 an10 cd10 ct10), sl10⟩) (c10 : PySem.W.codeIn K cd10 "_law_worlds" = true) (k10 : PySem.W.keepIn K (.ref f10) = true)
    {f11 : Addr} {od11 an11 : Option Addr} {sl11 : Array (Option Value)} {oc11 kV11 dc11 pm11 cd11 ct11 : Value}
    (a11 : PySem.W.nsIn K mainGlobals "_law_word_of" = some (some (.ref f11))) (l11 : K.lookup f11 = some ⟨oc11, od11, .func (PySem.W.fnOf "_law_word_of" "_law_word_of" (defArgs s__law_word_of) (defBody s__law_word_of) (defScope s__law_word_of) .none kV11 dc11 pm11 an11 cd11 ct11), sl11⟩) (c11 : PySem.W.codeIn K cd11 "_law_word_of" = true) (k11 : PySem.W.keepIn K (.ref f11) = true)
    {f12 : Addr} {od12 an12 : Option Addr} {sl12 : Array (Option Value)} {oc12 kV12 dc12 pm12 cd12 ct12 : Value}
    (a12 : PySem.W.nsIn K mainGlobals "_law_lots" = some (some (.ref f12))) (l12 : K.lookup f12 = some ⟨oc12, od12, .func (PySem.W.fnOf "_law_lots" "_law_lots" (defArgs s__law_lots) (defBody s__law_lots) (defScope s__law_lots) .none kV12 dc12 pm12 an12 cd12 ct12), sl12⟩) (c12 : PySem.W.codeIn K cd12 "_law_lots" = true) (k12 : PySem.W.keepIn K (.ref f12) = true)
    {f13 : Addr} {od13 an13 : Option Addr} {sl13 : Array (Option Value)} {oc13 kV13 dc13 pm13 cd13 ct13 : Value}
    (a13 : PySem.W.nsIn K mainGlobals "is_below" = some (some (.ref f13))) (l13 : K.lookup f13 = some ⟨oc13, od13, .func (PySem.W.fnOf "is_below" "is_below" (defArgs s_is_below) (defBody s_is_below) (defScope s_is_below) .none kV13 dc13 pm13 an13 cd13 ct13), sl13⟩) (c13 : PySem.W.codeIn K cd13 "is_below" = true) (k13 : PySem.W.keepIn K (.ref f13) = true)
    {f14 : Addr} {od14 an14 : Option Addr} {sl14 : Array (Option Value)} {oc14 kV14 dc14 pm14 cd14 ct14 : Value}
    (a14 : PySem.W.nsIn K mainGlobals "is_shape" = some (some (.ref f14))) (l14 : K.lookup f14 = some ⟨oc14, od14, .func (PySem.W.fnOf "is_shape" "is_shape" (defArgs s_is_shape) (defBody s_is_shape) (defScope s_is_shape) .none kV14 dc14 pm14 an14 cd14 ct14), sl14⟩) (c14 : PySem.W.codeIn K cd14 "is_shape" = true) (k14 : PySem.W.keepIn K (.ref f14) = true)
    {f15 : Addr} {od15 an15 : Option Addr} {sl15 : Array (Option Value)} {oc15 kV15 dc15 pm15 cd15 ct15 : Value}
    (a15 : PySem.W.nsIn K mainGlobals "is_modulus" = some (some (.ref f15))) (l15 : K.lookup f15 = some ⟨oc15, od15, .func (PySem.W.fnOf "is_modulus" "is_modulus" (defArgs s_is_modulus) (defBody s_is_modulus) (defScope s_is_modulus) .none kV15 dc15 pm15 an15 cd15 ct15), sl15⟩) (c15 : PySem.W.codeIn K cd15 "is_modulus" = true) (k15 : PySem.W.keepIn K (.ref f15) = true)
    {f16 : Addr} {od16 an16 : Option Addr} {sl16 : Array (Option Value)} {oc16 kV16 dc16 pm16 cd16 ct16 : Value}
    (a16 : PySem.W.nsIn K mainGlobals "met_sum" = some (some (.ref f16))) (l16 : K.lookup f16 = some ⟨oc16, od16, .func (PySem.W.fnOf "met_sum" "met_sum" (defArgs s_met_sum) (defBody s_met_sum) (defScope s_met_sum) .none kV16 dc16 pm16 an16 cd16 ct16), sl16⟩) (c16 : PySem.W.codeIn K cd16 "met_sum" = true) (k16 : PySem.W.keepIn K (.ref f16) = true)
    {f17 : Addr} {od17 an17 : Option Addr} {sl17 : Array (Option Value)} {oc17 kV17 dc17 pm17 cd17 ct17 : Value}
    (a17 : PySem.W.nsIn K mainGlobals "_law_great" = some (some (.ref f17))) (l17 : K.lookup f17 = some ⟨oc17, od17, .func (PySem.W.fnOf "_law_great" "_law_great" (defArgs s__law_great) (defBody s__law_great) (defScope s__law_great) .none kV17 dc17 pm17 an17 cd17 ct17), sl17⟩) (c17 : PySem.W.codeIn K cd17 "_law_great" = true) (k17 : PySem.W.keepIn K (.ref f17) = true)
    {f18 : Addr} {od18 an18 : Option Addr} {sl18 : Array (Option Value)} {oc18 kV18 dc18 pm18 cd18 ct18 : Value}
    (a18 : PySem.W.nsIn K mainGlobals "_law_pick" = some (some (.ref f18))) (l18 : K.lookup f18 = some ⟨oc18, od18, .func (PySem.W.fnOf "_law_pick" "_law_pick" (defArgs s__law_pick) (defBody s__law_pick) (defScope s__law_pick) .none kV18 dc18 pm18 an18 cd18 ct18), sl18⟩) (c18 : PySem.W.codeIn K cd18 "_law_pick" = true) (k18 : PySem.W.keepIn K (.ref f18) = true)
    {f19 : Addr} {od19 an19 : Option Addr} {sl19 : Array (Option Value)} {oc19 kV19 dc19 pm19 cd19 ct19 : Value}
    (a19 : PySem.W.nsIn K mainGlobals "_law_words" = some (some (.ref f19))) (l19 : K.lookup f19 = some ⟨oc19, od19, .func (PySem.W.fnOf "_law_words" "_law_words" (defArgs s__law_words) (defBody s__law_words) (defScope s__law_words) .none kV19 dc19 pm19 an19 cd19 ct19), sl19⟩) (c19 : PySem.W.codeIn K cd19 "_law_words" = true) (k19 : PySem.W.keepIn K (.ref f19) = true)
    {f20 : Addr} {od20 an20 : Option Addr} {sl20 : Array (Option Value)} {oc20 kV20 dc20 pm20 cd20 ct20 : Value}
    (a20 : PySem.W.nsIn K mainGlobals "_law_times" = some (some (.ref f20))) (l20 : K.lookup f20 = some ⟨oc20, od20, .func (PySem.W.fnOf "_law_times" "_law_times" (defArgs s__law_times) (defBody s__law_times) (defScope s__law_times) .none kV20 dc20 pm20 an20 cd20 ct20), sl20⟩) (c20 : PySem.W.codeIn K cd20 "_law_times" = true) (k20 : PySem.W.keepIn K (.ref f20) = true)
    {f21 : Addr} {od21 an21 : Option Addr} {sl21 : Array (Option Value)} {oc21 kV21 dc21 pm21 cd21 ct21 : Value}
    (a21 : PySem.W.nsIn K mainGlobals "_law_put_together" = some (some (.ref f21))) (l21 : K.lookup f21 = some ⟨oc21, od21, .func (PySem.W.fnOf "_law_put_together" "_law_put_together" (defArgs s__law_put_together) (defBody s__law_put_together) (defScope s__law_put_together) .none kV21 dc21 pm21 an21 cd21 ct21), sl21⟩) (c21 : PySem.W.codeIn K cd21 "_law_put_together" = true) (k21 : PySem.W.keepIn K (.ref f21) = true)
    {f22 : Addr} {od22 an22 : Option Addr} {sl22 : Array (Option Value)} {oc22 kV22 dc22 pm22 cd22 ct22 : Value}
    (a22 : PySem.W.nsIn K mainGlobals "need_shape" = some (some (.ref f22))) (l22 : K.lookup f22 = some ⟨oc22, od22, .func (PySem.W.fnOf "need_shape" "need_shape" (defArgs s_need_shape) (defBody s_need_shape) (defScope s_need_shape) .none kV22 dc22 pm22 an22 cd22 ct22), sl22⟩) (c22 : PySem.W.codeIn K cd22 "need_shape" = true) (k22 : PySem.W.keepIn K (.ref f22) = true)
    {f23 : Addr} {od23 an23 : Option Addr} {sl23 : Array (Option Value)} {oc23 kV23 dc23 pm23 cd23 ct23 : Value}
    (a23 : PySem.W.nsIn K mainGlobals "need_modulus" = some (some (.ref f23))) (l23 : K.lookup f23 = some ⟨oc23, od23, .func (PySem.W.fnOf "need_modulus" "need_modulus" (defArgs s_need_modulus) (defBody s_need_modulus) (defScope s_need_modulus) .none kV23 dc23 pm23 an23 cd23 ct23), sl23⟩) (c23 : PySem.W.codeIn K cd23 "need_modulus" = true) (k23 : PySem.W.keepIn K (.ref f23) = true)
    {f24 : Addr} {od24 an24 : Option Addr} {sl24 : Array (Option Value)} {oc24 kV24 dc24 pm24 cd24 ct24 : Value}
    (a24 : PySem.W.nsIn K mainGlobals "is_number" = some (some (.ref f24))) (l24 : K.lookup f24 = some ⟨oc24, od24, .func (PySem.W.fnOf "is_number" "is_number" (defArgs s_is_number) (defBody s_is_number) (defScope s_is_number) .none kV24 dc24 pm24 an24 cd24 ct24), sl24⟩) (c24 : PySem.W.codeIn K cd24 "is_number" = true) (k24 : PySem.W.keepIn K (.ref f24) = true)
    {f25 : Addr} {od25 an25 : Option Addr} {sl25 : Array (Option Value)} {oc25 kV25 dc25 pm25 cd25 ct25 : Value}
    (a25 : PySem.W.nsIn K mainGlobals "_law_spread" = some (some (.ref f25))) (l25 : K.lookup f25 = some ⟨oc25, od25, .func (PySem.W.fnOf "_law_spread" "_law_spread" (defArgs s__law_spread) (defBody s__law_spread) (defScope s__law_spread) .none kV25 dc25 pm25 an25 cd25 ct25), sl25⟩) (c25 : PySem.W.codeIn K cd25 "_law_spread" = true) (k25 : PySem.W.keepIn K (.ref f25) = true)
    {f26 : Addr} {od26 an26 : Option Addr} {sl26 : Array (Option Value)} {oc26 kV26 dc26 pm26 cd26 ct26 : Value}
    (a26 : PySem.W.nsIn K mainGlobals "_law_shape" = some (some (.ref f26))) (l26 : K.lookup f26 = some ⟨oc26, od26, .func (PySem.W.fnOf "_law_shape" "_law_shape" (defArgs s__law_shape) (defBody s__law_shape) (defScope s__law_shape) .none kV26 dc26 pm26 an26 cd26 ct26), sl26⟩) (c26 : PySem.W.codeIn K cd26 "_law_shape" = true) (k26 : PySem.W.keepIn K (.ref f26) = true)
    {f27 : Addr} {od27 an27 : Option Addr} {sl27 : Array (Option Value)} {oc27 kV27 dc27 pm27 cd27 ct27 : Value}
    (a27 : PySem.W.nsIn K mainGlobals "_law_modulus" = some (some (.ref f27))) (l27 : K.lookup f27 = some ⟨oc27, od27, .func (PySem.W.fnOf "_law_modulus" "_law_modulus" (defArgs s__law_modulus) (defBody s__law_modulus) (defScope s__law_modulus) .none kV27 dc27 pm27 an27 cd27 ct27), sl27⟩) (c27 : PySem.W.codeIn K cd27 "_law_modulus" = true) (k27 : PySem.W.keepIn K (.ref f27) = true)
    {f28 : Addr} {od28 an28 : Option Addr} {sl28 : Array (Option Value)} {oc28 kV28 dc28 pm28 cd28 ct28 : Value}
    (a28 : PySem.W.nsIn K mainGlobals "_law_number" = some (some (.ref f28))) (l28 : K.lookup f28 = some ⟨oc28, od28, .func (PySem.W.fnOf "_law_number" "_law_number" (defArgs s__law_number) (defBody s__law_number) (defScope s__law_number) .none kV28 dc28 pm28 an28 cd28 ct28), sl28⟩) (c28 : PySem.W.codeIn K cd28 "_law_number" = true) (k28 : PySem.W.keepIn K (.ref f28) = true)
    {f29 : Addr} {od29 an29 : Option Addr} {sl29 : Array (Option Value)} {oc29 kV29 dc29 pm29 cd29 ct29 : Value}
    (a29 : PySem.W.nsIn K mainGlobals "_law_divisor" = some (some (.ref f29))) (l29 : K.lookup f29 = some ⟨oc29, od29, .func (PySem.W.fnOf "_law_divisor" "_law_divisor" (defArgs s__law_divisor) (defBody s__law_divisor) (defScope s__law_divisor) .none kV29 dc29 pm29 an29 cd29 ct29), sl29⟩) (c29 : PySem.W.codeIn K cd29 "_law_divisor" = true) (k29 : PySem.W.keepIn K (.ref f29) = true)
    {f30 : Addr} {od30 an30 : Option Addr} {sl30 : Array (Option Value)} {oc30 kV30 dc30 pm30 cd30 ct30 : Value}
    (a30 : PySem.W.nsIn K mainGlobals "is_lot" = some (some (.ref f30))) (l30 : K.lookup f30 = some ⟨oc30, od30, .func (PySem.W.fnOf "is_lot" "is_lot" (defArgs s_is_lot) (defBody s_is_lot) (defScope s_is_lot) .none kV30 dc30 pm30 an30 cd30 ct30), sl30⟩) (c30 : PySem.W.codeIn K cd30 "is_lot" = true) (k30 : PySem.W.keepIn K (.ref f30) = true)
    {f31 : Addr} {od31 an31 : Option Addr} {sl31 : Array (Option Value)} {oc31 kV31 dc31 pm31 cd31 ct31 : Value}
    (a31 : PySem.W.nsIn K mainGlobals "worlds" = some (some (.ref f31))) (l31 : K.lookup f31 = some ⟨oc31, od31, .func (PySem.W.fnOf "worlds" "worlds" (defArgs s_worlds) (defBody s_worlds) (defScope s_worlds) .none kV31 dc31 pm31 an31 cd31 ct31), sl31⟩) (c31 : PySem.W.codeIn K cd31 "worlds" = true) (k31 : PySem.W.keepIn K (.ref f31) = true)
    {f32 : Addr} {od32 an32 : Option Addr} {sl32 : Array (Option Value)} {oc32 kV32 dc32 pm32 cd32 ct32 : Value}
    (a32 : PySem.W.nsIn K mainGlobals "is_list_over" = some (some (.ref f32))) (l32 : K.lookup f32 = some ⟨oc32, od32, .func (PySem.W.fnOf "is_list_over" "is_list_over" (defArgs s_is_list_over) (defBody s_is_list_over) (defScope s_is_list_over) .none kV32 dc32 pm32 an32 cd32 ct32), sl32⟩) (c32 : PySem.W.codeIn K cd32 "is_list_over" = true) (k32 : PySem.W.keepIn K (.ref f32) = true)
    {f33 : Addr} {od33 an33 : Option Addr} {sl33 : Array (Option Value)} {oc33 kV33 dc33 pm33 cd33 ct33 : Value}
    (a33 : PySem.W.nsIn K mainGlobals "_law_total" = some (some (.ref f33))) (l33 : K.lookup f33 = some ⟨oc33, od33, .func (PySem.W.fnOf "_law_total" "_law_total" (defArgs s__law_total) (defBody s__law_total) (defScope s__law_total) .none kV33 dc33 pm33 an33 cd33 ct33), sl33⟩) (c33 : PySem.W.codeIn K cd33 "_law_total" = true) (k33 : PySem.W.keepIn K (.ref f33) = true)
    {f34 : Addr} {od34 an34 : Option Addr} {sl34 : Array (Option Value)} {oc34 kV34 dc34 pm34 cd34 ct34 : Value}
    (a34 : PySem.W.nsIn K mainGlobals "_law_entries" = some (some (.ref f34))) (l34 : K.lookup f34 = some ⟨oc34, od34, .func (PySem.W.fnOf "_law_entries" "_law_entries" (defArgs s__law_entries) (defBody s__law_entries) (defScope s__law_entries) .none kV34 dc34 pm34 an34 cd34 ct34), sl34⟩) (c34 : PySem.W.codeIn K cd34 "_law_entries" = true) (k34 : PySem.W.keepIn K (.ref f34) = true)
    {f35 : Addr} {od35 an35 : Option Addr} {sl35 : Array (Option Value)} {oc35 kV35 dc35 pm35 cd35 ct35 : Value}
    (a35 : PySem.W.nsIn K mainGlobals "need_lot" = some (some (.ref f35))) (l35 : K.lookup f35 = some ⟨oc35, od35, .func (PySem.W.fnOf "need_lot" "need_lot" (defArgs s_need_lot) (defBody s_need_lot) (defScope s_need_lot) .none kV35 dc35 pm35 an35 cd35 ct35), sl35⟩) (c35 : PySem.W.codeIn K cd35 "need_lot" = true) (k35 : PySem.W.keepIn K (.ref f35) = true)
    {f36 : Addr} {od36 an36 : Option Addr} {sl36 : Array (Option Value)} {oc36 kV36 dc36 pm36 cd36 ct36 : Value}
    (a36 : PySem.W.nsIn K mainGlobals "need_list" = some (some (.ref f36))) (l36 : K.lookup f36 = some ⟨oc36, od36, .func (PySem.W.fnOf "need_list" "need_list" (defArgs s_need_list) (defBody s_need_list) (defScope s_need_list) .none kV36 dc36 pm36 an36 cd36 ct36), sl36⟩) (c36 : PySem.W.codeIn K cd36 "need_list" = true) (k36 : PySem.W.keepIn K (.ref f36) = true)
    {f37 : Addr} {od37 an37 : Option Addr} {sl37 : Array (Option Value)} {oc37 kV37 dc37 pm37 cd37 ct37 : Value}
    (a37 : PySem.W.nsIn K mainGlobals "is_tuple_of_lots" = some (some (.ref f37))) (l37 : K.lookup f37 = some ⟨oc37, od37, .func (PySem.W.fnOf "is_tuple_of_lots" "is_tuple_of_lots" (defArgs s_is_tuple_of_lots) (defBody s_is_tuple_of_lots) (defScope s_is_tuple_of_lots) .none kV37 dc37 pm37 an37 cd37 ct37), sl37⟩) (c37 : PySem.W.codeIn K cd37 "is_tuple_of_lots" = true) (k37 : PySem.W.keepIn K (.ref f37) = true)
    {f38 : Addr} {od38 an38 : Option Addr} {sl38 : Array (Option Value)} {oc38 kV38 dc38 pm38 cd38 ct38 : Value}
    (a38 : PySem.W.nsIn K mainGlobals "are_lists_over" = some (some (.ref f38))) (l38 : K.lookup f38 = some ⟨oc38, od38, .func (PySem.W.fnOf "are_lists_over" "are_lists_over" (defArgs s_are_lists_over) (defBody s_are_lists_over) (defScope s_are_lists_over) .none kV38 dc38 pm38 an38 cd38 ct38), sl38⟩) (c38 : PySem.W.codeIn K cd38 "are_lists_over" = true) (k38 : PySem.W.keepIn K (.ref f38) = true)
    {f39 : Addr} {od39 an39 : Option Addr} {sl39 : Array (Option Value)} {oc39 kV39 dc39 pm39 cd39 ct39 : Value}
    (a39 : PySem.W.nsIn K mainGlobals "is_list" = some (some (.ref f39))) (l39 : K.lookup f39 = some ⟨oc39, od39, .func (PySem.W.fnOf "is_list" "is_list" (defArgs s_is_list) (defBody s_is_list) (defScope s_is_list) .none kV39 dc39 pm39 an39 cd39 ct39), sl39⟩) (c39 : PySem.W.codeIn K cd39 "is_list" = true) (k39 : PySem.W.keepIn K (.ref f39) = true)
    {f40 : Addr} {od40 an40 : Option Addr} {sl40 : Array (Option Value)} {oc40 kV40 dc40 pm40 cd40 ct40 : Value}
    (a40 : PySem.W.nsIn K mainGlobals "spread" = some (some (.ref f40))) (l40 : K.lookup f40 = some ⟨oc40, od40, .func (PySem.W.fnOf "spread" "spread" (defArgs s_spread) (defBody s_spread) (defScope s_spread) .none kV40 dc40 pm40 an40 cd40 ct40), sl40⟩) (c40 : PySem.W.codeIn K cd40 "spread" = true) (k40 : PySem.W.keepIn K (.ref f40) = true)
    {f41 : Addr} {od41 an41 : Option Addr} {sl41 : Array (Option Value)} {oc41 kV41 dc41 pm41 cd41 ct41 : Value}
    (a41 : PySem.W.nsIn K mainGlobals "total" = some (some (.ref f41))) (l41 : K.lookup f41 = some ⟨oc41, od41, .func (PySem.W.fnOf "total" "total" (defArgs s_total) (defBody s_total) (defScope s_total) .none kV41 dc41 pm41 an41 cd41 ct41), sl41⟩) (c41 : PySem.W.codeIn K cd41 "total" = true) (k41 : PySem.W.keepIn K (.ref f41) = true)
    {f42 : Addr} {od42 an42 : Option Addr} {sl42 : Array (Option Value)} {oc42 kV42 dc42 pm42 cd42 ct42 : Value}
    (a42 : PySem.W.nsIn K mainGlobals "_law_is_turned_right" = some (some (.ref f42))) (l42 : K.lookup f42 = some ⟨oc42, od42, .func (PySem.W.fnOf "_law_is_turned_right" "_law_is_turned_right" (defArgs s__law_is_turned_right) (defBody s__law_is_turned_right) (defScope s__law_is_turned_right) .none kV42 dc42 pm42 an42 cd42 ct42), sl42⟩) (c42 : PySem.W.codeIn K cd42 "_law_is_turned_right" = true) (k42 : PySem.W.keepIn K (.ref f42) = true)
    {f43 : Addr} {od43 an43 : Option Addr} {sl43 : Array (Option Value)} {oc43 kV43 dc43 pm43 cd43 ct43 : Value}
    (a43 : PySem.W.nsIn K mainGlobals "law" = some (some (.ref f43))) (l43 : K.lookup f43 = some ⟨oc43, od43, .func (PySem.W.fnOf "law" "law" (defArgs s_law) (defBody s_law) (defScope s_law) .none kV43 dc43 pm43 an43 cd43 ct43), sl43⟩) (c43 : PySem.W.codeIn K cd43 "law" = true) (k43 : PySem.W.keepIn K (.ref f43) = true)
    (z_all : PySem.W.nsIn K mainGlobals "all" = some none)
    (z_bool : PySem.W.nsIn K mainGlobals "bool" = some none)
    (z_dict : PySem.W.nsIn K mainGlobals "dict" = some none)
    (z_int : PySem.W.nsIn K mainGlobals "int" = some none)
    (z_isinstance : PySem.W.nsIn K mainGlobals "isinstance" = some none)
    (z_len : PySem.W.nsIn K mainGlobals "len" = some none)
    (z_list : PySem.W.nsIn K mainGlobals "list" = some none)
    (z_max : PySem.W.nsIn K mainGlobals "max" = some none)
    (z_range : PySem.W.nsIn K mainGlobals "range" = some none)
    (z_repr : PySem.W.nsIn K mainGlobals "repr" = some none)
    (z_sorted : PySem.W.nsIn K mainGlobals "sorted" = some none)
    (z_sum : PySem.W.nsIn K mainGlobals "sum" = some none)
    (z_tuple : PySem.W.nsIn K mainGlobals "tuple" = some none)
    (z_zip : PySem.W.nsIn K mainGlobals "zip" = some none)
    {t_MOST_PLACES : Tok} (g_MOST_PLACES : PySem.W.nsIn K mainGlobals "MOST_PLACES" = some (some (.int 4 t_MOST_PLACES)))
    {t_MOST_LETTERS : Tok} (g_MOST_LETTERS : PySem.W.nsIn K mainGlobals "MOST_LETTERS" = some (some (.int 4 t_MOST_LETTERS)))
    (math : ∀ s : Dk, s.left.length ≤ 63 → ∃ s', B_law (lawEnv 18) s = .ok (.rt (.bl true)) s') :
    ∃ fd : FuncData, (∀ (s : Shared) (v : Value), BindsTo s fd ⟨[v], []⟩ [("script", v)]) ∧ ∀ base : Heap, K.In base → base.Ns mainGlobals mg → FnG P w K mg base 8 fa fd ["script"] (spLaw K) := by
  have e := hfa.symm.trans (PySem.W.mg_of X G a43)
  cases e
  have T : Σ' T : Txt K mg, T.a_law = fa ∧ T.d_law = PySem.W.fnOf "law" "law" (defArgs s_law) (defBody s_law) (defScope s_law) .none kV43 dc43 pm43 an43 cd43 ct43 := ⟨{
    b_all := PySem.W.mg_none_of X G z_all
    b_bool := PySem.W.mg_none_of X G z_bool
    b_dict := PySem.W.mg_none_of X G z_dict
    b_int := PySem.W.mg_none_of X G z_int
    b_isinstance := PySem.W.mg_none_of X G z_isinstance
    b_len := PySem.W.mg_none_of X G z_len
    b_list := PySem.W.mg_none_of X G z_list
    b_max := PySem.W.mg_none_of X G z_max
    b_range := PySem.W.mg_none_of X G z_range
    b_repr := PySem.W.mg_none_of X G z_repr
    b_sorted := PySem.W.mg_none_of X G z_sorted
    b_sum := PySem.W.mg_none_of X G z_sum
    b_tuple := PySem.W.mg_none_of X G z_tuple
    b_zip := PySem.W.mg_none_of X G z_zip
    c_MOST_PLACES := ⟨_, PySem.W.mg_of X G g_MOST_PLACES⟩
    c_MOST_LETTERS := ⟨_, PySem.W.mg_of X G g_MOST_LETTERS⟩
    a_is_plain_integer := _
    d_is_plain_integer := _
    f_is_plain_integer := fun_mk (st := s_is_plain_integer) l0 c0 k0
    m_is_plain_integer := PySem.W.mg_of X G a0
    a_is_ascending := _
    d_is_ascending := _
    f_is_ascending := fun_mk (st := s_is_ascending) l1 c1 k1
    m_is_ascending := PySem.W.mg_of X G a1
    a_all_places := _
    d_all_places := _
    f_all_places := fun_mk (st := s_all_places) l2 c2 k2
    m_all_places := PySem.W.mg_of X G a2
    a_words_over := _
    d_words_over := _
    f_words_over := fun_mk (st := s_words_over) l3 c3 k3
    m_words_over := PySem.W.mg_of X G a3
    a_reduced := _
    d_reduced := _
    f_reduced := fun_mk (st := s_reduced) l4 c4 k4
    m_reduced := PySem.W.mg_of X G a4
    a_many_words := _
    d_many_words := _
    f_many_words := fun_mk (st := s_many_words) l5 c5 k5
    m_many_words := PySem.W.mg_of X G a5
    a_met_entry := _
    d_met_entry := _
    f_met_entry := fun_mk (st := s_met_entry) l6 c6 k6
    m_met_entry := PySem.W.mg_of X G a6
    a__law_deck := _
    d__law_deck := _
    f__law_deck := fun_mk (st := s__law_deck) l7 c7 k7
    m__law_deck := PySem.W.mg_of X G a7
    a__law_draw := _
    d__law_draw := _
    f__law_draw := fun_mk (st := s__law_draw) l8 c8 k8
    m__law_draw := PySem.W.mg_of X G a8
    a__law_by := _
    d__law_by := _
    f__law_by := fun_mk (st := s__law_by) l9 c9 k9
    m__law_by := PySem.W.mg_of X G a9
    a__law_worlds := _
    d__law_worlds := _
    f__law_worlds := fun_mk (st := s__law_worlds) l10 c10 k10
    m__law_worlds := PySem.W.mg_of X G a10
    a__law_word_of := _
    d__law_word_of := _
    f__law_word_of := fun_mk (st := s__law_word_of) l11 c11 k11
    m__law_word_of := PySem.W.mg_of X G a11
    a__law_lots := _
    d__law_lots := _
    f__law_lots := fun_mk (st := s__law_lots) l12 c12 k12
    m__law_lots := PySem.W.mg_of X G a12
    a_is_below := _
    d_is_below := _
    f_is_below := fun_mk (st := s_is_below) l13 c13 k13
    m_is_below := PySem.W.mg_of X G a13
    a_is_shape := _
    d_is_shape := _
    f_is_shape := fun_mk (st := s_is_shape) l14 c14 k14
    m_is_shape := PySem.W.mg_of X G a14
    a_is_modulus := _
    d_is_modulus := _
    f_is_modulus := fun_mk (st := s_is_modulus) l15 c15 k15
    m_is_modulus := PySem.W.mg_of X G a15
    a_met_sum := _
    d_met_sum := _
    f_met_sum := fun_mk (st := s_met_sum) l16 c16 k16
    m_met_sum := PySem.W.mg_of X G a16
    a__law_great := _
    d__law_great := _
    f__law_great := fun_mk (st := s__law_great) l17 c17 k17
    m__law_great := PySem.W.mg_of X G a17
    a__law_pick := _
    d__law_pick := _
    f__law_pick := fun_mk (st := s__law_pick) l18 c18 k18
    m__law_pick := PySem.W.mg_of X G a18
    a__law_words := _
    d__law_words := _
    f__law_words := fun_mk (st := s__law_words) l19 c19 k19
    m__law_words := PySem.W.mg_of X G a19
    a__law_times := _
    d__law_times := _
    f__law_times := fun_mk (st := s__law_times) l20 c20 k20
    m__law_times := PySem.W.mg_of X G a20
    a__law_put_together := _
    d__law_put_together := _
    f__law_put_together := fun_mk (st := s__law_put_together) l21 c21 k21
    m__law_put_together := PySem.W.mg_of X G a21
    a_need_shape := _
    d_need_shape := _
    f_need_shape := fun_mk (st := s_need_shape) l22 c22 k22
    m_need_shape := PySem.W.mg_of X G a22
    a_need_modulus := _
    d_need_modulus := _
    f_need_modulus := fun_mk (st := s_need_modulus) l23 c23 k23
    m_need_modulus := PySem.W.mg_of X G a23
    a_is_number := _
    d_is_number := _
    f_is_number := fun_mk (st := s_is_number) l24 c24 k24
    m_is_number := PySem.W.mg_of X G a24
    a__law_spread := _
    d__law_spread := _
    f__law_spread := fun_mk (st := s__law_spread) l25 c25 k25
    m__law_spread := PySem.W.mg_of X G a25
    a__law_shape := _
    d__law_shape := _
    f__law_shape := fun_mk (st := s__law_shape) l26 c26 k26
    m__law_shape := PySem.W.mg_of X G a26
    a__law_modulus := _
    d__law_modulus := _
    f__law_modulus := fun_mk (st := s__law_modulus) l27 c27 k27
    m__law_modulus := PySem.W.mg_of X G a27
    a__law_number := _
    d__law_number := _
    f__law_number := fun_mk (st := s__law_number) l28 c28 k28
    m__law_number := PySem.W.mg_of X G a28
    a__law_divisor := _
    d__law_divisor := _
    f__law_divisor := fun_mk (st := s__law_divisor) l29 c29 k29
    m__law_divisor := PySem.W.mg_of X G a29
    a_is_lot := _
    d_is_lot := _
    f_is_lot := fun_mk (st := s_is_lot) l30 c30 k30
    m_is_lot := PySem.W.mg_of X G a30
    a_worlds := _
    d_worlds := _
    f_worlds := fun_mk (st := s_worlds) l31 c31 k31
    m_worlds := PySem.W.mg_of X G a31
    a_is_list_over := _
    d_is_list_over := _
    f_is_list_over := fun_mk (st := s_is_list_over) l32 c32 k32
    m_is_list_over := PySem.W.mg_of X G a32
    a__law_total := _
    d__law_total := _
    f__law_total := fun_mk (st := s__law_total) l33 c33 k33
    m__law_total := PySem.W.mg_of X G a33
    a__law_entries := _
    d__law_entries := _
    f__law_entries := fun_mk (st := s__law_entries) l34 c34 k34
    m__law_entries := PySem.W.mg_of X G a34
    a_need_lot := _
    d_need_lot := _
    f_need_lot := fun_mk (st := s_need_lot) l35 c35 k35
    m_need_lot := PySem.W.mg_of X G a35
    a_need_list := _
    d_need_list := _
    f_need_list := fun_mk (st := s_need_list) l36 c36 k36
    m_need_list := PySem.W.mg_of X G a36
    a_is_tuple_of_lots := _
    d_is_tuple_of_lots := _
    f_is_tuple_of_lots := fun_mk (st := s_is_tuple_of_lots) l37 c37 k37
    m_is_tuple_of_lots := PySem.W.mg_of X G a37
    a_are_lists_over := _
    d_are_lists_over := _
    f_are_lists_over := fun_mk (st := s_are_lists_over) l38 c38 k38
    m_are_lists_over := PySem.W.mg_of X G a38
    a_is_list := _
    d_is_list := _
    f_is_list := fun_mk (st := s_is_list) l39 c39 k39
    m_is_list := PySem.W.mg_of X G a39
    a_spread := _
    d_spread := _
    f_spread := fun_mk (st := s_spread) l40 c40 k40
    m_spread := PySem.W.mg_of X G a40
    a_total := _
    d_total := _
    f_total := fun_mk (st := s_total) l41 c41 k41
    m_total := PySem.W.mg_of X G a41
    a__law_is_turned_right := _
    d__law_is_turned_right := _
    f__law_is_turned_right := fun_mk (st := s__law_is_turned_right) l42 c42 k42
    m__law_is_turned_right := PySem.W.mg_of X G a42
    a_law := _
    d_law := _
    f_law := fun_mk (st := s_law) l43 c43 k43
    m_law := PySem.W.mg_of X G a43
  }, rfl, rfl⟩
  obtain ⟨T, e1, e2⟩ := T
  refine ⟨T.d_law, fun s v => ?_, fun base _ _ => ?_⟩
  · rw [e2]; exact .of_eq rfl
  · rw [← e1]; exact ok_law T math
end
end K04

end

section
open PySem PySem.W PyProof.Rows
set_option maxRecDepth 100000 in
set_option maxHeartbeats 0 in
theorem PySem.Challenge.cw_sightsums_k04_whole_totals_of_lists_holds : PySem.Challenge.rw_sightsums_k04_whole_totals_of_lists.Holds := by
  w_on; o_law; k_head; (case hw => w_witness2)
  k_fill
  refine PV.walkG (l := PySem.Challenge.rw_sightsums_k04_whole_totals_of_lists) (k := 8) rfl rfl ⟨rfl, by decide, by decide⟩ (fun w h Y => PySem.W.kIn_of Y) ?F
  case F =>
    intro w mg fa h KX G hmg
    refine' K04.all_mk KX G hmg ?a0 ?l0 ?c0 ?k0 ?a1 ?l1 ?c1 ?k1 ?a2 ?l2 ?c2 ?k2 ?a3 ?l3 ?c3 ?k3 ?a4 ?l4 ?c4 ?k4 ?a5 ?l5 ?c5 ?k5 ?a6 ?l6 ?c6 ?k6 ?a7 ?l7 ?c7 ?k7 ?a8 ?l8 ?c8 ?k8 ?a9 ?l9 ?c9 ?k9 ?a10 ?l10 ?c10 ?k10 ?a11 ?l11 ?c11 ?k11 ?a12 ?l12 ?c12 ?k12 ?a13 ?l13 ?c13 ?k13 ?a14 ?l14 ?c14 ?k14 ?a15 ?l15 ?c15 ?k15 ?a16 ?l16 ?c16 ?k16 ?a17 ?l17 ?c17 ?k17 ?a18 ?l18 ?c18 ?k18 ?a19 ?l19 ?c19 ?k19 ?a20 ?l20 ?c20 ?k20 ?a21 ?l21 ?c21 ?k21 ?a22 ?l22 ?c22 ?k22 ?a23 ?l23 ?c23 ?k23 ?a24 ?l24 ?c24 ?k24 ?a25 ?l25 ?c25 ?k25 ?a26 ?l26 ?c26 ?k26 ?a27 ?l27 ?c27 ?k27 ?a28 ?l28 ?c28 ?k28 ?a29 ?l29 ?c29 ?k29 ?a30 ?l30 ?c30 ?k30 ?a31 ?l31 ?c31 ?k31 ?a32 ?l32 ?c32 ?k32 ?a33 ?l33 ?c33 ?k33 ?a34 ?l34 ?c34 ?k34 ?a35 ?l35 ?c35 ?k35 ?a36 ?l36 ?c36 ?k36 ?a37 ?l37 ?c37 ?k37 ?a38 ?l38 ?c38 ?k38 ?a39 ?l39 ?c39 ?k39 ?a40 ?l40 ?c40 ?k40 ?a41 ?l41 ?c41 ?k41 ?a42 ?l42 ?c42 ?k42 ?a43 ?l43 ?c43 ?k43 ?z_all ?z_bool ?z_dict ?z_int ?z_isinstance ?z_len ?z_list ?z_max ?z_range ?z_repr ?z_sorted ?z_sum ?z_tuple ?z_zip ?g_MOST_PLACES ?g_MOST_LETTERS K04.math
    (case a0 => k_is)
    (case l0 => k_is)
    (case c0 => k_is)
    (case k0 => k_is)
    (case a1 => k_is)
    (case l1 => k_is)
    (case c1 => k_is)
    (case k1 => k_is)
    (case a2 => k_is)
    (case l2 => k_is)
    (case c2 => k_is)
    (case k2 => k_is)
    (case a3 => k_is)
    (case l3 => k_is)
    (case c3 => k_is)
    (case k3 => k_is)
    (case a4 => k_is)
    (case l4 => k_is)
    (case c4 => k_is)
    (case k4 => k_is)
    (case a5 => k_is)
    (case l5 => k_is)
    (case c5 => k_is)
    (case k5 => k_is)
    (case a6 => k_is)
    (case l6 => k_is)
    (case c6 => k_is)
    (case k6 => k_is)
    (case a7 => k_is)
    (case l7 => k_is)
    (case c7 => k_is)
    (case k7 => k_is)
    (case a8 => k_is)
    (case l8 => k_is)
    (case c8 => k_is)
    (case k8 => k_is)
    (case a9 => k_is)
    (case l9 => k_is)
    (case c9 => k_is)
    (case k9 => k_is)
    (case a10 => k_is)
    (case l10 => k_is)
    (case c10 => k_is)
    (case k10 => k_is)
    (case a11 => k_is)
    (case l11 => k_is)
    (case c11 => k_is)
    (case k11 => k_is)
    (case a12 => k_is)
    (case l12 => k_is)
    (case c12 => k_is)
    (case k12 => k_is)
    (case a13 => k_is)
    (case l13 => k_is)
    (case c13 => k_is)
    (case k13 => k_is)
    (case a14 => k_is)
    (case l14 => k_is)
    (case c14 => k_is)
    (case k14 => k_is)
    (case a15 => k_is)
    (case l15 => k_is)
    (case c15 => k_is)
    (case k15 => k_is)
    (case a16 => k_is)
    (case l16 => k_is)
    (case c16 => k_is)
    (case k16 => k_is)
    (case a17 => k_is)
    (case l17 => k_is)
    (case c17 => k_is)
    (case k17 => k_is)
    (case a18 => k_is)
    (case l18 => k_is)
    (case c18 => k_is)
    (case k18 => k_is)
    (case a19 => k_is)
    (case l19 => k_is)
    (case c19 => k_is)
    (case k19 => k_is)
    (case a20 => k_is)
    (case l20 => k_is)
    (case c20 => k_is)
    (case k20 => k_is)
    (case a21 => k_is)
    (case l21 => k_is)
    (case c21 => k_is)
    (case k21 => k_is)
    (case a22 => k_is)
    (case l22 => k_is)
    (case c22 => k_is)
    (case k22 => k_is)
    (case a23 => k_is)
    (case l23 => k_is)
    (case c23 => k_is)
    (case k23 => k_is)
    (case a24 => k_is)
    (case l24 => k_is)
    (case c24 => k_is)
    (case k24 => k_is)
    (case a25 => k_is)
    (case l25 => k_is)
    (case c25 => k_is)
    (case k25 => k_is)
    (case a26 => k_is)
    (case l26 => k_is)
    (case c26 => k_is)
    (case k26 => k_is)
    (case a27 => k_is)
    (case l27 => k_is)
    (case c27 => k_is)
    (case k27 => k_is)
    (case a28 => k_is)
    (case l28 => k_is)
    (case c28 => k_is)
    (case k28 => k_is)
    (case a29 => k_is)
    (case l29 => k_is)
    (case c29 => k_is)
    (case k29 => k_is)
    (case a30 => k_is)
    (case l30 => k_is)
    (case c30 => k_is)
    (case k30 => k_is)
    (case a31 => k_is)
    (case l31 => k_is)
    (case c31 => k_is)
    (case k31 => k_is)
    (case a32 => k_is)
    (case l32 => k_is)
    (case c32 => k_is)
    (case k32 => k_is)
    (case a33 => k_is)
    (case l33 => k_is)
    (case c33 => k_is)
    (case k33 => k_is)
    (case a34 => k_is)
    (case l34 => k_is)
    (case c34 => k_is)
    (case k34 => k_is)
    (case a35 => k_is)
    (case l35 => k_is)
    (case c35 => k_is)
    (case k35 => k_is)
    (case a36 => k_is)
    (case l36 => k_is)
    (case c36 => k_is)
    (case k36 => k_is)
    (case a37 => k_is)
    (case l37 => k_is)
    (case c37 => k_is)
    (case k37 => k_is)
    (case a38 => k_is)
    (case l38 => k_is)
    (case c38 => k_is)
    (case k38 => k_is)
    (case a39 => k_is)
    (case l39 => k_is)
    (case c39 => k_is)
    (case k39 => k_is)
    (case a40 => k_is)
    (case l40 => k_is)
    (case c40 => k_is)
    (case k40 => k_is)
    (case a41 => k_is)
    (case l41 => k_is)
    (case c41 => k_is)
    (case k41 => k_is)
    (case a42 => k_is)
    (case l42 => k_is)
    (case c42 => k_is)
    (case k42 => k_is)
    (case a43 => k_is)
    (case l43 => k_is)
    (case c43 => k_is)
    (case k43 => k_is)
    (case z_all => k_is)
    (case z_bool => k_is)
    (case z_dict => k_is)
    (case z_int => k_is)
    (case z_isinstance => k_is)
    (case z_len => k_is)
    (case z_list => k_is)
    (case z_max => k_is)
    (case z_range => k_is)
    (case z_repr => k_is)
    (case z_sorted => k_is)
    (case z_sum => k_is)
    (case z_tuple => k_is)
    (case z_zip => k_is)
    (case g_MOST_PLACES => k_is)
    (case g_MOST_LETTERS => k_is)

end
