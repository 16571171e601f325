import PyProof.Rows.All
import Wide.All
import OpenK.AllK
import Wide.FinOn
import HandS.ForMost
import HandS.IsInst
import HandS.StrMore
import HandS.TupAny
import HandS.Flow
import HandS.Style
import HandS.FStr
import HandS.List
import HandS.Star
import PyProof.ReprRoads
import HandS.Zip
import KE.KDictZip
import HandS.More
import HandS.SortRule
import HandS.Dict
import PySem.Challenge.RW_circlekeep_k03_pieces_texts_names
import PyProof.ReprText
set_option Elab.async false
set_option linter.all false
set_option maxRecDepth 100000
set_option maxHeartbeats 4000000
set_option autoImplicit false
/-! TL0: trees, what stands for a tree, the state of a body told by trees. -/
namespace L2.TL
open PySem PySem.Spec
open PyProof.Rows
/-- what a value is, without places -/
inductive T where
  | non | bl (b : Bool) | int (i : Int) | str (x : Str)
  | tup (ts : List T) | lst (ts : List T) | dct (ps : List (Key × T)) | ins (C : Addr) (fs : List (Str × T)) | adr (a : Addr)
mutual
/-- the value v stands for the tree, all its parts lying in the lasting heap I -/
def Is (K : PySem.W.Frag) (I : Hp) : T → V → Prop
  | .non, v => v = .non
  | .bl b, v => v = .bl b
  | .int i, v => v = .int i
  | .str x, v => v = .str x
  | .tup ts, v => ∃ a xs, v = .ref a ∧ SqT K I a xs ∧ IsL K I ts xs
  | .lst ts, v => ∃ a xs, v = .ref a ∧ I a = some (.lst xs) ∧ IsL K I ts xs
  | .dct ps, v => ∃ a xs, v = .ref a ∧ I a = some (.dK xs) ∧ IsD K I ps xs
  | .ins C fs, v => ∃ a dx xs, v = .ref a ∧ I a = some (.ins C dx xs) ∧ IsF K I fs xs
  | .adr a, v => v = .ref a
def IsL (K : PySem.W.Frag) (I : Hp) : List T → List V → Prop
  | [], xs => xs = []
  | t :: ts, xs => ∃ x r, xs = x :: r ∧ Is K I t x ∧ IsL K I ts r
def IsD (K : PySem.W.Frag) (I : Hp) : List (Key × T) → List (Key × V) → Prop
  | [], xs => xs = []
  | (k, t) :: ts, xs => ∃ x r, xs = (k, x) :: r ∧ Is K I t x ∧ IsD K I ts r
def IsF (K : PySem.W.Frag) (I : Hp) : List (Str × T) → List (Str × V) → Prop
  | [], xs => xs = []
  | (k, t) :: ts, xs => ∃ x r, xs = (k, x) :: r ∧ Is K I t x ∧ IsF K I ts r
end
theorem sqt_mono {K : PySem.W.Frag} {I I' : Hp} {a : Addr} {xs : List V} (m : Same I I') (h : SqT K I a xs) : SqT K I' a xs := by
  rcases h with (h | ⟨o, h⟩) | h
  · exact .inl (.inl (m _ _ h))
  · exact .inl (.inr ⟨o, m _ _ h⟩)
  · exact .inr h
section
variable {K : PySem.W.Frag} {I I' : Hp}
mutual
theorem Is.mono (m : Same I I') : ∀ {t : T} {v : V}, Is K I t v → Is K I' t v
  | .non, _, h => h
  | .bl _, _, h => h
  | .int _, _, h => h
  | .str _, _, h => h
  | .tup _, _, h => by
    obtain ⟨a, xs, e, q, r⟩ := h
    exact ⟨a, xs, e, sqt_mono m q, IsL.mono m r⟩
  | .lst _, _, h => by
    obtain ⟨a, xs, e, q, r⟩ := h
    exact ⟨a, xs, e, m _ _ q, IsL.mono m r⟩
  | .dct _, _, h => by
    obtain ⟨a, xs, e, q, r⟩ := h
    exact ⟨a, xs, e, m _ _ q, IsD.mono m r⟩
  | .ins _ _, _, h => by
    obtain ⟨a, dx, xs, e, q, r⟩ := h
    exact ⟨a, dx, xs, e, m _ _ q, IsF.mono m r⟩
  | .adr _, _, h => h
theorem IsL.mono (m : Same I I') : ∀ {ts : List T} {xs : List V}, IsL K I ts xs → IsL K I' ts xs
  | [], _, h => h
  | _ :: _, _, h => by
    obtain ⟨x, r, e, q, z⟩ := h
    exact ⟨x, r, e, Is.mono m q, IsL.mono m z⟩
theorem IsD.mono (m : Same I I') : ∀ {ts : List (Key × T)} {xs : List (Key × V)}, IsD K I ts xs → IsD K I' ts xs
  | [], _, h => h
  | (_, _) :: _, _, h => by
    obtain ⟨x, r, e, q, z⟩ := h
    exact ⟨x, r, e, Is.mono m q, IsD.mono m z⟩
theorem IsF.mono (m : Same I I') : ∀ {ts : List (Str × T)} {xs : List (Str × V)}, IsF K I ts xs → IsF K I' ts xs
  | [], _, h => h
  | (_, _) :: _, _, h => by
    obtain ⟨x, r, e, q, z⟩ := h
    exact ⟨x, r, e, Is.mono m q, IsF.mono m z⟩
end
theorem IsL.nil : IsL K I [] [] := by
  show ([] : List V) = []
  rfl
theorem IsL.cons {t : T} {ts : List T} {x : V} {xs : List V} (h : Is K I t x) (r : IsL K I ts xs) : IsL K I (t :: ts) (x :: xs) := ⟨x, xs, rfl, h, r⟩
theorem IsL.len : ∀ {ts : List T} {xs : List V}, IsL K I ts xs → xs.length = ts.length
  | [], _, h => by
    have h : _ = [] := h
    rw [h]; rfl
  | _ :: _, _, h => by
    obtain ⟨x, r, rfl, _, z⟩ := h
    rw [List.length_cons, List.length_cons, IsL.len z]
theorem IsL.app : ∀ {ts us : List T} {xs ys : List V}, IsL K I ts xs → IsL K I us ys → IsL K I (ts ++ us) (xs ++ ys)
  | [], _, _, _, h, g => by
    have h : _ = [] := h
    subst h
    exact g
  | _ :: _, _, _, _, h, g => by
    obtain ⟨x, r, rfl, q, z⟩ := h
    exact ⟨x, _, rfl, q, IsL.app z g⟩
theorem IsL.at : ∀ {ts : List T} {xs : List V} {i : Nat} {t : T}, IsL K I ts xs → ts[i]? = some t → ∃ x, xs[i]? = some x ∧ Is K I t x
  | [], _, _, _, _, e => by simp at e
  | _ :: _, _, 0, _, h, e => by
    obtain ⟨x, r, rfl, q, z⟩ := h
    simp at e
    subst e
    exact ⟨x, rfl, q⟩
  | _ :: _, _, i + 1, _, h, e => by
    obtain ⟨x, r, rfl, q, z⟩ := h
    obtain ⟨y, e1, e2⟩ := IsL.at (i := i) z (by simpa using e)
    exact ⟨y, by simpa using e1, e2⟩
theorem IsL.atV {ts : List T} {xs : List V} {i : Nat} {x : V} (h : IsL K I ts xs) (e : xs[i]? = some x) : ∃ t, ts[i]? = some t ∧ Is K I t x := by
  have hi : i < ts.length := by
    rw [← h.len]
    exact (List.getElem?_eq_some_iff.mp e).1
  obtain ⟨y, e1, e2⟩ := h.at (List.getElem?_eq_getElem hi)
  rw [e] at e1
  cases e1
  exact ⟨_, List.getElem?_eq_getElem hi, e2⟩
theorem IsL.take : ∀ {ts : List T} {xs : List V} (n : Nat), IsL K I ts xs → IsL K I (ts.take n) (xs.take n)
  | _, _, 0, _ => by
    simp only [List.take_zero]
    exact IsL.nil
  | [], _, _ + 1, h => by
    have h : _ = [] := h
    subst h
    exact IsL.nil
  | _ :: _, _, n + 1, h => by
    obtain ⟨x, r, rfl, q, z⟩ := h
    exact ⟨x, _, rfl, q, IsL.take n z⟩
theorem IsL.drop : ∀ {ts : List T} {xs : List V} (n : Nat), IsL K I ts xs → IsL K I (ts.drop n) (xs.drop n)
  | _, _, 0, h => h
  | [], _, _ + 1, h => by
    have h : _ = [] := h
    subst h
    exact IsL.nil
  | _ :: _, _, n + 1, h => by
    obtain ⟨x, r, rfl, q, z⟩ := h
    exact IsL.drop n z
theorem IsL.dropLast {ts : List T} {xs : List V} (h : IsL K I ts xs) : IsL K I ts.dropLast xs.dropLast := by
  rw [List.dropLast_eq_take, List.dropLast_eq_take, h.len]
  exact h.take _
theorem IsL.rev : ∀ {ts : List T} {xs : List V}, IsL K I ts xs → IsL K I ts.reverse xs.reverse
  | [], _, h => by
    have h : _ = [] := h
    subst h
    exact IsL.nil
  | _ :: _, _, h => by
    obtain ⟨x, r, rfl, q, z⟩ := h
    rw [List.reverse_cons, List.reverse_cons]
    exact IsL.app (IsL.rev z) (IsL.cons q IsL.nil)
theorem IsL.erase : ∀ {ts : List T} {xs : List V} (n : Nat), IsL K I ts xs → IsL K I (ts.eraseIdx n) (xs.eraseIdx n)
  | [], _, _, h => by
    have h : _ = [] := h
    subst h
    exact IsL.nil
  | _ :: _, _, 0, h => by
    obtain ⟨x, r, rfl, q, z⟩ := h
    exact z
  | _ :: _, _, n + 1, h => by
    obtain ⟨x, r, rfl, q, z⟩ := h
    exact ⟨x, _, rfl, q, IsL.erase n z⟩
theorem IsL.strs : ∀ {ss : List Str} {xs : List V}, IsL K I (ss.map T.str) xs → xs = ss.map V.str
  | [], _, h => h
  | _ :: _, _, h => by
    obtain ⟨x, r, rfl, q, z⟩ := h
    have q : x = _ := q
    subst q
    rw [IsL.strs z]
    rfl
theorem IsL.ofStrs : ∀ (ss : List Str), IsL K I (ss.map T.str) (ss.map V.str)
  | [] => IsL.nil
  | _ :: ss => IsL.cons rfl (IsL.ofStrs ss)
theorem IsL.one {t : T} {xs : List V} (h : IsL K I [t] xs) : ∃ x, xs = [x] ∧ Is K I t x := by
  obtain ⟨x, r, rfl, q, z⟩ := h
  have z : r = [] := z
  subst z
  exact ⟨x, rfl, q⟩
theorem IsL.two {t u : T} {xs : List V} (h : IsL K I [t, u] xs) : ∃ x y, xs = [x, y] ∧ Is K I t x ∧ Is K I u y := by
  obtain ⟨x, r, rfl, q, z⟩ := h
  obtain ⟨y, rfl, q2⟩ := z.one
  exact ⟨x, y, rfl, q, q2⟩
theorem IsL.zero {xs : List V} (h : IsL K I [] xs) : xs = [] := h
/-- what an object holds, by its tree -/
def Cn (K : PySem.W.Frag) (I : Hp) (t : T) (o : HO) : Prop :=
  match t, o with
  | .lst ts, .lst xs => IsL K I ts xs
  | .dct ps, .dK xs => IsD K I ps xs
  | .ins C fs, .ins C' _ xs => C = C' ∧ IsF K I fs xs
  | _, _ => False
theorem Cn.mono (m : Same I I') {t : T} {o : HO} (h : Cn K I t o) : Cn K I' t o := by
  cases t <;> cases o <;> first | exact h.elim | exact IsL.mono m h | exact IsD.mono m h | exact ⟨h.1, IsF.mono m h.2⟩
/-- an object that lasts from now on stands for its tree -/
theorem Cn.is {t : T} {o : HO} {a : Addr} (h : Cn K I t o) (e : I a = some o) : Is K I t (.ref a) := by
  cases t <;> cases o <;> first
    | exact h.elim
    | exact ⟨a, _, rfl, e, h⟩
    | (obtain ⟨rfl, h⟩ := h; exact ⟨a, _, _, rfl, e, h⟩)
theorem Cn.lst {ts : List T} {o : HO} (h : Cn K I (.lst ts) o) : ∃ xs, o = .lst xs ∧ IsL K I ts xs := by
  cases o <;> first | exact h.elim | exact ⟨_, rfl, h⟩
end
/-! ### the state -/
/-- what stands in a slot: nothing known; a lasting tree; an object that is this slot's alone -/
inductive SV where
  | un | im (t : T) | ow (t : T)
/-- a resource that is handed on (a deck, a ledger): its states, the places that it owns, what stands there -/
structure Res where
  S : Type
  F : Addr → Prop
  R : S → Hp → Hp → Prop
  dom : ∀ s I H p, R s I H → F p → ∃ o, H p = some o
  loc : ∀ s I H I' H', R s I H → Same I I' → (∀ p, F p → H' p = H p) → R s I' H'
/-- none -/
def Z0 : Res where
  S := Unit
  F := fun _ => False
  R := fun _ _ _ => True
  dom := fun _ _ _ _ _ h => h.elim
  loc := fun _ _ _ _ _ _ _ _ => trivial
/-- the lasting heap I within H; G: what others own, left alone -/
structure Rep0 (Z : Res) (G I H : Hp) (s : Z.S) : Prop where
  sub : Same I H
  res : Z.R s I H
  rf : ∀ p, Z.F p → I p = none ∧ G p = none
  fr : ∀ p o, G p = some o → I p = none ∧ H p = some o
structure Rep (K : PySem.W.Frag) (Z : Res) (G I H : Hp) (σ : St) (τ : List SV) (s : Z.S) : Prop extends Rep0 Z G I H s where
  len : σ.length = τ.length
  im : ∀ (i : Nat) (t : T), τ[i]? = some (SV.im t) → ∃ v : V, σ[i]? = some (some v) ∧ Is K I t v
  ow : ∀ (i : Nat) (t : T), τ[i]? = some (SV.ow t) → ∃ (p : Addr) (o : HO), σ[i]? = some (some (V.ref p)) ∧ I p = none ∧ G p = none ∧ ¬ Z.F p ∧ H p = some o ∧ Cn K I t o
  inj : ∀ (i j : Nat) (t u : T) (p : Addr), i ≠ j → τ[i]? = some (SV.ow t) → τ[j]? = some (SV.ow u) → σ[i]? = some (some (V.ref p)) → σ[j]? ≠ some (some (V.ref p))
/-- what a step does to heaps: the lasting one grows, what is owned (but the resource's) stands -/
structure Ext (F : Addr → Prop) (I H I' H' : Hp) : Prop where
  im : Same I I'
  sub : Same I' H'
  own : ∀ p o, I p = none → ¬ F p → H p = some o → I' p = none ∧ H' p = some o
  nof : ∀ p, F p → I p = none → I' p = none
theorem Ext.refl {F : Addr → Prop} {I H : Hp} (h : Same I H) : Ext F I H I H := ⟨Same.refl _, h, fun _ _ a _ b => ⟨a, b⟩, fun _ _ h => h⟩
theorem Ext.trans {F : Addr → Prop} {I H I1 H1 I2 H2 : Hp} (a : Ext F I H I1 H1) (b : Ext F I1 H1 I2 H2) : Ext F I H I2 H2 :=
  ⟨a.im.trans b.im, b.sub, fun p o h1 h2 h3 => let ⟨q1, q2⟩ := a.own p o h1 h2 h3; b.own p o q1 h2 q2, fun p h1 h2 => b.nof p h1 (a.nof p h1 h2)⟩
section
variable {K : PySem.W.Frag} {Z : Res} {G I H I' H' : Hp} {σ : St} {τ : List SV} {s s' : Z.S}
theorem Rep0.ext (r : Rep0 Z G I H s) (e : Ext Z.F I H I' H') (q : Z.R s' I' H') : Rep0 Z G I' H' s' :=
  ⟨e.sub, q, fun p hp => ⟨e.nof p hp (r.rf p hp).1, (r.rf p hp).2⟩, fun p o hp => by
    have nf : ¬ Z.F p := fun z => by
      rw [(r.rf p z).2] at hp
      cases hp
    obtain ⟨a, b⟩ := r.fr p o hp
    exact e.own p o a nf b⟩
theorem Rep.ext (r : Rep K Z G I H σ τ s) (e : Ext Z.F I H I' H') (q : Z.R s' I' H') : Rep K Z G I' H' σ τ s' := by
  refine ⟨r.toRep0.ext e q, r.len, fun i t h => ?_, fun i t h => ?_, r.inj⟩
  · obtain ⟨v, h1, h2⟩ := r.im i t h
    exact ⟨v, h1, h2.mono e.im⟩
  · obtain ⟨p, o, h1, h2, h3, h4, h5, h6⟩ := r.ow i t h
    obtain ⟨a, b⟩ := e.own p o h2 h4 h5
    exact ⟨p, o, h1, a, h3, h4, b, h6.mono e.im⟩
/-- nothing of the resource is touched -/
theorem Rep.extN (r : Rep K Z G I H σ τ s) (e : Ext (fun _ => False) I H I' H') : Rep K Z G I' H' σ τ s := by
  have hF : ∀ p, Z.F p → I' p = none ∧ H' p = H p := fun p hp => by
    obtain ⟨o, ho⟩ := Z.dom s I H p r.res hp
    obtain ⟨a, b⟩ := e.own p o (r.rf p hp).1 (fun z => z) ho
    exact ⟨a, by rw [b, ho]⟩
  exact r.ext ⟨e.im, e.sub, fun p o a _ b => e.own p o a (fun z => z) b, fun p hp _ => (hF p hp).1⟩ (Z.loc s I H I' H' r.res e.im fun p hp => (hF p hp).2)
theorem Rep.ext' (r : Rep K Z G I H σ τ s) (e : Ext Z.F I H I' H') (q : Z.R s' I' H') : Same I I' ∧ Rep K Z G I' H' σ τ s' := ⟨e.im, r.ext e q⟩
/-- a new object, lasting -/
theorem ext_new {F : Addr → Prop} {p : Addr} {o : HO} (hs : Same I H) (hp : H p = none) (hF : ¬ F p) : Ext F I H (upd I p o) (upd H p o) := by
  have hI : I p = none := hs.free hp
  refine ⟨fun b u e => by rw [upd_ne (ne_of_none e hI)]; exact e, fun b u e => ?_, fun b u h1 h2 h3 => ?_, fun b h1 h2 => by rw [upd_ne (show b ≠ p from fun z => hF (by rw [← z]; exact h1))]; exact h2⟩
  · by_cases hb : b = p
    · subst hb
      rw [upd_same] at e ⊢
      exact e
    · rw [upd_ne hb] at e ⊢
      exact hs b u e
  · have hb : b ≠ p := ne_of_none h3 hp
    rw [upd_ne hb, upd_ne hb]
    exact ⟨h1, h3⟩
/-- a new object, owned -/
theorem ext_newO {F : Addr → Prop} {p : Addr} {o : HO} (hs : Same I H) (hp : H p = none) : Ext F I H I (upd H p o) :=
  ⟨Same.refl _, fun b u e => by rw [upd_ne (ne_of_none (hs b u e) hp)]; exact hs b u e, fun b u h1 _ h3 => ⟨h1, by rw [upd_ne (ne_of_none h3 hp)]; exact h3⟩, fun _ _ h => h⟩
theorem Rep0.nF {p : Addr} (r : Rep0 Z G I H s) (hp : H p = none) : ¬ Z.F p := fun z => by
  obtain ⟨o, e⟩ := Z.dom s I H p r.res z
  rw [hp] at e
  cases e
theorem Rep0.nG {p : Addr} (r : Rep0 Z G I H s) (hp : H p = none) : G p = none := by
  cases e : G p with
  | none => rfl
  | some o =>
    have q := (r.fr p o e).2
    rw [hp] at q
    cases q
/-- a new object is laid, it lasts -/
theorem Rep.new {p : Addr} {o : HO} (r : Rep K Z G I H σ τ s) (hp : H p = none) : Same I (upd I p o) ∧ Rep K Z G (upd I p o) (upd H p o) σ τ s := by
  have e : Ext (fun _ => False) I H (upd I p o) (upd H p o) := ext_new r.sub hp (fun z => z)
  exact ⟨e.im, r.extN e⟩
/-- an object that is nobody's but ours now -/
structure Own1 (K : PySem.W.Frag) (Z : Res) (G I H : Hp) (σ : St) (τ : List SV) (p : Addr) (o : HO) (a : T) : Prop where
  ni : I p = none
  ng : G p = none
  nf : ¬ Z.F p
  at_ : H p = some o
  cn : Cn K I a o
  no : ∀ (i : Nat) (t : T), τ[i]? = some (SV.ow t) → σ[i]? ≠ some (some (V.ref p))
/-- it lasts from now on -/
theorem Rep.freeze1 {p : Addr} {o : HO} {a : T} (r : Rep K Z G I H σ τ s) (w : Own1 K Z G I H σ τ p o a) : Same I (upd I p o) ∧ Rep K Z G (upd I p o) H σ τ s := by
  have m : Same I (upd I p o) := fun b u e => by rw [upd_ne (ne_of_none e w.ni)]; exact e
  have sb : Same (upd I p o) H := fun b u e => by
    by_cases hb : b = p
    · subst hb
      rw [upd_same] at e
      cases e
      exact w.at_
    · rw [upd_ne hb] at e
      exact r.sub b u e
  refine ⟨m, ⟨⟨sb, Z.loc s I H _ H r.res m fun _ _ => rfl, fun q hq => ⟨?_, (r.rf q hq).2⟩, fun q u hq => ⟨?_, (r.fr q u hq).2⟩⟩, r.len, fun i t h => ?_, fun i t h => ?_, r.inj⟩⟩
  · rw [upd_ne (show q ≠ p from fun z => w.nf (by rw [← z]; exact hq))]
    exact (r.rf q hq).1
  · rw [upd_ne (ne_of_none hq w.ng)]
    exact (r.fr q u hq).1
  · obtain ⟨v, h1, h2⟩ := r.im i t h
    exact ⟨v, h1, h2.mono m⟩
  · obtain ⟨q, u, h1, h2, h3, h4, h5, h6⟩ := r.ow i t h
    have hq : q ≠ p := fun z => w.no i t h (by rw [← z]; exact h1)
    exact ⟨q, u, h1, by rw [upd_ne hq]; exact h2, h3, h4, h5, h6.mono m⟩
/-- a new object is laid, it is not known to last -/
theorem Rep.newO {p : Addr} {o : HO} (r : Rep K Z G I H σ τ s) (hp : H p = none) : Rep K Z G I (upd H p o) σ τ s :=
  r.extN (ext_newO (F := fun _ => False) r.sub hp)
theorem Rep.notOwned {p : Addr} (r : Rep K Z G I H σ τ s) (hp : H p = none) (i : Nat) (t : T) (h : τ[i]? = some (SV.ow t)) : σ[i]? ≠ some (some (V.ref p)) := fun e => by
  obtain ⟨q, u, h1, _, _, _, h5, _⟩ := r.ow i t h
  rw [e] at h1
  cases h1
  rw [hp] at h5
  cases h5
theorem Rep.made {p : Addr} {o : HO} {a : T} (r : Rep K Z G I H σ τ s) (hp : H p = none) (c : Cn K I a o) : Rep K Z G I (upd H p o) σ τ s ∧ Own1 K Z G I (upd H p o) σ τ p o a :=
  ⟨r.newO hp, ⟨r.sub.free hp, r.nG hp, r.nF hp, upd_same, c, fun i t h => r.notOwned hp i t h⟩⟩
/-! ### slots are stored -/
theorem Rep.setIm {i : Nat} {v : V} {a : T} (r : Rep K Z G I H σ τ s) (hi : i < τ.length) (h : Is K I a v) : Rep K Z G I H (σ.set i (some v)) (τ.set i (.im a)) s := by
  have hs : i < σ.length := by rw [r.len]; exact hi
  refine ⟨r.toRep0, by rw [List.length_set, List.length_set]; exact r.len, fun j t e => ?_, fun j t e => ?_, fun j k t u p hjk e1 e2 e3 => ?_⟩
  · by_cases hj : i = j
    · subst hj
      rw [List.getElem?_set_self hi] at e
      cases e
      exact ⟨v, List.getElem?_set_self hs, h⟩
    · rw [List.getElem?_set_ne hj] at e ⊢
      exact r.im j t e
  · have hj : i ≠ j := fun z => by
      subst z
      rw [List.getElem?_set_self hi] at e
      cases e
    rw [List.getElem?_set_ne hj] at e ⊢
    exact r.ow j t e
  · have hj : i ≠ j := fun z => by
      subst z
      rw [List.getElem?_set_self hi] at e1
      cases e1
    have hk : i ≠ k := fun z => by
      subst z
      rw [List.getElem?_set_self hi] at e2
      cases e2
    rw [List.getElem?_set_ne hj] at e1 e3
    rw [List.getElem?_set_ne hk] at e2 ⊢
    exact r.inj j k t u p hjk e1 e2 e3
theorem Rep.setOw {i : Nat} {p : Addr} {o : HO} {a : T} (r : Rep K Z G I H σ τ s) (hi : i < τ.length) (w : Own1 K Z G I H σ τ p o a) : Rep K Z G I H (σ.set i (some (.ref p))) (τ.set i (.ow a)) s := by
  have hs : i < σ.length := by rw [r.len]; exact hi
  refine ⟨r.toRep0, by rw [List.length_set, List.length_set]; exact r.len, fun j t e => ?_, fun j t e => ?_, fun j k t u q hjk e1 e2 e3 => ?_⟩
  · have hj : i ≠ j := fun z => by
      subst z
      rw [List.getElem?_set_self hi] at e
      cases e
    rw [List.getElem?_set_ne hj] at e ⊢
    exact r.im j t e
  · by_cases hj : i = j
    · subst hj
      rw [List.getElem?_set_self hi] at e
      cases e
      exact ⟨p, o, List.getElem?_set_self hs, w.ni, w.ng, w.nf, w.at_, w.cn⟩
    · rw [List.getElem?_set_ne hj] at e ⊢
      exact r.ow j t e
  · by_cases hj : i = j
    · subst hj
      rw [List.getElem?_set_self hs] at e3
      cases e3
      rw [List.getElem?_set_ne hjk] at e2 ⊢
      exact w.no k u e2
    · rw [List.getElem?_set_ne hj] at e1 e3
      by_cases hk : i = k
      · subst hk
        rw [List.getElem?_set_self hs]
        intro z
        cases z
        exact w.no j t e1 e3
      · rw [List.getElem?_set_ne hk] at e2 ⊢
        exact r.inj j k t u q hjk e1 e2 e3
/-- a slot's own object lasts from now on -/
theorem Rep.freeze {i : Nat} {a : T} (r : Rep K Z G I H σ τ s) (hi : τ[i]? = some (.ow a)) : ∃ I', Same I I' ∧ Rep K Z G I' H σ (τ.set i (.im a)) s := by
  obtain ⟨p, o, h1, h2, h3, h4, h5, h6⟩ := r.ow i a hi
  have hl : i < τ.length := (List.getElem?_eq_some_iff.mp hi).1
  have m : Same I (upd I p o) := fun b u e => by rw [upd_ne (ne_of_none e h2)]; exact e
  have sb : Same (upd I p o) H := fun b u e => by
    by_cases hb : b = p
    · subst hb
      rw [upd_same] at e
      cases e
      exact h5
    · rw [upd_ne hb] at e
      exact r.sub b u e
  refine ⟨upd I p o, m, ⟨⟨sb, Z.loc s I H _ H r.res m fun _ _ => rfl, fun q hq => ⟨?_, (r.rf q hq).2⟩, fun q u hq => ⟨?_, (r.fr q u hq).2⟩⟩, by rw [List.length_set]; exact r.len, fun j t h => ?_, fun j t h => ?_, fun j k t u q hjk e1 e2 e3 => ?_⟩⟩
  · rw [upd_ne (show q ≠ p from fun z => h4 (by rw [← z]; exact hq))]
    exact (r.rf q hq).1
  · rw [upd_ne (ne_of_none hq h3)]
    exact (r.fr q u hq).1
  · by_cases hj : i = j
    · subst hj
      rw [List.getElem?_set_self hl] at h
      cases h
      exact ⟨_, h1, (h6.mono m).is upd_same⟩
    · rw [List.getElem?_set_ne hj] at h
      obtain ⟨v, g1, g2⟩ := r.im j t h
      exact ⟨v, g1, g2.mono m⟩
  · have hj : i ≠ j := fun z => by
      subst z
      rw [List.getElem?_set_self hl] at h
      cases h
    rw [List.getElem?_set_ne hj] at h
    obtain ⟨q, u, g1, g2, g3, g4, g5, g6⟩ := r.ow j t h
    have hq : q ≠ p := fun z => r.inj i j a t p hj hi h h1 (by rw [← z]; exact g1)
    exact ⟨q, u, g1, by rw [upd_ne hq]; exact g2, g3, g4, g5, g6.mono m⟩
  · have hj : i ≠ j := fun z => by
      subst z
      rw [List.getElem?_set_self hl] at e1
      cases e1
    have hk : i ≠ k := fun z => by
      subst z
      rw [List.getElem?_set_self hl] at e2
      cases e2
    rw [List.getElem?_set_ne hj] at e1
    rw [List.getElem?_set_ne hk] at e2
    exact r.inj j k t u q hjk e1 e2 e3
/-- a slot's own object is changed -/
theorem Rep.change {i : Nat} {a b : T} {p : Addr} {o o' : HO} (r : Rep K Z G I H σ τ s) (hi : τ[i]? = some (.ow a)) (h1 : σ[i]? = some (some (V.ref p))) (h2 : I p = none) (h3 : G p = none) (h4 : ¬ Z.F p) (c : Cn K I b o') : Rep K Z G I (upd H p o') σ (τ.set i (.ow b)) s := by
  have hl : i < τ.length := (List.getElem?_eq_some_iff.mp hi).1
  have sb : Same I (upd H p o') := fun b u e => by rw [upd_ne (ne_of_none e h2)]; exact r.sub b u e
  refine ⟨⟨sb, Z.loc s I H _ _ r.res (Same.refl _) fun q hq => upd_ne fun z => h4 (by rw [← z]; exact hq), r.rf, fun q u hq => ⟨(r.fr q u hq).1, ?_⟩⟩, by rw [List.length_set]; exact r.len, fun j t h => ?_, fun j t h => ?_, fun j k t u q hjk e1 e2 e3 => ?_⟩
  · rw [upd_ne (ne_of_none hq h3)]
    exact (r.fr q u hq).2
  · have hj : i ≠ j := fun z => by
      subst z
      rw [List.getElem?_set_self hl] at h
      cases h
    rw [List.getElem?_set_ne hj] at h
    exact r.im j t h
  · by_cases hj : i = j
    · subst hj
      rw [List.getElem?_set_self hl] at h
      cases h
      exact ⟨p, o', h1, h2, h3, h4, upd_same, c⟩
    · rw [List.getElem?_set_ne hj] at h
      obtain ⟨q, u, g1, g2, g3, g4, g5, g6⟩ := r.ow j t h
      have hq : q ≠ p := fun z => r.inj i j a t p hj hi h h1 (by rw [← z]; exact g1)
      exact ⟨q, u, g1, g2, g3, g4, by rw [upd_ne hq]; exact g5, g6⟩
  · have ow' : ∀ (l : Nat) (t : T), (τ.set i (.ow b))[l]? = some (.ow t) → ∃ t', τ[l]? = some (.ow t') := fun l t e => by
      by_cases hl' : i = l
      · subst hl'
        exact ⟨a, hi⟩
      · rw [List.getElem?_set_ne hl'] at e
        exact ⟨t, e⟩
    obtain ⟨t', e1'⟩ := ow' j t e1
    obtain ⟨u', e2'⟩ := ow' k u e2
    exact r.inj j k t' u' q hjk e1' e2' e3
/-- less is left alone -/
theorem Rep.frame {G' : Hp} (r : Rep K Z G I H σ τ s) (h : ∀ p o, G' p = some o → G p = some o) : Rep K Z G' I H σ τ s := by
  have hn : ∀ p, G p = none → G' p = none := fun p hp => by
    cases e : G' p with
    | none => rfl
    | some o =>
      have q := h p o e
      rw [hp] at q
      cases q
  refine ⟨⟨r.sub, r.res, fun p hp => ⟨(r.rf p hp).1, hn p (r.rf p hp).2⟩, fun p o e => r.fr p o (h p o e)⟩, r.len, r.im, fun i t e => ?_, r.inj⟩
  obtain ⟨p, o, h1, h2, h3, h4, h5, h6⟩ := r.ow i t e
  exact ⟨p, o, h1, h2, hn p h3, h4, h5, h6⟩
/-- one more object that is left alone -/
theorem Rep.guard {p : Addr} {o : HO} {a : T} (r : Rep K Z G I H σ τ s) (w : Own1 K Z G I H σ τ p o a) : Rep K Z (upd G p o) I H σ τ s :=
  ⟨⟨r.sub, r.res, fun q hq => ⟨(r.rf q hq).1, by rw [upd_ne (show q ≠ p from fun z => w.nf (by rw [← z]; exact hq))]; exact (r.rf q hq).2⟩, fun q u e => by
    by_cases hq : q = p
    · subst hq
      rw [upd_same] at e
      cases e
      exact ⟨w.ni, w.at_⟩
    · rw [upd_ne hq] at e
      exact r.fr q u e⟩, r.len, r.im, fun i t e => by
    obtain ⟨q, u, h1, h2, h3, h4, h5, h6⟩ := r.ow i t e
    exact ⟨q, u, h1, h2, by rw [upd_ne (show q ≠ p from fun z => w.no i t e (by rw [← z]; exact h1))]; exact h3, h4, h5, h6⟩, r.inj⟩
/-- slots forgotten (a comprehension's own names) -/
def wipeT (τ : List SV) : List Nat → List SV
  | [] => τ
  | v :: vs => (wipeT τ vs).set v .un
theorem wipeT_length (τ : List SV) : ∀ vs : List Nat, (wipeT τ vs).length = τ.length
  | [] => rfl
  | v :: vs => by unfold wipeT; rw [List.length_set, wipeT_length τ vs]
theorem wipeT_get {τ : List SV} {i : Nat} {x : SV} : ∀ {vs : List Nat}, (wipeT τ vs)[i]? = some x → (i ∈ vs ∧ x = .un) ∨ (i ∉ vs ∧ τ[i]? = some x)
  | [], h => .inr ⟨by simp, h⟩
  | v :: vs, h => by
    unfold wipeT at h
    by_cases hi : v = i
    · subst hi
      by_cases hv : v < (wipeT τ vs).length
      · rw [List.getElem?_set_self hv] at h
        cases h
        exact .inl ⟨by simp, rfl⟩
      · rw [List.getElem?_eq_none (by simpa using hv)] at h
        cases h
    · rw [List.getElem?_set_ne hi] at h
      rcases wipeT_get h with ⟨h1, h2⟩ | ⟨h1, h2⟩
      · exact .inl ⟨by simp [h1], h2⟩
      · exact .inr ⟨by simp only [List.mem_cons, not_or]; exact ⟨fun e => hi e.symm, h1⟩, h2⟩
theorem wipe_out {σ : St} {i : Nat} : ∀ {vs : List Nat}, i ∉ vs → (wipe σ vs)[i]? = σ[i]?
  | [], _ => rfl
  | v :: vs, h => by
    simp only [List.mem_cons, not_or] at h
    unfold wipe
    rw [List.getElem?_set_ne (fun e => h.1 e.symm)]
    exact wipe_out h.2
theorem Rep.wipe {vs : List Nat} (r : Rep K Z G I H σ τ s) : Rep K Z G I H (wipe σ vs) (wipeT τ vs) s := by
  refine ⟨r.toRep0, by rw [wipe_length, wipeT_length]; exact r.len, fun i t e => ?_, fun i t e => ?_, fun i j t u p hij e1 e2 e3 => ?_⟩
  · rcases wipeT_get e with ⟨_, h⟩ | ⟨h1, h2⟩
    · cases h
    · rw [wipe_out h1]
      exact r.im i t h2
  · rcases wipeT_get e with ⟨_, h⟩ | ⟨h1, h2⟩
    · cases h
    · rw [wipe_out h1]
      exact r.ow i t h2
  · rcases wipeT_get e1 with ⟨_, h⟩ | ⟨h1, h2⟩
    · cases h
    · rcases wipeT_get e2 with ⟨_, h⟩ | ⟨h3, h4⟩
      · cases h
      · rw [wipe_out h1] at e3
        rw [wipe_out h3]
        exact r.inj i j t u p hij h2 h4 e3
/-- behind a comprehension: the slots are as they were -/
theorem Rep.unwipe {G0 I0 H0 : Hp} {s0 : Z.S} {vs : List Nat} (r : Rep K Z G0 I0 H0 σ τ s0) (m : Same I0 I) (q : Rep0 Z G I H s) (hw : ∀ (i : Nat) (t : T), τ[i]? = some (.ow t) → i ∉ vs)
    (own : ∀ (i : Nat) (t : T), (wipeT τ vs)[i]? = some (.ow t) → ∃ (p : Addr) (o : HO), (L2.wipe σ vs)[i]? = some (some (V.ref p)) ∧ I p = none ∧ G p = none ∧ ¬ Z.F p ∧ H p = some o ∧ Cn K I t o)
    (wt : ∀ (i : Nat) (t : T), i ∉ vs → τ[i]? = some (.ow t) → (wipeT τ vs)[i]? = some (.ow t)) : Rep K Z G I H σ τ s := by
  refine ⟨q, r.len, fun i t e => ?_, fun i t e => ?_, r.inj⟩
  · obtain ⟨v, h1, h2⟩ := r.im i t e
    exact ⟨v, h1, h2.mono m⟩
  · have hi := hw i t e
    have h := own i t (wt i t hi e)
    rw [wipe_out hi] at h
    exact h
theorem wipeT_out {τ : List SV} {i : Nat} : ∀ {vs : List Nat}, i ∉ vs → (wipeT τ vs)[i]? = τ[i]?
  | [], _ => rfl
  | v :: vs, h => by
    simp only [List.mem_cons, not_or] at h
    unfold wipeT
    rw [List.getElem?_set_ne (fun e => h.1 e.symm)]
    exact wipeT_out h.2
end
end L2.TL
/-! TL1: expressions told by trees. -/
namespace L2.TL
open PySem PySem.Spec
open PyProof.Rows
/-- a reckoning over the slots and the resource's state -/
abbrev EF (Z : Res) := List SV → Z.S → Option (T × Z.S)
abbrev EFs (Z : Res) := List SV → Z.S → Option (List T × Z.S)
abbrev EFb (Z : Res) := List SV → Z.S → Option (Bool × Z.S)
/-- behind an expression that hands out a -/
def Hand (X : Cx) (Z : Res) (G I : Hp) (σ : St) (τ : List SV) (s : Z.S) (a : T) (Q : VK) : Prop :=
  ∀ I' H' v, Same I I' → Rep X.K Z G I' H' σ τ s → Is X.K I' a v → Q v H'
def HandB (X : Cx) (Z : Res) (G I : Hp) (σ : St) (τ : List SV) (s : Z.S) (b : Bool) (Q : Bool → Hp → Prop) : Prop :=
  ∀ I' H', Same I I' → Rep X.K Z G I' H' σ τ s → Q b H'
def HandL (X : Cx) (Z : Res) (G I : Hp) (σ : St) (τ : List SV) (s : Z.S) (as : List T) (Q : List V → Hp → Prop) : Prop :=
  ∀ I' H' vs, Same I I' → Rep X.K Z G I' H' σ τ s → IsL X.K I' as vs → Q vs H'
def EX (X : Cx) (Z : Res) (e : Expr) (f : EF Z) : Prop :=
  ∃ t, PE X e t ∧ ∀ G I H σ τ s a s' Q, Rep X.K Z G I H σ τ s → f τ s = some (a, s') → Hand X Z G I σ τ s' a Q → t σ H Q
def EB (X : Cx) (Z : Res) (e : Expr) (f : EFb Z) : Prop :=
  ∃ t, PT X e t ∧ ∀ G I H σ τ s a s' Q, Rep X.K Z G I H σ τ s → f τ s = some (a, s') → HandB X Z G I σ τ s' a Q → t σ H Q
def EL (X : Cx) (Z : Res) (es : List Expr) (f : EFs Z) : Prop :=
  ∃ t, PA X es t ∧ ∀ G I H σ τ s as s' Q, Rep X.K Z G I H σ τ s → f τ s = some (as, s') → HandL X Z G I σ τ s' as Q → t σ H Q
section
variable {X : Cx} {Z : Res} {a b c e : Expr} {es : List Expr} {fa fb fc : EF Z} {pos : Pos}
/-! ### names, constants -/
def xName {Z : Res} (i : Nat) : EF Z := fun τ s => match τ[i]? with
  | some (.im t) => some (t, s)
  | _ => none
theorem ex_name (i : Nat) {x : Str} (hN : X.N[i]? = some x := by rfl) (hv : Vis X.env.scope x := by first | exact Or.inl rfl | exact Or.inr (Or.inl rfl) | exact Or.inr (Or.inr rfl)) (hd : (x == ("__debug__" : Str)) = false := by decide)
    (hcd : (x == ("__classdict__" : Str)) = false := by decide) : EX X Z (.Name x pos) (xName i) := by
  refine ⟨_, pe_var hN hv hd hcd, fun G I H σ τ s a s' Q r h q => ?_⟩
  unfold xName at h
  split at h
  · rename_i t e
    cases h
    obtain ⟨v, h1, h2⟩ := r.im i _ e
    exact ⟨v, h1, q I H v (Same.refl _) r h2⟩
  · cases h
def xC {Z : Res} (t : T) : EF Z := fun _ s => some (t, s)
theorem ex_int {i : Int} {j : Nat} : EX X Z (.Constant (.int i) j pos) (xC (.int i)) := ⟨_, pe_int, fun G I H σ τ s a s' Q r h q => by
  cases h
  exact q I H _ (Same.refl _) r rfl⟩
theorem ex_bl {i : Bool} {j : Nat} : EX X Z (.Constant (.bool i) j pos) (xC (.bl i)) := ⟨_, pe_bl, fun G I H σ τ s a s' Q r h q => by
  cases h
  exact q I H _ (Same.refl _) r rfl⟩
theorem ex_non {j : Nat} : EX X Z (.Constant .none j pos) (xC .non) := ⟨_, pe_non, fun G I H σ τ s a s' Q r h q => by
  cases h
  exact q I H _ (Same.refl _) r rfl⟩
theorem ex_str {x : Str} {j : Nat} : EX X Z (.Constant (.str x) j pos) (xC (.str x)) := ⟨_, pe_str, fun G I H σ τ s a s' Q r h q => by
  cases h
  exact q I H _ (Same.refl _) r rfl⟩
/-! ### two values -/
/-- an operation on trees that the values' operation r carries out, making new objects at most -/
def Op2 (X : Cx) (r : R2) (op : T → T → Option T) : Prop :=
  ∀ (Z : Res) G I H σ τ s a b c x y Q, Rep X.K Z G I H σ τ s → Is X.K I a x → Is X.K I b y → op a b = some c → Hand X Z G I σ τ s c Q → r x y H Q
def x2 {Z : Res} (op : T → T → Option T) (fa fb : EF Z) : EF Z := fun τ s => match fa τ s with
  | some (a, s1) => match fb τ s1 with
    | some (b, s2) => match op a b with
      | some c => some (c, s2)
      | none => none
    | none => none
  | none => none
theorem x2_run {r : R2} {op : T → T → Option T} {ta tb : TE} (hr : Op2 X r op) (h1 : ∀ G I H σ τ s a s' Q, Rep X.K Z G I H σ τ s → fa τ s = some (a, s') → Hand X Z G I σ τ s' a Q → ta σ H Q)
    (h2 : ∀ G I H σ τ s a s' Q, Rep X.K Z G I H σ τ s → fb τ s = some (a, s') → Hand X Z G I σ τ s' a Q → tb σ H Q) {G I H : Hp} {σ : St} {τ : List SV} {s s' : Z.S} {c : T} {Q : VK}
    (w : Rep X.K Z G I H σ τ s) (h : x2 op fa fb τ s = some (c, s')) (q : Hand X Z G I σ τ s' c Q) : tOp r ta tb σ H Q := by
  unfold x2 at h
  split at h
  · rename_i a s1 ea
    split at h
    · rename_i b s2 eb
      split at h
      · rename_i d ec
        cases h
        refine h1 _ _ _ _ _ _ _ _ _ w ea fun I1 H1 v m1 w1 i1 => ?_
        refine h2 _ _ _ _ _ _ _ _ _ w1 eb fun I2 H2 u m2 w2 i2 => ?_
        exact hr Z _ _ _ _ _ _ _ _ _ _ _ _ w2 (i1.mono m2) i2 ec fun I3 H3 z m3 w3 i3 => q I3 H3 z ((m1.trans m2).trans m3) w3 i3
      · cases h
    · cases h
  · cases h
theorem ex_bin {o : Operator} {r : R2} {op : T → T → Option T} (ho : OpR X (binaryOp o) r) (hr : Op2 X r op) (ha : EX X Z a fa) (hb : EX X Z b fb) : EX X Z (.BinOp a o b pos) (x2 op fa fb) := by
  obtain ⟨ta, pa, h1⟩ := ha
  obtain ⟨tb, pb, h2⟩ := hb
  exact ⟨_, pe_op ho pa pb, fun G I H σ τ s c s' Q w h q => x2_run hr h1 h2 w h q⟩
theorem ex_cmp {o : CmpOp} {r : R2} {op : T → T → Option T} (ho : OpR X (compareOp o) r) (hr : Op2 X r op) (ha : EX X Z a fa) (hb : EX X Z b fb) (hm : behindInMarks o b = false) : EX X Z (.Compare a [o] [b] pos) (x2 op fa fb) := by
  obtain ⟨ta, pa, h1⟩ := ha
  obtain ⟨tb, pb, h2⟩ := hb
  exact ⟨_, pe_cmpR ho pa pb hm, fun G I H σ τ s c s' Q w h q => x2_run hr h1 h2 w h q⟩
def xb {Z : Res} (f : EF Z) : EFb Z := fun τ s => match f τ s with
  | some (.bl k, s') => some (k, s')
  | _ => none
theorem xb_of {f : EF Z} {τ : List SV} {s s' : Z.S} {k : Bool} (h : xb f τ s = some (k, s')) : f τ s = some (.bl k, s') := by
  unfold xb at h
  split at h
  · rename_i e
    cases h
    exact e
  · cases h
theorem eb_cmp {o : CmpOp} {r : R2} {op : T → T → Option T} (ho : OpR X (compareOp o) r) (hr : Op2 X r op) (ha : EX X Z a fa) (hb : EX X Z b fb) (hm : behindInMarks o b = false) : EB X Z (.Compare a [o] [b] pos) (xb (x2 op fa fb)) := by
  obtain ⟨ta, pa, h1⟩ := ha
  obtain ⟨tb, pb, h2⟩ := hb
  exact ⟨_, pt_cmpR ho pa pb hm, fun G I H σ τ s c s' Q w h q => x2_run hr h1 h2 w (xb_of h) fun I' H' v m w' i => ⟨c, i, q I' H' m w'⟩⟩
theorem ex_ix {r : R2} {op : T → T → Option T} (ho : IxR X r) (hr : Op2 X r op) (ha : EX X Z a fa) (hb : EX X Z b fb) (hs : PlainIx b := by exact fun _ _ => rfl) : EX X Z (.Subscript a b pos) (x2 op fa fb) := by
  obtain ⟨ta, pa, h1⟩ := ha
  obtain ⟨tb, pb, h2⟩ := hb
  exact ⟨_, pe_ix ho pa pb hs, fun G I H σ τ s c s' Q w h q => x2_run hr h1 h2 w h q⟩
/-- a <= b < c and its like -/
def x3 {Z : Res} (op op' : T → T → Option T) (fa fb fc : EF Z) : EF Z := fun τ s => match fa τ s with
  | some (a, s1) => match fb τ s1 with
    | some (b, s2) => match op a b with
      | some (.bl true) => match fc τ s2 with
        | some (c, s3) => match op' b c with
          | some d => some (d, s3)
          | none => none
        | none => none
      | some (.bl false) => some (.bl false, s2)
      | _ => none
    | none => none
  | none => none
theorem OpR.or {f : Value → Value → Sem Value} {r r' : R2} (h : OpR X f r) (h' : OpR X f r') : OpR X f (fun x y H Q => r x y H Q ∨ r' x y H Q) := by
  intro pins s σ H x y v u Q I rx ry q
  rcases q with q | q
  · exact h pins s σ H x y v u Q I rx ry q
  · exact h' pins s σ H x y v u Q I rx ry q
theorem Op2.or {r r' : R2} {op op' : T → T → Option T} (h : Op2 X r op) (h' : Op2 X r' op') : Op2 X (fun x y H Q => r x y H Q ∨ r' x y H Q) (fun a b => match op a b with | some c => some c | none => op' a b) := by
  intro Z G I H σ τ s a b c x y Q w i1 i2 e q
  dsimp only at e
  split at e
  · rename_i d ed
    cases e
    exact .inl (h Z _ _ _ _ _ _ _ _ _ _ _ _ w i1 i2 ed q)
  · exact .inr (h' Z _ _ _ _ _ _ _ _ _ _ _ _ w i1 i2 e q)
theorem Hand.here {G I H : Hp} {σ : St} {τ : List SV} {s : Z.S} {t : T} {v : V} {Q : VK} (w : Rep X.K Z G I H σ τ s) (q : Hand X Z G I σ τ s t Q) (i : Is X.K I t v) : Q v H := q I H v (Same.refl _) w i
theorem Hand.new {G I H : Hp} {σ : St} {τ : List SV} {s : Z.S} {t : T} {Q : VK} {p : Addr} {o : HO} (w : Rep X.K Z G I H σ τ s) (q : Hand X Z G I σ τ s t Q) (hp : H p = none) (i : ∀ I', Same I I' → I' p = some o → Is X.K I' t (.ref p)) : Q (.ref p) (upd H p o) := by
  obtain ⟨m, w'⟩ := w.new (o := o) hp
  exact q _ _ _ m w' (i _ m upd_same)
/-! ### the operations -/
def addI : T → T → Option T
  | .int i, .int j => some (.int (i + j))
  | _, _ => none
def addS : T → T → Option T
  | .str x, .str y => if x.length + y.length ≤ sizeLine then some (.str (x ++ y)) else none
  | _, _ => none
def addL : T → T → Option T
  | .lst x, .lst y => if x.length + y.length ≤ sizeLine then some (.lst (x ++ y)) else none
  | _, _ => none
def addT : T → T → Option T
  | .tup x, .tup y => if x.length + y.length ≤ sizeLine then some (.tup (x ++ y)) else none
  | _, _ => none
def rAddS : R2 := fun x y H Q => ∃ i j, x = .str i ∧ y = .str j ∧ i.length + j.length ≤ sizeLine ∧ Q (.str (i ++ j)) H
theorem op2_addI : Op2 X (rI0 fun i j => .int (i + j)) addI := by
  intro Z G I H σ τ s a b c x y Q w i1 i2 e q
  unfold addI at e
  split at e
  · cases e
    have i1 : x = _ := i1
    have i2 : y = _ := i2
    exact ⟨_, _, i1, i2, q.here w rfl⟩
  · cases e
theorem op2_addS : Op2 X rAddS addS := by
  intro Z G I H σ τ s a b c x y Q w i1 i2 e q
  unfold addS at e
  split at e
  · split at e
    · rename_i hz
      cases e
      have i1 : x = _ := i1
      have i2 : y = _ := i2
      exact ⟨_, _, i1, i2, hz, q.here w rfl⟩
    · cases e
  · cases e
theorem op2_addL : Op2 X rCat addL := by
  intro Z G I H σ τ s a b c x y Q w i1 i2 e q
  unfold addL at e
  split at e
  · split at e
    · rename_i hz
      cases e
      obtain ⟨l, xs, rfl, h1, j1⟩ := i1
      obtain ⟨l', ys, rfl, h2, j2⟩ := i2
      refine ⟨l, l', xs, ys, rfl, rfl, w.sub _ _ h1, w.sub _ _ h2, by rw [j1.len, j2.len]; exact hz, fun p hp => q.new w hp fun I' m e => ⟨p, _, rfl, e, (j1.app j2).mono m⟩⟩
    · cases e
  · cases e
theorem op2_addT : Op2 X (rCatA X.K) addT := by
  intro Z G I H σ τ s a b c x y Q w i1 i2 e q
  unfold addT at e
  split at e
  · split at e
    · rename_i us vs hz
      cases e
      obtain ⟨l, xs, rfl, h1, j1⟩ := i1
      obtain ⟨l', ys, rfl, h2, j2⟩ := i2
      have n1 := j1.len
      have n2 := j2.len
      refine ⟨l, l', xs, ys, rfl, rfl, sqt_mono w.sub h1, sqt_mono w.sub h2, by rw [n1, n2]; exact hz, fun e => ?_, fun _ e => ?_, fun _ _ p hp => q.new w hp fun I' m e => ⟨p, _, rfl, .of e, (j1.app j2).mono m⟩⟩
      · subst e
        have e1 : us = [] := by cases us with | nil => rfl | cons _ _ => simp at n1
        subst e1
        exact q.here w ⟨l', ys, rfl, h2, j2⟩
      · subst e
        have e1 : vs = [] := by cases vs with | nil => rfl | cons _ _ => simp at n2
        subst e1
        rw [List.append_nil] at q
        exact q.here w ⟨l, xs, rfl, h1, j1⟩
    · cases e
  · cases e
def subI : T → T → Option T
  | .int i, .int j => some (.int (i - j))
  | _, _ => none
theorem op2_subI : Op2 X (rI0 fun i j => .int (i - j)) subI := by
  intro Z G I H σ τ s a b c x y Q w i1 i2 e q
  unfold subI at e
  split at e
  · cases e
    have i1 : x = _ := i1
    have i2 : y = _ := i2
    exact ⟨_, _, i1, i2, q.here w rfl⟩
  · cases e
def mulI : T → T → Option T
  | .int i, .int j => if (-(2 ^ 64) < i ∧ i < 2 ^ 64) ∨ (-(2 ^ 64) < j ∧ j < 2 ^ 64) then some (.int (i * j)) else none
  | _, _ => none
theorem op2_mulI : Op2 X (rI CMul fun i j => .int (i * j)) mulI := by
  intro Z G I H σ τ s a b c x y Q w i1 i2 e q
  unfold mulI at e
  split at e
  · split at e
    · rename_i hz
      cases e
      have i1 : x = _ := i1
      have i2 : y = _ := i2
      exact ⟨_, _, i1, i2, hz, q.here w rfl⟩
    · cases e
  · cases e
def modI : T → T → Option T
  | .int i, .int j => if 0 < j then some (.int (i % j)) else none
  | _, _ => none
theorem op2_modI : Op2 X (rI (fun _ j => 0 < j) fun i j => .int (i % j)) modI := by
  intro Z G I H σ τ s a b c x y Q w i1 i2 e q
  unfold modI at e
  split at e
  · split at e
    · rename_i hz
      cases e
      have i1 : x = _ := i1
      have i2 : y = _ := i2
      exact ⟨_, _, i1, i2, hz, q.here w rfl⟩
    · cases e
  · cases e
def divI : T → T → Option T
  | .int i, .int j => if 0 < j ∧ j < 1073741824 then some (.int (i / j)) else none
  | _, _ => none
theorem op2_divI : Op2 X (rI CDiv fun i j => .int (i / j)) divI := by
  intro Z G I H σ τ s a b c x y Q w i1 i2 e q
  unfold divI at e
  split at e
  · split at e
    · rename_i hz
      cases e
      have i1 : x = _ := i1
      have i2 : y = _ := i2
      exact ⟨_, _, i1, i2, hz, q.here w rfl⟩
    · cases e
  · cases e
/-- comparisons of ints -/
def cmpI (g : Int → Int → Bool) : T → T → Option T
  | .int i, .int j => some (.bl (g i j))
  | _, _ => none
theorem op2_cmpI {g : Int → Int → Bool} : Op2 X (rI0 fun i j => .bl (g i j)) (cmpI g) := by
  intro Z G I H σ τ s a b c x y Q w i1 i2 e q
  unfold cmpI at e
  split at e
  · cases e
    have i1 : x = _ := i1
    have i2 : y = _ := i2
    exact ⟨_, _, i1, i2, q.here w rfl⟩
  · cases e
/-- comparisons of texts -/
def cmpS (g : Str → Str → Bool) : T → T → Option T
  | .str i, .str j => some (.bl (g i j))
  | _, _ => none
def rS (g : Str → Str → Bool) : R2 := fun x y H Q => ∃ i j, x = .str i ∧ y = .str j ∧ Q (.bl (g i j)) H
theorem op2_cmpS {g : Str → Str → Bool} : Op2 X (rS g) (cmpS g) := by
  intro Z G I H σ τ s a b c x y Q w i1 i2 e q
  unfold cmpS at e
  split at e
  · cases e
    have i1 : x = _ := i1
    have i2 : y = _ := i2
    exact ⟨_, _, i1, i2, q.here w rfl⟩
  · cases e
/-- a sign in a text -/
def inS (neg : Bool) : T → T → Option T
  | .str ⟨⟨[c]⟩⟩, .str z => some (.bl (if neg then !decide (c ∈ z.cps.toList) else decide (c ∈ z.cps.toList)))
  | _, _ => none
def rInS (neg : Bool) : R2 := fun x y H Q => ∃ (c : Nat) (z : Str), x = .str ⟨#[c]⟩ ∧ y = .str z ∧ Q (.bl (if neg then !decide (c ∈ z.cps.toList) else decide (c ∈ z.cps.toList))) H
theorem op2_inS {neg : Bool} : Op2 X (rInS neg) (inS neg) := by
  intro Z G I H σ τ s a b c x y Q w i1 i2 e q
  unfold inS at e
  split at e
  · cases e
    have i1 : x = _ := i1
    have i2 : y = _ := i2
    exact ⟨_, _, i1, i2, q.here w rfl⟩
  · cases e
end
end L2.TL
/-! TL2: arguments, built-ins, tests, slices. -/
namespace L2.TL
open PySem PySem.Spec
open PyProof.Rows
section
variable {X : Cx} {Z : Res} {a b c e : Expr} {es : List Expr} {fa fb fc f : EF Z} {fs : EFs Z} {ft fu : EFb Z} {pos : Pos}
/-! ### argument lists -/
def xNil {Z : Res} : EFs Z := fun _ s => some ([], s)
def xCons {Z : Res} (f : EF Z) (fs : EFs Z) : EFs Z := fun τ s => match f τ s with
  | some (a, s1) => match fs τ s1 with
    | some (as, s2) => some (a :: as, s2)
    | none => none
  | none => none
theorem el_nil : EL X Z [] xNil := ⟨_, pa_nil, fun G I H σ τ s as s' Q w h q => by
  cases h
  exact q I H [] (Same.refl _) w IsL.nil⟩
theorem el_cons (he : EX X Z e f) (hr : EL X Z es fs) (hs : starEach (e :: es) X.env = (false, eval e X.env) :: starEach es X.env := by rfl) : EL X Z (e :: es) (xCons f fs) := by
  obtain ⟨te, pe, h1⟩ := he
  obtain ⟨tr, pr, h2⟩ := hr
  refine ⟨_, pa_cons pe pr hs, fun G I H σ τ s as s' Q w h q => ?_⟩
  unfold xCons at h
  split at h
  · rename_i a s1 ea
    split at h
    · rename_i as' s2 eb
      cases h
      refine h1 _ _ _ _ _ _ _ _ _ w ea fun I1 H1 v m1 w1 i1 => ?_
      refine h2 _ _ _ _ _ _ _ _ _ w1 eb fun I2 H2 vs m2 w2 i2 => ?_
      exact q I2 H2 (v :: vs) (m1.trans m2) w2 (IsL.cons (i1.mono m2) i2)
    · cases h
  · cases h
/-! ### displays -/
def xTup {Z : Res} (fs : EFs Z) : EF Z := fun τ s => match fs τ s with
  | some (as, s') => if as.length ≤ sizeLine then some (.tup as, s') else none
  | none => none
def xLst {Z : Res} (fs : EFs Z) : EF Z := fun τ s => match fs τ s with
  | some (as, s') => if as.length ≤ sizeLine then some (.lst as, s') else none
  | none => none
theorem ex_tup {k : Nat} (h : EL X Z es fs) : EX X Z (.Tuple es k pos) (xTup fs) := by
  obtain ⟨t, p, h1⟩ := h
  refine ⟨_, pe_tup p, fun G I H σ τ s a s' Q w h q => ?_⟩
  unfold xTup at h
  split at h
  · rename_i as s2 ea
    split at h
    · rename_i hz
      cases h
      refine h1 _ _ _ _ _ _ _ _ _ w ea fun I1 H1 vs m1 w1 i1 => ⟨by rw [i1.len]; exact hz, fun p hp => ?_⟩
      obtain ⟨m2, w2⟩ := w1.new (o := .tup vs) hp
      exact q _ _ _ (m1.trans m2) w2 ⟨p, vs, rfl, .of upd_same, i1.mono m2⟩
    · cases h
  · cases h
/-! ### what is freshly made: no one else has it -/
/-- behind an expression that makes a new object for the tree a -/
def HandF (X : Cx) (Z : Res) (G I : Hp) (σ : St) (τ : List SV) (s : Z.S) (a : T) (Q : VK) : Prop :=
  ∀ I' H' p o, Same I I' → Rep X.K Z G I' H' σ τ s → Own1 X.K Z G I' H' σ τ p o a → Q (.ref p) H'
theorem HandF.new {G I H : Hp} {σ : St} {τ : List SV} {s : Z.S} {t : T} {Q : VK} {p : Addr} {o : HO} (w : Rep X.K Z G I H σ τ s) (q : HandF X Z G I σ τ s t Q) (hp : H p = none) (c : Cn X.K I t o) : Q (.ref p) (upd H p o) := by
  obtain ⟨w', u⟩ := w.made hp c
  exact q _ _ _ _ (Same.refl _) w' u
def EN (X : Cx) (Z : Res) (e : Expr) (f : EF Z) : Prop :=
  ∃ t, PE X e t ∧ ∀ G I H σ τ s a s' Q, Rep X.K Z G I H σ τ s → f τ s = some (a, s') → HandF X Z G I σ τ s' a Q → t σ H Q
theorem ex_of_new (h : EN X Z e f) : EX X Z e f := by
  obtain ⟨t, p, h1⟩ := h
  refine ⟨t, p, fun G I H σ τ s a s' Q w h q => h1 _ _ _ _ _ _ _ _ _ w h fun I1 H1 p o m1 w1 u => ?_⟩
  obtain ⟨m2, w2⟩ := w1.freeze1 u
  exact q _ _ _ (m1.trans m2) w2 ((u.cn.mono m2).is upd_same)
theorem en_lst (h : EL X Z es fs) : EN X Z (.List es pos) (xLst fs) := by
  obtain ⟨t, p, h1⟩ := h
  refine ⟨_, pe_lst p, fun G I H σ τ s a s' Q w h q => ?_⟩
  unfold xLst at h
  split at h
  · rename_i as s2 ea
    split at h
    · rename_i hz
      cases h
      refine h1 _ _ _ _ _ _ _ _ _ w ea fun I1 H1 vs m1 w1 i1 => ⟨by rw [i1.len]; exact hz, fun p hp => HandF.new w1 (fun I2 H2 p o m2 => q I2 H2 p o (m1.trans m2)) hp i1⟩
    · cases h
  · cases h
/-! ### calls of built-ins -/
def Op1 (X : Cx) (r : List V → Hp → VK → Prop) (op : List T → Option T) : Prop :=
  ∀ (Z : Res) G I H σ τ s as c xs Q, Rep X.K Z G I H σ τ s → IsL X.K I as xs → op as = some c → Hand X Z G I σ τ s c Q → r xs H Q
def Op1N (X : Cx) (r : List V → Hp → VK → Prop) (op : List T → Option T) : Prop :=
  ∀ (Z : Res) G I H σ τ s as c xs Q, Rep X.K Z G I H σ τ s → IsL X.K I as xs → op as = some c → HandF X Z G I σ τ s c Q → r xs H Q
def xCall {Z : Res} (op : List T → Option T) (fs : EFs Z) : EF Z := fun τ s => match fs τ s with
  | some (as, s') => match op as with
    | some c => some (c, s')
    | none => none
  | none => none
theorem xCall_of {op : List T → Option T} {τ : List SV} {s s' : Z.S} {c : T} (h : xCall op fs τ s = some (c, s')) : ∃ as, fs τ s = some (as, s') ∧ op as = some c := by
  unfold xCall at h
  split at h
  · rename_i as s2 ea
    split at h
    · rename_i d ed
      cases h
      exact ⟨as, ea, ed⟩
    · cases h
  · cases h
theorem ex_callB {x : Str} {p : Pos} {id : String} {r : List V → Hp → VK → Prop} {op : List T → Option T} (hc : CallR X (.builtin id) r) (hr : Op1 X r op) (hg : Gl X x) (hm : X.mg x = none) (ha : EL X Z (e :: es) fs)
    (hv : bootBuiltins x = some (.builtin id) := by decide +kernel) (hn : x ≠ "__name__" := by decide) (hdb : (x == ("__debug__" : Str)) = false := by decide)
    (he : starEach (e :: es) X.env = (false, eval e X.env) :: starEach es X.env := by rfl) (hpl : (backTo pos (starEach es X.env)).any (·.1) = false := by rfl) : EX X Z (.Call (.Name x p) (e :: es) [] pos) (xCall op fs) := by
  obtain ⟨t, pa, h1⟩ := ha
  refine ⟨_, pe_callB hc hg hm hv pa hn hdb he hpl, fun G I H σ τ s a s' Q w h q => ?_⟩
  obtain ⟨as, ea, eo⟩ := xCall_of h
  exact h1 _ _ _ _ _ _ _ _ _ w ea fun I1 H1 vs m1 w1 i1 => hr Z _ _ _ _ _ _ _ _ _ _ w1 i1 eo fun I2 H2 v m2 w2 i2 => q I2 H2 v (m1.trans m2) w2 i2
theorem ex_callTy {x : Str} {p : Pos} {id : String} {r : List V → Hp → VK → Prop} {op : List T → Option T} (hc : CallR X (.type id) r) (hr : Op1 X r op) (hg : Gl X x) (hm : X.mg x = none) (ha : EL X Z (e :: es) fs)
    (hv : bootBuiltins x = some (.type id) := by decide +kernel) (hn : x ≠ "__name__" := by decide) (hdb : (x == ("__debug__" : Str)) = false := by decide)
    (he : starEach (e :: es) X.env = (false, eval e X.env) :: starEach es X.env := by rfl) (hpl : (backTo pos (starEach es X.env)).any (·.1) = false := by rfl) : EX X Z (.Call (.Name x p) (e :: es) [] pos) (xCall op fs) := by
  obtain ⟨t, pa, h1⟩ := ha
  refine ⟨_, pe_callTy hc hg hm hv pa hn hdb he hpl, fun G I H σ τ s a s' Q w h q => ?_⟩
  obtain ⟨as, ea, eo⟩ := xCall_of h
  exact h1 _ _ _ _ _ _ _ _ _ w ea fun I1 H1 vs m1 w1 i1 => hr Z _ _ _ _ _ _ _ _ _ _ w1 i1 eo fun I2 H2 v m2 w2 i2 => q I2 H2 v (m1.trans m2) w2 i2
theorem en_callB {x : Str} {p : Pos} {id : String} {r : List V → Hp → VK → Prop} {op : List T → Option T} (hc : CallR X (.builtin id) r) (hr : Op1N X r op) (hg : Gl X x) (hm : X.mg x = none) (ha : EL X Z (e :: es) fs)
    (hv : bootBuiltins x = some (.builtin id) := by decide +kernel) (hn : x ≠ "__name__" := by decide) (hdb : (x == ("__debug__" : Str)) = false := by decide)
    (he : starEach (e :: es) X.env = (false, eval e X.env) :: starEach es X.env := by rfl) (hpl : (backTo pos (starEach es X.env)).any (·.1) = false := by rfl) : EN X Z (.Call (.Name x p) (e :: es) [] pos) (xCall op fs) := by
  obtain ⟨t, pa, h1⟩ := ha
  refine ⟨_, pe_callB hc hg hm hv pa hn hdb he hpl, fun G I H σ τ s a s' Q w h q => ?_⟩
  obtain ⟨as, ea, eo⟩ := xCall_of h
  exact h1 _ _ _ _ _ _ _ _ _ w ea fun I1 H1 vs m1 w1 i1 => hr Z _ _ _ _ _ _ _ _ _ _ w1 i1 eo fun I2 H2 p o m2 w2 u => q I2 H2 p o (m1.trans m2) w2 u
theorem en_callTy {x : Str} {p : Pos} {id : String} {r : List V → Hp → VK → Prop} {op : List T → Option T} (hc : CallR X (.type id) r) (hr : Op1N X r op) (hg : Gl X x) (hm : X.mg x = none) (ha : EL X Z (e :: es) fs)
    (hv : bootBuiltins x = some (.type id) := by decide +kernel) (hn : x ≠ "__name__" := by decide) (hdb : (x == ("__debug__" : Str)) = false := by decide)
    (he : starEach (e :: es) X.env = (false, eval e X.env) :: starEach es X.env := by rfl) (hpl : (backTo pos (starEach es X.env)).any (·.1) = false := by rfl) : EN X Z (.Call (.Name x p) (e :: es) [] pos) (xCall op fs) := by
  obtain ⟨t, pa, h1⟩ := ha
  refine ⟨_, pe_callTy hc hg hm hv pa hn hdb he hpl, fun G I H σ τ s a s' Q w h q => ?_⟩
  obtain ⟨as, ea, eo⟩ := xCall_of h
  exact h1 _ _ _ _ _ _ _ _ _ w ea fun I1 H1 vs m1 w1 i1 => hr Z _ _ _ _ _ _ _ _ _ _ w1 i1 eo fun I2 H2 p o m2 w2 u => q I2 H2 p o (m1.trans m2) w2 u
/-- a built-in class as a value -/
def xTy {Z : Res} (n : String) : EF Z := fun _ _ => none
/-! ### isinstance with a built-in class -/
def tyName : T → Option String
  | .non => some "NoneType"
  | .bl _ => some "bool"
  | .int _ => some "int"
  | .str _ => some "str"
  | .tup _ => some "tuple"
  | .lst _ => some "list"
  | .dct _ => some "dict"
  | _ => none
def isTy (n : String) (t : T) : Option Bool := match tyName t with
  | some m => some (m == n || (m == "bool" && n == "int"))
  | none => none
theorem tyX_of {G I H : Hp} {σ : St} {τ : List SV} {s : Z.S} (w : Rep X.K Z G I H σ τ s) {t : T} {x : V} {n : String} (i : Is X.K I t x) (h : tyName t = some n) : TyX X.K H x (.type n) := by
  cases t with
  | non => cases h; have i : x = _ := i; subst i; exact .base .non
  | bl k => cases h; have i : x = _ := i; subst i; exact .base (.bl k)
  | int k => cases h; have i : x = _ := i; subst i; exact .base (.int k)
  | str k => cases h; have i : x = _ := i; subst i; exact .base (.str k)
  | lst ts =>
    cases h
    obtain ⟨a, xs, rfl, h1, _⟩ := i
    exact .base (.lst (w.sub _ _ h1))
  | dct ts =>
    cases h
    obtain ⟨a, xs, rfl, h1, _⟩ := i
    exact .base (.dK (w.sub _ _ h1))
  | tup ts =>
    cases h
    obtain ⟨a, xs, rfl, h1, _⟩ := i
    rcases h1 with (h1 | ⟨o, h1⟩) | ⟨o, its, m, h1, h2, _⟩
    · exact .base (.tup (w.sub _ _ h1))
    · exact .fTuple (w.sub _ _ h1)
    · exact .kTuple h1 h2
  | ins C fs => cases h
  | adr C => cases h
def xIs {Z : Res} (n : String) (f : EF Z) : EF Z := fun τ s => match f τ s with
  | some (a, s') => match isTy n a with
    | some k => some (.bl k, s')
    | none => none
  | none => none
theorem kit_ty {K : PySem.W.Frag} {t : T} {m n : String} (hm : tyName t = some m) (hn : n = "str" ∨ n = "int" ∨ n = "bool" ∨ n = "tuple" ∨ n = "list" ∨ n = "dict") :
    PySem.W.kitOne K (.type m) (.type n) = some (m == n || (m == "bool" && n == "int")) := by
  cases t <;> first | (cases hm; rcases hn with rfl | rfl | rfl | rfl | rfl | rfl <;> rfl) | (cases hm; done)
theorem ex_isi {x y : Str} {p p' : Pos} {n : String} (hg : Gl X x) (hm : X.mg x = none) (he : EX X Z e f) (hgy : Gl X y) (hmy : X.mg y = none) (hvy : bootBuiltins y = some (.type n) := by decide +kernel)
    (hn : n = "str" ∨ n = "int" ∨ n = "bool" ∨ n = "tuple" ∨ n = "list" ∨ n = "dict" := by decide) (hv : bootBuiltins x = some (.builtin "isinstance") := by decide +kernel) (hnn : x ≠ "__name__" := by decide) (hdb : (x == ("__debug__" : Str)) = false := by decide)
    (hnny : y ≠ "__name__" := by decide) (hdby : (y == ("__debug__" : Str)) = false := by decide)
    (hst : starEach (e :: [.Name y p']) X.env = (false, eval e X.env) :: starEach [.Name y p'] X.env := by rfl) (hpl : (backTo pos (starEach [.Name y p'] X.env)).any (·.1) = false := by rfl) :
    EX X Z (.Call (.Name x p) [e, .Name y p'] [] pos) (xIs n f) := by
  obtain ⟨t, pe, h1⟩ := he
  refine ⟨_, pe_callB call_isi hg hm hv (pa_cons pe (pa_cons (pe_bltn hgy hmy hvy (v := .ty n) rfl hnny hdby) pa_nil) hst) hnn hdb hst hpl, fun G I H σ τ s a s' Q w h q => ?_⟩
  unfold xIs at h
  split at h
  · rename_i a s2 ea
    split at h
    · rename_i k ek
      cases h
      refine h1 _ _ _ _ _ _ _ _ _ w ea fun I1 H1 v m1 w1 i1 => ?_
      unfold isTy at ek
      split at ek
      · rename_i m em
        cases ek
        exact ⟨v, .ty n, _, _, _, rfl, .ty n, tyX_of w1 i1 em, kit_ty em hn, q I1 H1 _ m1 w1 rfl⟩
      · cases ek
    · cases h
  · cases h
/-! ### truth, tests -/
def tru : T → Option Bool
  | .non => some false
  | .bl b => some b
  | .int i => some (i != 0)
  | .str x => if x.length ≤ sizeLine then some ((x.length : Int) != 0) else none
  | .tup ts => some (!ts.isEmpty)
  | .lst ts => some (!ts.isEmpty)
  | .dct ps => some (!ps.isEmpty)
  | _ => none
theorem isEmpty_len {α β : Type} {xs : List α} {ys : List β} (h : xs.length = ys.length) : (!ys.isEmpty) = !xs.isEmpty := by
  cases xs <;> cases ys <;> simp_all
theorem IsD.len {K : PySem.W.Frag} {I : Hp} : ∀ {ts : List (Key × T)} {xs : List (Key × V)}, IsD K I ts xs → xs.length = ts.length
  | [], _, h => by
    have h : _ = [] := h
    rw [h]; rfl
  | (_, _) :: _, _, h => by
    obtain ⟨x, r, rfl, _, z⟩ := h
    rw [List.length_cons, List.length_cons, IsD.len z]
theorem truV_of {G I H : Hp} {σ : St} {τ : List SV} {s : Z.S} (w : Rep X.K Z G I H σ τ s) {t : T} {x : V} {k : Bool} (i : Is X.K I t x) (h : tru t = some k) : TruV X.K x H k := by
  cases t with
  | non => cases h; have i : x = _ := i; subst i; rfl
  | bl b => cases h; have i : x = _ := i; subst i; rfl
  | int b => cases h; have i : x = _ := i; subst i; rfl
  | str b =>
    have i : x = _ := i
    subst i
    have h : (if b.length ≤ sizeLine then some ((b.length : Int) != 0) else none) = some k := h
    split at h
    · rename_i hz
      cases h
      exact ⟨hz, rfl⟩
    · cases h
  | lst ts =>
    cases h
    obtain ⟨a, xs, rfl, h1, j⟩ := i
    exact .inl ⟨xs, .of (w.sub _ _ h1), isEmpty_len j.len⟩
  | dct ts =>
    cases h
    obtain ⟨a, xs, rfl, h1, j⟩ := i
    exact .inr (.inr ⟨xs, w.sub _ _ h1, isEmpty_len j.len⟩)
  | tup ts =>
    cases h
    obtain ⟨a, xs, rfl, h1, j⟩ := i
    exact .inr (.inl ⟨xs, sqt_mono w.sub h1, isEmpty_len j.len⟩)
  | ins C fs => cases h
  | adr C => cases h
def xTru {Z : Res} (f : EF Z) : EFb Z := fun τ s => match f τ s with
  | some (a, s') => match tru a with
    | some k => some (k, s')
    | none => none
  | none => none
theorem eb_tru (ha : EX X Z a fa) (he : ∀ whole, isTrue a X.env whole = (do let v ← whole; standAt a.pos; holding [v] (truthy v)) := by intro _; rfl) : EB X Z a (xTru fa) := by
  obtain ⟨t, p, h1⟩ := ha
  refine ⟨_, pt_truth p he, fun G I H σ τ s k s' Q w h q => ?_⟩
  unfold xTru at h
  split at h
  · rename_i a s2 ea
    split at h
    · rename_i d ed
      cases h
      exact h1 _ _ _ _ _ _ _ _ _ w ea fun I1 H1 v m1 w1 i1 => ⟨_, truV_of w1 i1 ed, q I1 H1 m1 w1⟩
    · cases h
  · cases h
def xbNot {Z : Res} (f : EFb Z) : EFb Z := fun τ s => match f τ s with
  | some (k, s') => some (!k, s')
  | none => none
theorem eb_not (ha : EB X Z a ft) : EB X Z (.UnaryOp .Not a pos) (xbNot ft) := by
  obtain ⟨t, p, h1⟩ := ha
  refine ⟨_, pt_not p, fun G I H σ τ s k s' Q w h q => ?_⟩
  unfold xbNot at h
  split at h
  · rename_i d s2 ea
    cases h
    exact h1 _ _ _ _ _ _ _ _ _ w ea fun I1 H1 m1 w1 => q I1 H1 m1 w1
  · cases h
/-- tests whatever their whole is -/
def EW (X : Cx) (Z : Res) (e : Expr) (f : EFb Z) : Prop :=
  ∃ t, PW X e t ∧ ∀ G I H σ τ s a s' Q, Rep X.K Z G I H σ τ s → f τ s = some (a, s') → HandB X Z G I σ τ s' a Q → t σ H Q
theorem eb_w (h : EW X Z e ft) : EB X Z e ft := by
  obtain ⟨t, p, h1⟩ := h
  exact ⟨t, p.pt, h1⟩
def xbAnd {Z : Res} (f g : EFb Z) : EFb Z := fun τ s => match f τ s with
  | some (true, s') => g τ s'
  | some (false, s') => some (false, s')
  | none => none
def xbOr {Z : Res} (f g : EFb Z) : EFb Z := fun τ s => match f τ s with
  | some (true, s') => some (true, s')
  | some (false, s') => g τ s'
  | none => none
theorem ew_and1 (ha : EB X Z a ft) : EW X Z (.BoolOp .And [a] pos) ft := by
  obtain ⟨t, p, h1⟩ := ha
  exact ⟨t, pw_and1 p, h1⟩
theorem ew_or1 (ha : EB X Z a ft) : EW X Z (.BoolOp .Or [a] pos) ft := by
  obtain ⟨t, p, h1⟩ := ha
  exact ⟨t, pw_or1 p, h1⟩
theorem ew_and (ha : EB X Z a ft) (hb : EW X Z (.BoolOp .And (b :: es) pos) fu) : EW X Z (.BoolOp .And (a :: b :: es) pos) (xbAnd ft fu) := by
  obtain ⟨t, p, h1⟩ := ha
  obtain ⟨u, p', h2⟩ := hb
  refine ⟨_, pw_and p p', fun G I H σ τ s k s' Q w h q => ?_⟩
  unfold xbAnd at h
  split at h
  · rename_i s2 ea
    exact h1 _ _ _ _ _ _ _ _ _ w ea fun I1 H1 m1 w1 => iteT (h2 _ _ _ _ _ _ _ _ _ w1 h fun I2 H2 m2 w2 => q I2 H2 (m1.trans m2) w2)
  · rename_i s2 ea
    cases h
    exact h1 _ _ _ _ _ _ _ _ _ w ea fun I1 H1 m1 w1 => iteF (q I1 H1 m1 w1)
  · cases h
theorem ew_or (ha : EB X Z a ft) (hb : EW X Z (.BoolOp .Or (b :: es) pos) fu) : EW X Z (.BoolOp .Or (a :: b :: es) pos) (xbOr ft fu) := by
  obtain ⟨t, p, h1⟩ := ha
  obtain ⟨u, p', h2⟩ := hb
  refine ⟨_, pw_or p p', fun G I H σ τ s k s' Q w h q => ?_⟩
  unfold xbOr at h
  split at h
  · rename_i s2 ea
    cases h
    exact h1 _ _ _ _ _ _ _ _ _ w ea fun I1 H1 m1 w1 => iteT (q I1 H1 m1 w1)
  · rename_i s2 ea
    exact h1 _ _ _ _ _ _ _ _ _ w ea fun I1 H1 m1 w1 => iteF (h2 _ _ _ _ _ _ _ _ _ w1 h fun I2 H2 m2 w2 => q I2 H2 (m1.trans m2) w2)
  · cases h
/-- .. as values -/
def xAnd {Z : Res} (f g : EF Z) : EF Z := fun τ s => match f τ s with
  | some (a, s') => match tru a with
    | some true => g τ s'
    | some false => some (a, s')
    | none => none
  | none => none
def xOr {Z : Res} (f g : EF Z) : EF Z := fun τ s => match f τ s with
  | some (a, s') => match tru a with
    | some true => some (a, s')
    | some false => g τ s'
    | none => none
  | none => none
def xNot {Z : Res} (f : EF Z) : EF Z := fun τ s => match f τ s with
  | some (a, s') => match tru a with
    | some k => some (.bl (!k), s')
    | none => none
  | none => none
theorem ex_bop1 {op : BoolOp} (h : EX X Z a fa) : EX X Z (.BoolOp op [a] pos) fa := by
  obtain ⟨t, p, h1⟩ := h
  exact ⟨t, pe_one p, h1⟩
theorem ex_and (ha : EX X Z a fa) (hb : EX X Z (.BoolOp .And (b :: es) pos) fb) : EX X Z (.BoolOp .And (a :: b :: es) pos) (xAnd fa fb) := by
  obtain ⟨t, p, h1⟩ := ha
  obtain ⟨u, p', h2⟩ := hb
  refine ⟨_, pe_andT p p', fun G I H σ τ s k s' Q w h q => ?_⟩
  unfold xAnd at h
  split at h
  · rename_i a s2 ea
    refine h1 _ _ _ _ _ _ _ _ _ w ea fun I1 H1 v m1 w1 i1 => ?_
    split at h
    · rename_i et
      exact ⟨true, truV_of w1 i1 et, iteT (h2 _ _ _ _ _ _ _ _ _ w1 h fun I2 H2 v m2 w2 i2 => q I2 H2 v (m1.trans m2) w2 i2)⟩
    · rename_i et
      cases h
      exact ⟨false, truV_of w1 i1 et, iteF (q I1 H1 v m1 w1 i1)⟩
    · cases h
  · cases h
theorem ex_or (ha : EX X Z a fa) (hb : EX X Z (.BoolOp .Or (b :: es) pos) fb) : EX X Z (.BoolOp .Or (a :: b :: es) pos) (xOr fa fb) := by
  obtain ⟨t, p, h1⟩ := ha
  obtain ⟨u, p', h2⟩ := hb
  refine ⟨_, pe_orT p p', fun G I H σ τ s k s' Q w h q => ?_⟩
  unfold xOr at h
  split at h
  · rename_i a s2 ea
    refine h1 _ _ _ _ _ _ _ _ _ w ea fun I1 H1 v m1 w1 i1 => ?_
    split at h
    · rename_i et
      cases h
      exact ⟨true, truV_of w1 i1 et, iteT (q I1 H1 v m1 w1 i1)⟩
    · rename_i et
      exact ⟨false, truV_of w1 i1 et, iteF (h2 _ _ _ _ _ _ _ _ _ w1 h fun I2 H2 v m2 w2 i2 => q I2 H2 v (m1.trans m2) w2 i2)⟩
    · cases h
  · cases h
theorem ex_not (ha : EX X Z a fa) : EX X Z (.UnaryOp .Not a pos) (xNot fa) := by
  obtain ⟨t, p, h1⟩ := ha
  refine ⟨_, pe_notT p, fun G I H σ τ s k s' Q w h q => ?_⟩
  unfold xNot at h
  split at h
  · rename_i a s2 ea
    refine h1 _ _ _ _ _ _ _ _ _ w ea fun I1 H1 v m1 w1 i1 => ?_
    split at h
    · rename_i k et
      cases h
      exact ⟨k, truV_of w1 i1 et, q I1 H1 _ m1 w1 rfl⟩
    · cases h
  · cases h
def xIf {Z : Res} (ft : EFb Z) (fa fb : EF Z) : EF Z := fun τ s => match ft τ s with
  | some (true, s') => fa τ s'
  | some (false, s') => fb τ s'
  | none => none
theorem ex_if (hc : EB X Z c ft) (ha : EX X Z a fa) (hb : EX X Z b fb) : EX X Z (.IfExp c a b pos) (xIf ft fa fb) := by
  obtain ⟨tc, pc, h0⟩ := hc
  obtain ⟨ta, pa, h1⟩ := ha
  obtain ⟨tb, pb, h2⟩ := hb
  refine ⟨_, pe_ifExp pc pa pb, fun G I H σ τ s k s' Q w h q => ?_⟩
  unfold xIf at h
  split at h
  · rename_i s2 ea
    exact h0 _ _ _ _ _ _ _ _ _ w ea fun I1 H1 m1 w1 => iteT (h1 _ _ _ _ _ _ _ _ _ w1 h fun I2 H2 v m2 w2 i2 => q I2 H2 v (m1.trans m2) w2 i2)
  · rename_i s2 ea
    exact h0 _ _ _ _ _ _ _ _ _ w ea fun I1 H1 m1 w1 => iteF (h2 _ _ _ _ _ _ _ _ _ w1 h fun I2 H2 v m2 w2 i2 => q I2 H2 v (m1.trans m2) w2 i2)
  · cases h
/-! ### methods of built-in types -/
def OpM (X : Cx) (r : V → List V → Hp → VK → Prop) (op : T → List T → Option T) : Prop :=
  ∀ (Z : Res) G I H σ τ s a as c x xs Q, Rep X.K Z G I H σ τ s → Is X.K I a x → IsL X.K I as xs → op a as = some c → Hand X Z G I σ τ s c Q → r x xs H Q
def xMeth {Z : Res} (ty : String) (op : T → List T → Option T) (f : EF Z) (fs : EFs Z) : EF Z := fun τ s => match f τ s with
  | some (a, s1) => if tyName a = some ty then match fs τ s1 with
      | some (as, s2) => match op a as with
        | some c => some (c, s2)
        | none => none
      | none => none
    else none
  | none => none
theorem tyV_of {G I H : Hp} {σ : St} {τ : List SV} {s : Z.S} (w : Rep X.K Z G I H σ τ s) {t : T} {x : V} {n : String} (i : Is X.K I t x) (h : tyName t = some n) (hn : n = "str" ∨ n = "dict" ∨ n = "list") : tyV X.K n x H := by
  cases t with
  | str k => cases h; have i : x = _ := i; subst i; rfl
  | lst ts =>
    cases h
    obtain ⟨a, xs, rfl, h1, _⟩ := i
    exact .inl ⟨rfl, xs, .of (w.sub _ _ h1)⟩
  | dct ts =>
    cases h
    obtain ⟨a, xs, rfl, h1, _⟩ := i
    exact .inr (.inr (.inl ⟨rfl, .inl ⟨xs, w.sub _ _ h1⟩⟩))
  | _ => first | (cases h; done) | (cases h; rcases hn with h | h | h <;> exact absurd h (by decide))
theorem ex_m0 {o : Expr} {fo : EF Z} {name : Str} {apos cpos : Pos} {Ty id : String} {r : V → List V → Hp → VK → Prop} {op : T → List T → Option T} (pa : PlainAttrs Ty) (slot : Slot Ty name id) (hty : typeOf (.builtin id) = pure (.type "method_descriptor"))
    (hm : MtR X id r) (hr : OpM X r op) (ho : EX X Z o fo) (hn : Ty = "str" ∨ Ty = "dict" ∨ Ty = "list" := by decide) (hbase : attributeBase o name X.env (eval o X.env) = eval o X.env := by rfl) (hline : (apos.endLine == cpos.line) = true := by rfl) :
    EX X Z (.Call (.Attribute o name apos) [] [] cpos) (xMeth Ty op fo xNil) := by
  obtain ⟨t, p, h1⟩ := ho
  refine ⟨_, pe_bm0 pa slot hty hm p hbase hline, fun G I H σ τ s a s' Q w h q => ?_⟩
  unfold xMeth at h
  split at h
  · rename_i a s1 ea
    split at h
    · rename_i et
      refine h1 _ _ _ _ _ _ _ _ _ w ea fun I1 H1 v m1 w1 i1 => ⟨tyV_of w1 i1 et hn, ?_⟩
      unfold xNil at h
      dsimp only at h
      split at h
      · rename_i c ec
        cases h
        exact hr Z _ _ _ _ _ _ _ _ _ _ _ _ w1 i1 IsL.nil ec fun I2 H2 v m2 w2 i2 => q I2 H2 v (m1.trans m2) w2 i2
      · cases h
    · cases h
  · cases h
theorem ex_m {o : Expr} {fo : EF Z} {name : Str} {apos cpos : Pos} {Ty id : String} {r : V → List V → Hp → VK → Prop} {op : T → List T → Option T} (pa : PlainAttrs Ty) (slot : Slot Ty name id) (hty : typeOf (.builtin id) = pure (.type "method_descriptor"))
    (hm : MtR X id r) (hr : OpM X r op) (ho : EX X Z o fo) (ha : EL X Z (e :: es) fs) (hn : Ty = "str" ∨ Ty = "dict" ∨ Ty = "list" := by decide) (hbase : attributeBase o name X.env (eval o X.env) = eval o X.env := by rfl)
    (hfew : ((backTo cpos (starEach (e :: es) X.env)).all (fun x => !x.1) && (backToKw cpos (keywordEach [] X.env)).all (fun x => x.1.isSome)
      && decide ((e :: es).length + ([] : List Keyword).length + (if ([] : List Keyword).isEmpty then 0 else 1) < 30)) = true := by rfl)
    (hline : (apos.endLine == cpos.line) = true := by rfl) (hs : starEach (e :: es) X.env = (false, eval e X.env) :: starEach es X.env := by rfl) (hplain : (backTo cpos (starEach es X.env)).any (·.1) = false := by rfl) :
    EX X Z (.Call (.Attribute o name apos) (e :: es) [] cpos) (xMeth Ty op fo fs) := by
  obtain ⟨t, p, h1⟩ := ho
  obtain ⟨ta, pas, h2⟩ := ha
  refine ⟨_, pe_bm pa slot hty hm p pas hbase hfew hline hs hplain, fun G I H σ τ s a s' Q w h q => ?_⟩
  unfold xMeth at h
  split at h
  · rename_i a s1 ea
    split at h
    · rename_i et
      split at h
      · rename_i as s2 eas
        split at h
        · rename_i c ec
          cases h
          refine h1 _ _ _ _ _ _ _ _ _ w ea fun I1 H1 v m1 w1 i1 => ⟨tyV_of w1 i1 et hn, ?_⟩
          refine h2 _ _ _ _ _ _ _ _ _ w1 eas fun I2 H2 vs m2 w2 i2 => ?_
          exact hr Z _ _ _ _ _ _ _ _ _ _ _ _ w2 (i1.mono m2) i2 ec fun I3 H3 v m3 w3 i3 => q I3 H3 v ((m1.trans m2).trans m3) w3 i3
        · cases h
      · cases h
    · cases h
  · cases h
end
end L2.TL
/-! TL3: statements told by trees. -/
namespace L2.TL
open PySem PySem.Spec
open PyProof.Rows
/-- how a statement ends -/
inductive Out (S : Type) where
  | nx (τ : List SV) (s : S) | rt (a : T) (s : S) | bk (τ : List SV) (s : S) | ct (τ : List SV) (s : S)
abbrev SF (Z : Res) := List SV → Z.S → Option (Out Z.S)
def Post (X : Cx) (Z : Res) (G I : Hp) (D : Ends) : Out Z.S → Prop
  | .nx τ s => ∀ I' H' σ', Same I I' → Rep X.K Z G I' H' σ' τ s → D.nx σ' H'
  | .bk τ s => ∀ I' H' σ', Same I I' → Rep X.K Z G I' H' σ' τ s → D.bk σ' H'
  | .ct τ s => ∀ I' H' σ', Same I I' → Rep X.K Z G I' H' σ' τ s → D.ct σ' H'
  | .rt a s => ∀ I' H' v, Same I I' → Rep0 Z G I' H' s → Is X.K I' a v → D.rt v H'
theorem Post.mono {X : Cx} {Z : Res} {G I I1 : Hp} {D : Ends} {o : Out Z.S} (m : Same I I1) (h : Post X Z G I D o) : Post X Z G I1 D o := by
  cases o with
  | nx τ s => exact fun I' H' σ' m' => h I' H' σ' (m.trans m')
  | bk τ s => exact fun I' H' σ' m' => h I' H' σ' (m.trans m')
  | ct τ s => exact fun I' H' σ' m' => h I' H' σ' (m.trans m')
  | rt a s => exact fun I' H' v m' => h I' H' v (m.trans m')
def SX (X : Cx) (Z : Res) (st : Stmt) (g : SF Z) : Prop :=
  ∃ t, PS X st t ∧ ∀ G I H σ τ s o D, Rep X.K Z G I H σ τ s → g τ s = some o → Post X Z G I D o → t D σ H
def SS (X : Cx) (Z : Res) (st : List Stmt) (g : SF Z) : Prop :=
  ∃ t, PSs X st t ∧ ∀ G I H σ τ s o D, Rep X.K Z G I H σ τ s → g τ s = some o → Post X Z G I D o → t D σ H
section
variable {X : Cx} {Z : Res} {st : Stmt} {sts : List Stmt} {g g1 g2 : SF Z} {e e1 e2 c : Expr} {f f1 f2 : EF Z} {fs : EFs Z} {fb : EFb Z} {pos : Pos}
def sSkip {Z : Res} : SF Z := fun τ s => some (.nx τ s)
def sSeq {Z : Res} (g1 g2 : SF Z) : SF Z := fun τ s => match g1 τ s with
  | some (.nx τ' s') => g2 τ' s'
  | o => o
theorem ss_nil : SS X Z [] sSkip := ⟨_, pss_nil, fun G I H σ τ s o D w h q => by
  cases h
  exact q I H σ (Same.refl _) w⟩
theorem ss_one (h : SX X Z st g) : SS X Z [st] g := by
  obtain ⟨t, p, h1⟩ := h
  exact ⟨t, pss_one p, h1⟩
theorem ss_cons (h1 : SX X Z st g1) (h2 : SS X Z sts g2) : SS X Z (st :: sts) (sSeq g1 g2) := by
  obtain ⟨t, p, q1⟩ := h1
  obtain ⟨u, p', q2⟩ := h2
  refine ⟨_, pss_cons p p', fun G I H σ τ s o D w h q => ?_⟩
  show t { D with nx := u D } σ H
  unfold sSeq at h
  split at h
  · rename_i τ' s' e1
    exact q1 _ _ _ _ _ _ _ _ w e1 fun I' H' σ' m w' => q2 _ _ _ _ _ _ _ _ w' h (q.mono m)
  · rename_i hn
    cases o with
    | nx τ' s' => exact absurd h (hn _ _)
    | bk τ' s' => exact q1 _ _ _ _ _ _ _ _ w h q
    | ct τ' s' => exact q1 _ _ _ _ _ _ _ _ w h q
    | rt a s' => exact q1 _ _ _ _ _ _ _ _ w h q
theorem sx_pass : SX X Z (.Pass pos) sSkip := ⟨_, ps_pass, fun G I H σ τ s o D w h q => by
  cases h
  exact q I H σ (Same.refl _) w⟩
theorem sx_doc {x : Str} {j : Nat} {pos' : Pos} : SX X Z (.Expr (.Constant (.str x) j pos) pos') sSkip := ⟨_, ps_doc, fun G I H σ τ s o D w h q => by
  cases h
  exact q I H σ (Same.refl _) w⟩
def sBk {Z : Res} : SF Z := fun τ s => some (.bk τ s)
def sCt {Z : Res} : SF Z := fun τ s => some (.ct τ s)
theorem sx_bk : SX X Z (.Break pos) sBk := ⟨_, ps_break, fun G I H σ τ s o D w h q => by
  cases h
  exact q I H σ (Same.refl _) w⟩
theorem sx_ct : SX X Z (.Continue pos) sCt := ⟨_, ps_continue, fun G I H σ τ s o D w h q => by
  cases h
  exact q I H σ (Same.refl _) w⟩
def sRet {Z : Res} (f : EF Z) : SF Z := fun τ s => match f τ s with
  | some (a, s') => some (.rt a s')
  | none => none
theorem sx_ret (h : EX X Z e f) : SX X Z (.Return (some e) pos) (sRet f) := by
  obtain ⟨t, p, h1⟩ := h
  refine ⟨_, ps_ret p, fun G I H σ τ s o D w h q => ?_⟩
  unfold sRet at h
  split at h
  · rename_i a s' ea
    cases h
    exact h1 _ _ _ _ _ _ _ _ _ w ea fun I' H' v m w' i => q I' H' v m w'.toRep0 i
  · cases h
def sRetN {Z : Res} : SF Z := fun _ s => some (.rt .non s)
theorem sx_retN : SX X Z (.Return none pos) sRetN := ⟨_, ps_retN, fun G I H σ τ s o D w h q => by
  cases h
  exact q I H .non (Same.refl _) w.toRep0 rfl⟩
def sDrop {Z : Res} (f : EF Z) : SF Z := fun τ s => match f τ s with
  | some (_, s') => some (.nx τ s')
  | none => none
theorem sx_expr (h : EX X Z e f) (hs : swapsWith e none pos.line X.env = pure false := by rfl) : SX X Z (.Expr e pos) (sDrop f) := by
  obtain ⟨t, p, h1⟩ := h
  refine ⟨_, ps_expr p hs, fun G I H σ τ s o D w h q => ?_⟩
  unfold sDrop at h
  split at h
  · rename_i a s' ea
    cases h
    exact h1 _ _ _ _ _ _ _ _ _ w ea fun I' H' v m w' i => q I' H' σ m w'
  · cases h
def sIf {Z : Res} (c : EFb Z) (g1 g2 : SF Z) : SF Z := fun τ s => match c τ s with
  | some (true, s') => g1 τ s'
  | some (false, s') => g2 τ s'
  | none => none
theorem sx_if {a b : List Stmt} (hc : EB X Z c fb) (ha : SS X Z a g1) (hb : SS X Z b g2) : SX X Z (.If c a b pos) (sIf fb g1 g2) := by
  obtain ⟨t, p, h0⟩ := hc
  obtain ⟨ta, pa, h1⟩ := ha
  obtain ⟨tb, pb, h2⟩ := hb
  refine ⟨_, ps_if p pa pb, fun G I H σ τ s o D w h q => ?_⟩
  unfold sIf at h
  split at h
  · rename_i s' ec
    exact h0 _ _ _ _ _ _ _ _ _ w ec fun I' H' m w' => iteT (h1 _ _ _ _ _ _ _ _ w' h (q.mono m))
  · rename_i s' ec
    exact h0 _ _ _ _ _ _ _ _ _ w ec fun I' H' m w' => iteF (h2 _ _ _ _ _ _ _ _ w' h (q.mono m))
  · cases h
/-! ### stores -/
def sSet {Z : Res} (i : Nat) (f : EF Z) : SF Z := fun τ s => match f τ s with
  | some (a, s') => if i < τ.length then some (.nx (τ.set i (.im a)) s') else none
  | none => none
/-- .. of a new object, the slot's own -/
def sSetO {Z : Res} (i : Nat) (f : EF Z) : SF Z := fun τ s => match f τ s with
  | some (a, s') => if i < τ.length then some (.nx (τ.set i (.ow a)) s') else none
  | none => none
theorem sx_set {i : Nat} {x : Str} {pos' : Pos} (hN : X.N.Nodup) (hi : X.N[i]? = some x := by rfl) (he : EX X Z e f) (hx : Loc X.env.scope x := by first | exact Or.inl rfl | exact Or.inr rfl) (hs : swapsWith e (some (.Name x pos')) pos.line X.env = pure false := by rfl)
    (hf : X.fn x = true ∨ X.env.scope.names.lookup x = some .local := by first | exact .inl rfl | exact .inr rfl | assumption) : SX X Z (.Assign [.Name x pos'] e pos) (sSet i f) := by
  obtain ⟨t, p, h1⟩ := he
  refine ⟨_, ps_set hN hi hx p hs hf, fun G I H σ τ s o D w h q => ?_⟩
  unfold sSet at h
  split at h
  · rename_i a s' ea
    split at h
    · rename_i hl
      cases h
      exact h1 _ _ _ _ _ _ _ _ _ w ea fun I' H' v m w' i' => q I' H' _ m (w'.setIm hl i')
    · cases h
  · cases h
theorem sx_setO {i : Nat} {x : Str} {pos' : Pos} (hN : X.N.Nodup) (hi : X.N[i]? = some x := by rfl) (he : EN X Z e f) (hx : Loc X.env.scope x := by first | exact Or.inl rfl | exact Or.inr rfl) (hs : swapsWith e (some (.Name x pos')) pos.line X.env = pure false := by rfl)
    (hf : X.fn x = true ∨ X.env.scope.names.lookup x = some .local := by first | exact .inl rfl | exact .inr rfl | assumption) : SX X Z (.Assign [.Name x pos'] e pos) (sSetO i f) := by
  obtain ⟨t, p, h1⟩ := he
  refine ⟨_, ps_set hN hi hx p hs hf, fun G I H σ τ s o D w h q => ?_⟩
  unfold sSetO at h
  split at h
  · rename_i a s' ea
    split at h
    · rename_i hl
      cases h
      exact h1 _ _ _ _ _ _ _ _ _ w ea fun I' H' p o m w' u => q I' H' _ m (w'.setOw hl u)
    · cases h
  · cases h
/-- a slot's own object lasts from now on: ahead of any block -/
def sFreeze {Z : Res} (i : Nat) (g : SF Z) : SF Z := fun τ s => match τ[i]? with
  | some (.ow t) => g (τ.set i (.im t)) s
  | _ => none
theorem ss_freeze (i : Nat) (h : SS X Z sts g) : SS X Z sts (sFreeze i g) := by
  obtain ⟨t, p, h1⟩ := h
  refine ⟨t, p, fun G I H σ τ s o D w h q => ?_⟩
  unfold sFreeze at h
  split at h
  · rename_i a ea
    obtain ⟨I', m, w'⟩ := w.freeze ea
    exact h1 _ _ _ _ _ _ _ _ w' h (q.mono m)
  · cases h
/-! ### targets -/
abbrev GF := T → List SV → Option (List SV)
def GX (X : Cx) (Z : Res) (tg : Expr) (g : GF) : Prop :=
  ∃ t : TG, PG X tg t ∧ ∀ G I H σ τ (s : Z.S) a v τ' Q, Rep X.K Z G I H σ τ s → Is X.K I a v → g a τ = some τ' → (∀ σ', Rep X.K Z G I H σ' τ' s → Q σ' H) → t v σ H Q
abbrev GFs := List T → List SV → Option (List SV)
def GXs (X : Cx) (Z : Res) (tg : List Expr) (g : GFs) : Prop :=
  ∃ t : TGs, PGs X tg t ∧ ∀ G I H σ τ (s : Z.S) as vs τ' Q, Rep X.K Z G I H σ τ s → IsL X.K I as vs → g as τ = some τ' → (∀ σ', Rep X.K Z G I H σ' τ' s → Q σ' H) → t vs σ H Q
def gSet (i : Nat) : GF := fun a τ => if i < τ.length then some (τ.set i (.im a)) else none
theorem gx_name {i : Nat} {x : Str} (hN : X.N.Nodup) (hi : X.N[i]? = some x := by rfl) (hx : Loc X.env.scope x := by first | exact Or.inl rfl | exact Or.inr rfl)
    (hf : X.fn x = true ∨ X.env.scope.names.lookup x = some .local := by first | exact .inl rfl | exact .inr rfl | assumption) : GX X Z (.Name x pos) (gSet i) := by
  refine ⟨_, pg_name hN hi hx hf, fun G I H σ τ s a v τ' Q w ia h q => ?_⟩
  unfold gSet at h
  split at h
  · rename_i hl
    cases h
    exact q _ (w.setIm hl ia)
  · cases h
def gsNil : GFs := fun as τ => match as with
  | [] => some τ
  | _ => none
def gsCons (g : GF) (gs : GFs) : GFs := fun as τ => match as with
  | a :: r => match g a τ with
    | some τ' => gs r τ'
    | none => none
  | _ => none
theorem gxs_nil : GXs X Z [] gsNil := ⟨_, pgs_nil, fun G I H σ τ s as vs τ' Q w ia h q => by
  cases as with
  | nil =>
    cases h
    exact ⟨ia.zero, q σ w⟩
  | cons _ _ => cases h⟩
theorem gxs_cons {tg : Expr} {tgs : List Expr} {g : GF} {gs : GFs} (h1 : GX X Z tg g) (h2 : GXs X Z tgs gs) (hs : (assignEach (tg :: tgs) X.env).map (·.2) = assign tg X.env :: (assignEach tgs X.env).map (·.2) := by rfl) : GXs X Z (tg :: tgs) (gsCons g gs) := by
  obtain ⟨t, p, q1⟩ := h1
  obtain ⟨u, p', q2⟩ := h2
  refine ⟨_, pgs_cons p p' hs, fun G I H σ τ s as vs τ' Q w ia h q => ?_⟩
  cases as with
  | nil => cases h
  | cons a r =>
    obtain ⟨v, vr, rfl, i1, i2⟩ := ia
    have h : (match g a τ with
      | some τ' => gs r τ'
      | none => none) = some τ' := h
    split at h
    · rename_i τ1 e1
      exact ⟨v, vr, rfl, q1 _ _ _ _ _ s _ _ _ _ w i1 e1 fun σ1 w1 => q2 _ _ _ _ _ s _ _ _ _ w1 i2 h q⟩
    · cases h
def gTupT (n : Nat) (gs : GFs) : GF := fun a τ => match a with
  | .tup as => if as.length = n then gs as τ else none
  | _ => none
theorem gx_tup {es : List Expr} {k : Nat} {gs : GFs} {n : Nat} (hc : X.calm = true) (h : GXs X Z es gs) (hn : (assignEach es X.env).length = n := by rfl) (hst : (assignEach es X.env).findIdx? (·.1) = none := by rfl) : GX X Z (.Tuple es k pos) (gTupT n gs) := by
  obtain ⟨t, p, q1⟩ := h
  refine ⟨_, pg_tup hc p hn hst, fun G I H σ τ s a v τ' Q w ia h q => ?_⟩
  unfold gTupT at h
  split at h
  · rename_i as
    split at h
    · rename_i hl
      obtain ⟨b, xs, rfl, hq, j⟩ := ia
      exact ⟨b, xs, rfl, sqt_mono w.sub hq, by rw [j.len]; exact hl, q1 _ _ _ _ _ s _ _ _ _ w j h q⟩
    · cases h
  · cases h
/-- a target of any form = e -/
def sAsg {Z : Res} (f : EF Z) (g : GF) : SF Z := fun τ s => match f τ s with
  | some (a, s') => match g a τ with
    | some τ' => some (.nx τ' s')
    | none => none
  | none => none
theorem sx_asg {tg : Expr} {g : GF} (he : EX X Z e f) (hg : GX X Z tg g) (hs : swapsWithSole [tg] e pos.line X.env = pure false := by rfl) (hw : swappedStores [tg] e X.env = pure none := by rfl)
    (h1 : (assignEach [tg] X.env).map (·.2) = [assign tg X.env] := by rfl) : SX X Z (.Assign [tg] e pos) (sAsg f g) := by
  obtain ⟨t, p, q1⟩ := he
  obtain ⟨u, p', q2⟩ := hg
  refine ⟨_, ps_asg p p' hs hw h1, fun G I H σ τ s o D w h q => ?_⟩
  unfold sAsg at h
  split at h
  · rename_i a s' ea
    split at h
    · rename_i τ' et
      cases h
      exact q1 _ _ _ _ _ _ _ _ _ w ea fun I' H' v m w' i' => q2 _ _ _ _ _ s' _ _ _ _ w' i' et fun σ' w2 => q I' H' σ' m w2
    · cases h
  · cases h
/-- a, b = x, y (both sides written) -/
def sPar {Z : Res} (i j : Nat) (fs : EFs Z) : SF Z := fun τ s => match fs τ s with
  | some ([a, b], s') => if i < τ.length ∧ j < τ.length then some (.nx ((τ.set i (.im a)).set j (.im b)) s') else none
  | _ => none
theorem sx_par {i j : Nat} {x y : Str} {a b : Expr} {px py pt : Pos} {kt k2 : Nat} {pt2 : Pos} (hc : X.calm = true) (hN : X.N.Nodup) (hi : X.N[i]? = some x := by rfl) (hj : X.N[j]? = some y := by rfl) (ha : EL X Z [a, b] fs) (hij : i ≠ j := by decide)
    (hx : X.env.scope.names.lookup x = some .local := by rfl) (hy : X.env.scope.names.lookup y = some .local := by rfl)
    (hw : swappedStores [.Tuple [.Name x px, .Name y py] kt pt] (.Tuple [a, b] k2 pt2) X.env = pure (some [x, y]) := by rfl)
    (hs : swapsWithSole [.Tuple [.Name x px, .Name y py] kt pt] (.Tuple [a, b] k2 pt2) pos.line X.env = pure false := by rfl) :
    SX X Z (.Assign [.Tuple [.Name x px, .Name y py] kt pt] (.Tuple [a, b] k2 pt2) pos) (sPar i j fs) := by
  obtain ⟨t, p, q1⟩ := ha
  refine ⟨_, ps_par hc hN hi hj hij hx hy p hw hs, fun G I H σ τ s o D w h q => ?_⟩
  unfold sPar at h
  split at h
  · rename_i u v s' ea
    split at h
    · rename_i hl
      cases h
      refine q1 _ _ _ _ _ _ _ _ _ w ea fun I' H' vs m w' il => ?_
      obtain ⟨y1, y2, rfl, i1, i2⟩ := il.two
      exact ⟨y1, y2, rfl, q I' H' _ m ((w'.setIm hl.1 i1).setIm (by rw [List.length_set]; exact hl.2) i2)⟩
    · cases h
  · cases h
def sPar3 {Z : Res} (i j l : Nat) (fs : EFs Z) : SF Z := fun τ s => match fs τ s with
  | some ([a, b, c], s') => if i < τ.length ∧ j < τ.length ∧ l < τ.length then some (.nx (((τ.set i (.im a)).set j (.im b)).set l (.im c)) s') else none
  | _ => none
/-! ### what is walked -/
/-- J hands out the items, whatever else is made meanwhile -/
def Walks' (K : PySem.W.Frag) (J : It) (I0 : Hp) (items : List T) : Prop :=
  ∀ I H, Same I0 I → Same I H → J.stop items.length H ∧ ∀ (i : Nat) (t : T), items[i]? = some t → J.go i H ∧ ∀ x H', J.yld i H x H' → ∃ I', Ext (fun _ => False) I H I' H' ∧ Is K I' t x
def IX (X : Cx) (Z : Res) (tg it : Expr) (f : EFs Z) : Prop :=
  ∃ wi, PI X tg it wi ∧ ∀ G I H σ τ s items s' R, Rep X.K Z G I H σ τ s → f τ s = some (items, s') → (∀ I' H' J, Same I I' → Rep X.K Z G I' H' σ τ s' → Walks' X.K J I' items → R J H') → wi σ H R
/-- a list or a tuple -/
def iSeq {Z : Res} (f : EF Z) : EFs Z := fun τ s => match f τ s with
  | some (.lst ts, s') => some (ts, s')
  | _ => none
def iTupl {Z : Res} (f : EF Z) : EFs Z := fun τ s => match f τ s with
  | some (.tup ts, s') => some (ts, s')
  | _ => none
theorem sqT_inj {G I H : Hp} {σ : St} {τ : List SV} {s : Z.S} : True := trivial
theorem ix_lst {tg : Expr} (h : EX X Z e f) : IX X Z tg e (iSeq f) := by
  obtain ⟨t, p, h1⟩ := h
  refine ⟨_, pi_list p, fun G I H σ τ s items s' R w h q => ?_⟩
  unfold iSeq at h
  split at h
  · rename_i ts s2 ea
    cases h
    refine h1 _ _ _ _ _ _ _ _ _ w ea fun I' H' v m w' i => ?_
    obtain ⟨a, xs, rfl, ha, j⟩ := i
    refine ⟨a, rfl, ⟨xs, .of (w'.sub _ _ ha)⟩, q I' H' _ m w' fun I2 H2 m2 s2 => ?_⟩
    have hs : SqL X.K H2 a xs := .of (s2 _ _ (m2 _ _ ha))
    refine ⟨⟨xs, hs, by rw [j.len]; exact Nat.le_refl _⟩, fun i t e => ?_⟩
    obtain ⟨x, e1, e2⟩ := j.at e
    refine ⟨⟨xs, x, hs, e1⟩, fun y H3 hy => ?_⟩
    obtain ⟨rfl, hy⟩ := hy
    have := hy xs hs
    rw [e1] at this
    cases this
    exact ⟨I2, Ext.refl s2, e2.mono m2⟩
  · cases h
theorem ix_tupl {tg : Expr} (h : EX X Z e f) : IX X Z tg e (iTupl f) := by
  obtain ⟨t, p, h1⟩ := h
  refine ⟨_, pi_tup p, fun G I H σ τ s items s' R w h q => ?_⟩
  unfold iTupl at h
  split at h
  · rename_i ts s2 ea
    cases h
    refine h1 _ _ _ _ _ _ _ _ _ w ea fun I' H' v m w' i => ?_
    obtain ⟨a, xs, rfl, ha, j⟩ := i
    refine ⟨a, rfl, ⟨xs, sqt_mono w'.sub ha⟩, q I' H' _ m w' fun I2 H2 m2 s2 => ?_⟩
    have hs : SqT X.K H2 a xs := sqt_mono s2 (sqt_mono m2 ha)
    refine ⟨⟨xs, hs, by rw [j.len]; exact Nat.le_refl _⟩, fun i t e => ?_⟩
    obtain ⟨x, e1, e2⟩ := j.at e
    refine ⟨⟨xs, x, hs, e1⟩, fun y H3 hy => ?_⟩
    obtain ⟨rfl, hy⟩ := hy
    have := hy xs hs
    rw [e1] at this
    cases this
    exact ⟨I2, Ext.refl s2, e2.mono m2⟩
  · cases h
/-- range(n), range(a, b) -/
def intsFrom (lo : Int) : Nat → List T
  | 0 => []
  | n + 1 => .int lo :: intsFrom (lo + 1) n
theorem intsFrom_len : ∀ (n : Nat) (lo : Int), (intsFrom lo n).length = n
  | 0, _ => rfl
  | n + 1, lo => by rw [intsFrom, List.length_cons, intsFrom_len n]
theorem intsFrom_at : ∀ (n : Nat) (lo : Int) (i : Nat) (t : T), (intsFrom lo n)[i]? = some t → i < n ∧ t = .int (lo + i)
  | 0, _, _, _, h => by simp [intsFrom] at h
  | n + 1, lo, 0, t, h => by
    simp [intsFrom] at h
    subst h
    exact ⟨Nat.succ_pos _, by simp⟩
  | n + 1, lo, i + 1, t, h => by
    obtain ⟨h1, h2⟩ := intsFrom_at n (lo + 1) i t (by simpa [intsFrom] using h)
    subst h2
    refine ⟨Nat.succ_lt_succ h1, ?_⟩
    have : lo + 1 + (i : Int) = lo + ((i + 1 : Nat) : Int) := by push_cast; omega
    rw [this]
def iRng {Z : Res} (f : EF Z) : EFs Z := fun τ s => match f τ s with
  | some (.int n, s') => if -(2 ^ 62) ≤ n ∧ n < 2 ^ 62 then some (intsFrom 0 n.toNat, s') else none
  | _ => none
def iRngAB {Z : Res} (f1 f2 : EF Z) : EFs Z := fun τ s => match f1 τ s with
  | some (.int m, s1) => match f2 τ s1 with
    | some (.int n, s') => if -(2 ^ 62) ≤ m ∧ m < 2 ^ 62 ∧ -(2 ^ 62) ≤ n ∧ n < 2 ^ 62 then some (intsFrom m (n - m).toNat, s') else none
    | _ => none
  | _ => none
theorem walks_range (K : PySem.W.Frag) (I0 : Hp) (lo : Int) (n : Nat) : Walks' K (Itr lo n) I0 (intsFrom lo n) := fun I H m sb => by
  rw [intsFrom_len]
  refine ⟨Nat.le_refl _, fun i t e => ?_⟩
  obtain ⟨h1, rfl⟩ := intsFrom_at _ _ _ _ e
  refine ⟨h1, fun x H' hy => ?_⟩
  obtain ⟨rfl, rfl⟩ := hy
  exact ⟨I, Ext.refl sb, rfl⟩
theorem ix_rng {tg : Expr} {p : Pos} (hg : Gl X "range") (hm : X.mg "range" = none) (h : EX X Z e f) (hs : starEach [e] X.env = [(false, eval e X.env)] := by rfl) : IX X Z tg (.Call (.Name "range" p) [e] [] pos) (iRng f) := by
  obtain ⟨t, pe, h1⟩ := h
  refine ⟨_, pi_range1 hg hm (pa_cons pe pa_nil (by rw [hs]; rfl)) hs, fun G I H σ τ s items s' R w h q => ?_⟩
  unfold iRng at h
  split at h
  · rename_i n s2 ea
    split at h
    · rename_i hn
      cases h
      refine h1 _ _ _ _ _ _ _ _ _ w ea fun I' H' v m w' i => ?_
      have i : v = _ := i
      subst i
      exact ⟨n, rfl, hn.1, hn.2, q I' H' _ m w' (walks_range _ _ _ _)⟩
    · cases h
  · cases h
theorem ix_rngAB {tg : Expr} {p : Pos} (hg : Gl X "range") (hm : X.mg "range" = none) (h : EX X Z e1 f1) (h' : EX X Z e2 f2) (hs : starEach [e1, e2] X.env = [(false, eval e1 X.env), (false, eval e2 X.env)] := by rfl) (hs2 : starEach [e2] X.env = [(false, eval e2 X.env)] := by rfl) :
    IX X Z tg (.Call (.Name "range" p) [e1, e2] [] pos) (iRngAB f1 f2) := by
  obtain ⟨t, pe, q1⟩ := h
  obtain ⟨t', pe', q2⟩ := h'
  refine ⟨_, pi_range2 hg hm (pa_cons pe (pa_cons pe' pa_nil (by rw [hs2]; rfl)) (by rw [hs, hs2])) hs hs2, fun G I H σ τ s items s' R w h q => ?_⟩
  unfold iRngAB at h
  split at h
  · rename_i n s2 ea
    split at h
    · rename_i k s3 eb
      split at h
      · rename_i hn
        cases h
        refine q1 _ _ _ _ _ _ _ _ _ w ea fun I' H' v m w' i => ?_
        refine q2 _ _ _ _ _ _ _ _ _ w' eb fun I2 H2 v2 m2 w2 i2 => ?_
        have i : v = _ := i
        have i2 : v2 = _ := i2
        subst i i2
        exact ⟨n, k, rfl, hn, q I2 H2 _ (m.trans m2) w2 (walks_range _ _ _ _)⟩
      · cases h
    · cases h
  · cases h
/-- a text, sign by sign -/
def signs (x : Str) : List T := x.cps.toList.map fun c => .str ⟨#[c]⟩
def iStr {Z : Res} (f : EF Z) : EFs Z := fun τ s => match f τ s with
  | some (.str x, s') => some (signs x, s')
  | _ => none
theorem ix_str' {tg : Expr} (h : EX X Z e f) : IX X Z tg e (iStr f) := by
  obtain ⟨t, p, h1⟩ := h
  refine ⟨_, pi_str p, fun G I H σ τ s items s' R w h q => ?_⟩
  unfold iStr at h
  split at h
  · rename_i x s2 ea
    cases h
    refine h1 _ _ _ _ _ _ _ _ _ w ea fun I' H' v m w' i => ?_
    have i : v = _ := i
    subst i
    refine ⟨x, rfl, q I' H' _ m w' fun I2 H2 m2 sb => ?_⟩
    have hl : (signs x).length = x.cps.size := by simp [signs]
    rw [hl]
    refine ⟨Nat.le_refl _, fun i t e => ?_⟩
    have hi : i < x.cps.size := by
      have := (List.getElem?_eq_some_iff.mp e).1
      omega
    refine ⟨hi, fun y H3 hy => ?_⟩
    obtain ⟨rfl, c, hc, rfl⟩ := hy
    refine ⟨I2, Ext.refl sb, ?_⟩
    unfold signs at e
    rw [List.getElem?_map, Array.getElem?_toList, hc] at e
    cases e
    rfl
  · cases h
/-! ### for, while -/
def sFor {Z : Res} (gt : GF) (gb : SF Z) : List T → SF Z
  | [] => fun τ s => some (.nx τ s)
  | a :: r => fun τ s => match gt a τ with
    | some τ1 => match gb τ1 s with
      | some (.nx τ2 s2) => sFor gt gb r τ2 s2
      | some (.ct τ2 s2) => sFor gt gb r τ2 s2
      | some (.bk τ2 s2) => some (.nx τ2 s2)
      | some (.rt v s2) => some (.rt v s2)
      | none => none
    | none => none
def sForE {Z : Res} (fi : EFs Z) (gt : GF) (gb : SF Z) : SF Z := fun τ s => match fi τ s with
  | some (items, s') => sFor gt gb items τ s'
  | none => none
theorem drop_at {α : Type} {l : List α} {i : Nat} {a : α} {r : List α} (h : l.drop i = a :: r) : l[i]? = some a ∧ l.drop (i + 1) = r := by
  have hi : i < l.length := by
    rcases Nat.lt_or_ge i l.length with h' | h'
    · exact h'
    · rw [List.drop_eq_nil_of_le h'] at h
      cases h
  rw [List.drop_eq_getElem_cons hi] at h
  injection h with h1 h2
  exact ⟨by rw [List.getElem?_eq_getElem hi, h1], h2⟩
theorem sx_for {tg it : Expr} {body : List Stmt} {fi : EFs Z} {gt : GF} {gb : SF Z} (hp : PassesOwn (model X.prog X.w) X.A X.env X.xe) (hc : X.calm = true) (hi : IX X Z tg it fi) (hg : GX X Z tg gt) (hb : SS X Z body gb)
    (hs : ∀ x, foldedSetIterable it X.env x = pure x := by intro _; rfl) : SX X Z (.For tg it body [] pos) (sForE fi gt gb) := by
  obtain ⟨wi, pi, hwi⟩ := hi
  obtain ⟨tg', pg, hg⟩ := hg
  obtain ⟨tb, pb, hb⟩ := hb
  refine ⟨_, ps_for hp hc pi pg pb hs, fun G I H σ τ s o D w h q => ?_⟩
  unfold sForE at h
  split at h
  · rename_i items s1 ei
    refine hwi _ _ _ _ _ _ _ _ _ w ei fun I1 H1 J m1 w1 wk => ?_
    refine ⟨fun i m σ H => m = items.length - i ∧ i ≤ items.length ∧ ∃ I τ s, Same I1 I ∧ Rep X.K Z G I H σ τ s ∧ sFor gt gb (items.drop i) τ s = some o, ⟨_, rfl, Nat.zero_le _, I1, τ, s1, Same.refl _, w1, by rw [List.drop_zero]; exact h⟩, ?_⟩
    rintro i m σ2 H2 ⟨rfl, hle, I2, τ2, s2, m2, w2, e2⟩
    obtain ⟨st, gy⟩ := wk I2 H2 m2 w2.sub
    cases ed : items.drop i with
    | nil =>
      have hi : i = items.length := by
        have := congrArg List.length ed
        rw [List.length_drop, List.length_nil] at this
        omega
      subst hi
      rw [ed] at e2
      cases e2
      exact .inl ⟨st, q I2 H2 σ2 (m1.trans m2) w2⟩
    | cons a r =>
      obtain ⟨ea, er⟩ := drop_at ed
      have hi : i < items.length := (List.getElem?_eq_some_iff.mp ea).1
      obtain ⟨go, yl⟩ := gy i a ea
      rw [ed] at e2
      have e2 : (match gt a τ2 with
        | some τ1 => match gb τ1 s2 with
          | some (.nx τ2 s2) => sFor gt gb r τ2 s2
          | some (.ct τ2 s2) => sFor gt gb r τ2 s2
          | some (.bk τ2 s2) => some (.nx τ2 s2)
          | some (.rt v s2) => some (.rt v s2)
          | none => none
        | none => none) = some o := e2
      refine .inr ⟨go, fun σ H => ∃ I τ s, Same I1 I ∧ Rep X.K Z G I H σ τ s ∧ sFor gt gb r τ s = some o, fun σ' H' ⟨I', τ', s', hm, hw, he⟩ => ⟨items.length - (i + 1), by omega, rfl, hi, I', τ', s', hm, hw, by rw [er]; exact he⟩, fun x H3 hy => ?_⟩
      obtain ⟨I3, ex, ix⟩ := yl x H3 hy
      have w3 := w2.extN ex
      split at e2
      · rename_i τ3 et
        refine hg _ _ _ _ _ s2 _ _ _ _ w3 ix et fun σ3 w4 => ?_
        have m3 := m2.trans ex.im
        split at e2
        · rename_i τ4 s4 eb
          exact hb _ _ _ _ _ _ _ _ w4 eb fun I' H' σ' hm hw => ⟨I', τ4, s4, m3.trans hm, hw, e2⟩
        · rename_i τ4 s4 eb
          exact hb _ _ _ _ _ _ _ _ w4 eb fun I' H' σ' hm hw => ⟨I', τ4, s4, m3.trans hm, hw, e2⟩
        · rename_i τ4 s4 eb
          cases e2
          exact hb _ _ _ _ _ _ _ _ w4 eb fun I' H' σ' hm hw => q I' H' σ' (m1.trans (m3.trans hm)) hw
        · rename_i v s4 eb
          cases e2
          exact hb _ _ _ _ _ _ _ _ w4 eb fun I' H' v' hm hw hi' => q I' H' v' (m1.trans (m3.trans hm)) hw hi'
        · cases e2
      · cases e2
  · cases h
def sWhileN {Z : Res} (c : EFb Z) (gb : SF Z) : Nat → SF Z
  | 0 => fun _ _ => none
  | n + 1 => fun τ s => match c τ s with
    | some (false, s1) => some (.nx τ s1)
    | some (true, s1) => match gb τ s1 with
      | some (.nx τ2 s2) => sWhileN c gb n τ2 s2
      | some (.ct τ2 s2) => sWhileN c gb n τ2 s2
      | some (.bk τ2 s2) => some (.nx τ2 s2)
      | some (.rt v s2) => some (.rt v s2)
      | none => none
    | none => none
open Classical in
/-- .. however many turns it takes -/
noncomputable def sWhile {Z : Res} (c : EFb Z) (gb : SF Z) : SF Z := fun τ s => if h : ∃ n o, sWhileN c gb n τ s = some o then sWhileN c gb h.choose τ s else none
theorem sWhileN_succ {c : EFb Z} {gb : SF Z} : ∀ (n : Nat) (τ : List SV) (s : Z.S) (o : Out Z.S), sWhileN c gb n τ s = some o → sWhileN c gb (n + 1) τ s = some o
  | 0, _, _, _, h => by cases h
  | n + 1, τ, s, o, h => by
    unfold sWhileN at h ⊢
    split at h
    · exact h
    · split at h
      · exact sWhileN_succ n _ _ _ h
      · exact sWhileN_succ n _ _ _ h
      · exact h
      · exact h
      · cases h
    · cases h
theorem sWhileN_le {c : EFb Z} {gb : SF Z} {n m : Nat} (hnm : n ≤ m) {τ : List SV} {s : Z.S} {o : Out Z.S} (h : sWhileN c gb n τ s = some o) : sWhileN c gb m τ s = some o := by
  induction hnm with
  | refl => exact h
  | step _ ih => exact sWhileN_succ _ _ _ _ ih
theorem sWhile_eq {c : EFb Z} {gb : SF Z} {n : Nat} {τ : List SV} {s : Z.S} {o : Out Z.S} (h : sWhileN c gb n τ s = some o) : sWhile c gb τ s = some o := by
  have hx : ∃ n o, sWhileN c gb n τ s = some o := ⟨n, o, h⟩
  unfold sWhile
  rw [dif_pos hx]
  obtain ⟨o', h'⟩ := hx.choose_spec
  rw [h']
  have e1 := sWhileN_le (Nat.le_max_left n hx.choose) h
  have e2 := sWhileN_le (Nat.le_max_right n hx.choose) h'
  rw [e1] at e2
  exact e2.symm
theorem sWhile_some {c : EFb Z} {gb : SF Z} {τ : List SV} {s : Z.S} {o : Out Z.S} (h : sWhile c gb τ s = some o) : ∃ n, sWhileN c gb n τ s = some o := by
  unfold sWhile at h
  split at h
  · exact ⟨_, h⟩
  · cases h
theorem sx_while {body : List Stmt} {gb : SF Z} (hp : PassesOwn (model X.prog X.w) X.A X.env X.xe) (hc : EB X Z c fb) (hb : SS X Z body gb) : SX X Z (.While c body [] pos) (sWhile fb gb) := by
  obtain ⟨tc, pc, hc⟩ := hc
  obtain ⟨tb, pb, hb⟩ := hb
  refine ⟨_, ps_while hp pc pb, fun G I H σ τ s o D w h q => ?_⟩
  obtain ⟨n, h⟩ := sWhile_some h
  refine ⟨fun m σ H => ∃ I' τ s, Same I I' ∧ Rep X.K Z G I' H σ τ s ∧ sWhileN fb gb m τ s = some o, ⟨n, I, τ, s, Same.refl _, w, h⟩, ?_⟩
  rintro m σ1 H1 ⟨I1, τ1, s1, m1, w1, e1⟩
  cases m with
  | zero => cases e1
  | succ m =>
    unfold sWhileN at e1
    split at e1
    · rename_i s2 ec
      cases e1
      exact hc _ _ _ _ _ _ _ _ _ w1 ec fun I2 H2 m2 w2 => iteF (q I2 H2 σ1 (m1.trans m2) w2)
    · rename_i s2 ec
      refine hc _ _ _ _ _ _ _ _ _ w1 ec fun I2 H2 m2 w2 => iteT ⟨fun σ H => ∃ I' τ s, Same I I' ∧ Rep X.K Z G I' H σ τ s ∧ sWhileN fb gb m τ s = some o, fun σ' H' hh => ⟨m, Nat.lt_succ_self _, hh⟩, ?_⟩
      have m3 := m1.trans m2
      split at e1
      · rename_i τ4 s4 eb
        exact hb _ _ _ _ _ _ _ _ w2 eb fun I' H' σ' hm hw => ⟨I', τ4, s4, m3.trans hm, hw, e1⟩
      · rename_i τ4 s4 eb
        exact hb _ _ _ _ _ _ _ _ w2 eb fun I' H' σ' hm hw => ⟨I', τ4, s4, m3.trans hm, hw, e1⟩
      · rename_i τ4 s4 eb
        cases e1
        exact hb _ _ _ _ _ _ _ _ w2 eb fun I' H' σ' hm hw => q I' H' σ' (m3.trans hm) hw
      · rename_i v s4 eb
        cases e1
        exact hb _ _ _ _ _ _ _ _ w2 eb fun I' H' v' hm hw hi' => q I' H' v' (m3.trans hm) hw hi'
      · cases e1
    · cases e1
end
end L2.TL
/-! TL4: comprehensions, calls, defs. -/
namespace L2.TL
open PySem PySem.Spec
open PyProof.Rows
/-- the reading of an expression, by its tree function alone -/
def tX (K : PySem.W.Frag) (Z : Res) (f : EF Z) : TE := fun σ H Q => ∃ G I τ s a s', Rep K Z G I H σ τ s ∧ f τ s = some (a, s') ∧ ∀ I' H' v, Same I I' → Rep K Z G I' H' σ τ s' → Is K I' a v → Q v H'
def tXb (K : PySem.W.Frag) (Z : Res) (f : EFb Z) : TT := fun σ H Q => ∃ G I τ s a s', Rep K Z G I H σ τ s ∧ f τ s = some (a, s') ∧ ∀ I' H', Same I I' → Rep K Z G I' H' σ τ s' → Q a H'
def tXg (K : PySem.W.Frag) (Z : Res) (g : GF) : TG := fun v σ H Q => ∃ G I τ, ∃ s : Z.S, ∃ a τ', Rep K Z G I H σ τ s ∧ Is K I a v ∧ g a τ = some τ' ∧ ∀ σ', Rep K Z G I H σ' τ' s → Q σ' H
section
variable {X : Cx} {Z : Res} {e : Expr} {f : EF Z} {fb : EFb Z} {tg : Expr} {g : GF} {pos : Pos}
theorem EX.pe (h : EX X Z e f) : PE X e (tX X.K Z f) := by
  obtain ⟨t, p, h1⟩ := h
  exact ⟨fun pins s σ H Q I ⟨G, I0, τ, z, a, z', w, e, q⟩ => p.run pins s σ H Q I (h1 _ _ _ _ _ _ _ _ _ w e q)⟩
theorem EB.pt (h : EB X Z e fb) : PT X e (tXb X.K Z fb) := by
  obtain ⟨t, p, h1⟩ := h
  exact ⟨fun pins s σ H Q I ⟨G, I0, τ, z, a, z', w, e, q⟩ => p.run pins s σ H Q I (h1 _ _ _ _ _ _ _ _ _ w e q)⟩
theorem GX.pg (h : GX X Z tg g) : PG X tg (tXg X.K Z g) := by
  obtain ⟨t, p, h1⟩ := h
  exact ⟨fun pins s σ H v u Q I r ⟨G, I0, τ, z, a, τ', w, i, e, q⟩ => p.run pins s σ H v u Q I r (h1 _ _ _ _ _ z _ _ _ _ w i e q)⟩
/-! ### list comprehensions -/
/-- the items' results: where the test lets them, in order; the slots as they are ahead of each turn -/
def lcGo {Z : Res} (gt : GF) (ft : EFb Z) (fe : EF Z) (τ : List SV) : List T → Z.S → Option (List T × Z.S)
  | [], s => some ([], s)
  | a :: r, s => match gt a τ with
    | some τ1 => match ft τ1 s with
      | some (true, s1) => match fe τ1 s1 with
        | some (b, s2) => match lcGo gt ft fe τ r s2 with
          | some (bs, s3) => some (b :: bs, s3)
          | none => none
        | none => none
      | some (false, s1) => lcGo gt ft fe τ r s1
      | none => none
    | none => none
def isOw : SV → Bool
  | .ow _ => true
  | _ => false
def xLc {Z : Res} (vs : List Nat) (fi : EFs Z) (gt : GF) (ft : EFb Z) (fe : EF Z) : EF Z := fun τ s => match fi τ s with
  | some (items, s1) => if items.length ≤ sizeLine ∧ (vs.all fun v => match τ[v]? with
        | some x => !isOw x
        | none => true) = true then match lcGo gt ft fe (wipeT τ vs) items s1 with
      | some (bs, s2) => some (.lst bs, s2)
      | none => none
    else none
  | none => none
def xYes {Z : Res} : EFb Z := fun _ s => some (true, s)
/-- the clause's test: none or one -/
def ETs (X : Cx) (Z : Res) (ifs : List Expr) (f : EFb Z) : Prop := PTs X ifs (tXb X.K Z f)
theorem ets_nil : ETs X Z [] xYes := ⟨fun pins s σ H Q I ⟨G, I0, τ, z, a, z', w, e, q⟩ => pts_nil.run pins s σ H Q I (by
  cases e
  exact q I0 H (Same.refl _) w)⟩
theorem ets_one (h : EB X Z e fb) : ETs X Z [e] fb := pts_one h.pt
theorem lcGo_len {gt : GF} {ft : EFb Z} {fe : EF Z} {τ : List SV} : ∀ {items : List T} {s s' : Z.S} {bs : List T}, lcGo gt ft fe τ items s = some (bs, s') → bs.length ≤ items.length
  | [], _, _, _, h => by
    cases h
    exact Nat.le_refl _
  | a :: r, _, _, _, h => by
    unfold lcGo at h
    split at h
    · split at h
      · split at h
        · split at h
          · rename_i e
            cases h
            exact Nat.succ_le_succ (lcGo_len e)
          · cases h
        · cases h
      · exact Nat.le_succ_of_le (lcGo_len h)
      · cases h
    · cases h
theorem wipe_get {σ : St} {i : Nat} : ∀ {vs : List Nat}, i ∈ vs → i < σ.length → (L2.wipe σ vs)[i]? = some none
  | [], h, _ => by simp at h
  | v :: vs, h, hl => by
    unfold L2.wipe
    by_cases hv : v = i
    · subst hv
      rw [List.getElem?_set_self (by rw [wipe_length]; exact hl)]
    · rw [List.getElem?_set_ne hv]
      exact wipe_get (by rcases List.mem_cons.mp h with e | e; exact absurd e.symm hv; exact e) hl
theorem wipe_ext {σ σ' : St} {vs : List Nat} (hl : σ.length = σ'.length) (h : ∀ i, i ∉ vs → σ[i]? = σ'[i]?) : L2.wipe σ vs = L2.wipe σ' vs := by
  apply List.ext_getElem?
  intro i
  by_cases hi : i ∈ vs
  · by_cases hlt : i < σ.length
    · rw [wipe_get hi hlt, wipe_get hi (by omega)]
    · rw [List.getElem?_eq_none (by rw [wipe_length]; omega), List.getElem?_eq_none (by rw [wipe_length]; omega)]
  · rw [wipe_out hi, wipe_out hi]
    exact h i hi
theorem wipe_wipe (σ : St) (vs : List Nat) : L2.wipe (L2.wipe σ vs) vs = L2.wipe σ vs := wipe_ext (wipe_length _ _) fun _ hi => wipe_out hi
theorem Rep.back {K : PySem.W.Frag} {Gx Ix Hx : Hp} {σ σ2 : St} {τ τ2 : List SV} {sx : Z.S} {vs : List Nat} (wx : Rep K Z Gx Ix Hx σ2 τ2 sx) (hσ : L2.wipe σ2 vs = L2.wipe σ vs) (hτ : ∀ i, i ∉ vs → τ2[i]? = (wipeT τ vs)[i]?) (hl : σ.length = τ.length) :
    Rep K Z Gx Ix Hx (L2.wipe σ vs) (wipeT τ vs) sx := by
  have eσ : ∀ i, i ∉ vs → σ2[i]? = (L2.wipe σ vs)[i]? := fun i hi => by rw [← hσ, wipe_out hi]
  have out : ∀ (i : Nat) (x : SV), (wipeT τ vs)[i]? = some x → x ≠ .un → i ∉ vs := fun i x e hx => by
    rcases wipeT_get e with ⟨_, h⟩ | ⟨h, _⟩
    · exact absurd h hx
    · exact h
  refine ⟨wx.toRep0, by rw [wipe_length, wipeT_length]; exact hl, fun i t e => ?_, fun i t e => ?_, fun i j t u p hij e1 e2 e3 => ?_⟩
  · have hi := out i _ e (fun z => by cases z)
    rw [← eσ i hi]
    exact wx.im i t (by rw [hτ i hi]; exact e)
  · have hi := out i _ e (fun z => by cases z)
    rw [← eσ i hi]
    exact wx.ow i t (by rw [hτ i hi]; exact e)
  · have hi := out i _ e1 (fun z => by cases z)
    have hj := out j _ e2 (fun z => by cases z)
    rw [← eσ i hi] at e3
    rw [← eσ j hj]
    exact wx.inj i j t u p hij (by rw [hτ i hi]; exact e1) (by rw [hτ j hj]; exact e2) e3
theorem Rep.reguard {K : PySem.W.Frag} {G I H : Hp} {σ : St} {τ : List SV} {s : Z.S} {D : Addr} {o o' : HO} (w : Rep K Z (upd G D o) I H σ τ s) (nF : ¬ Z.F D) : Rep K Z (upd G D o') I (upd H D o') σ τ s := by
  obtain ⟨nI, _⟩ := w.fr D o upd_same
  refine ⟨⟨fun b u e => by rw [upd_ne (ne_of_none e nI)]; exact w.sub b u e, Z.loc s I H _ _ w.res (Same.refl _) fun q hq => upd_ne fun z => nF (by rw [← z]; exact hq), fun q hq => ?_, fun q u e => ?_⟩, w.len, w.im, fun i t e => ?_, w.inj⟩
  · have hq' : q ≠ D := fun z => nF (by rw [← z]; exact hq)
    have := w.rf q hq
    rw [upd_ne hq'] at this ⊢
    exact this
  · by_cases hq : q = D
    · subst hq
      rw [upd_same] at e ⊢
      exact ⟨nI, e⟩
    · rw [upd_ne hq] at e ⊢
      have := w.fr q u (by rw [upd_ne hq]; exact e)
      exact this
  · obtain ⟨q, u, h1, h2, h3, h4, h5, h6⟩ := w.ow i t e
    have hq : q ≠ D := fun z => by
      subst z
      rw [upd_same] at h3
      cases h3
    refine ⟨q, u, h1, h2, ?_, h4, by rw [upd_ne hq]; exact h5, h6⟩
    rw [upd_ne hq] at h3 ⊢
    exact h3
/-- a comprehension's target -/
def GB (X : Cx) (Z : Res) (scope : Scope) (vs : List Nat) (tg : Expr) (gt : GF) : Prop :=
  ∃ gg : TG, (∀ (s : Shared) (H : Hp) (C : Addr) (cl : List (Str × Addr)) (fp : List Addr), PG (X.blk s H scope (compEnvC scope cl C X.env) fp) tg gg) ∧
    (∀ (G I H : Hp) (σ : St) (τ : List SV) (s : Z.S) (a : T) (v : V) (τ2 : List SV) (Q : St → Hp → Prop), Rep X.K Z G I H σ τ s → Is X.K I a v → gt a τ = some τ2 → (∀ σ2, L2.wipe σ2 vs = L2.wipe σ vs → Rep X.K Z G I H σ2 τ2 s → Q σ2 H) → gg v σ H Q) ∧
    (∀ a τ τ2, gt a τ = some τ2 → ∀ i, i ∉ vs → τ2[i]? = τ[i]?)
theorem lc_read {vs : List Nat} {G I1 H1 : Hp} {σ : St} {τ : List SV} {s1 s' : Z.S} {items bs : List T} {gt : GF} {ft : EFb Z} {fe : EF Z} {J : It} {Q : VK} {gg : TG}
    (hgg : ∀ (G I H : Hp) (σ : St) (τ : List SV) (s : Z.S) (a : T) (v : V) (τ2 : List SV) (Q : St → Hp → Prop), Rep X.K Z G I H σ τ s → Is X.K I a v → gt a τ = some τ2 → (∀ σ2, L2.wipe σ2 vs = L2.wipe σ vs → Rep X.K Z G I H σ2 τ2 s → Q σ2 H) → gg v σ H Q)
    (hgt : ∀ a τ τ2, gt a τ = some τ2 → ∀ i, i ∉ vs → τ2[i]? = τ[i]?)
    (w1 : Rep X.K Z G I1 H1 σ τ s1) (wk : Walks' X.K J I1 items) (hz : items.length ≤ sizeLine) (hv : ∀ (i : Nat) (t : T), τ[i]? = some (.ow t) → i ∉ vs)
    (h : lcGo gt ft fe (wipeT τ vs) items s1 = some (bs, s')) (q : HandF X Z G I1 σ τ s' (.lst bs) Q) (D : Addr) (hD : H1 D = none) :
    ∃ W : Nat → Nat → Hp → Prop, (∃ m, W 0 m (upd H1 D (.lst []))) ∧ ∀ i m H, W i m H →
      (J.stop i H ∧ Q (.ref D) H) ∨ (J.go i H ∧ ∃ Nx : Hp → Prop, (∀ H', Nx H' → ∃ m', m' < m ∧ W (i + 1) m' H') ∧ ∀ x H', J.yld i H x H' → gg x (L2.wipe σ vs) H' fun σ2 H2 => L2.wipe σ2 vs = L2.wipe σ vs ∧ tXb X.K Z ft σ2 H2 fun b H3 =>
        if b = true then tX X.K Z fe σ2 H3 fun y H4 => ∃ acc, H4 D = some (.lst acc) ∧ acc.length < sizeLine ∧ Nx (upd H4 D (.lst (acc ++ [y]))) else Nx H3) := by
  have nG : G D = none := w1.toRep0.nG hD
  have nF : ¬ Z.F D := w1.toRep0.nF hD
  -- ahead of turn i: acc stands at D for the results so far, the rest is to come
  let St' : List T → Hp → Prop := fun r H => ∃ (I : Hp) (s : Z.S) (acc : List V) (done rest : List T), Same I1 I ∧ Rep X.K Z (upd G D (.lst acc)) I H (L2.wipe σ vs) (wipeT τ vs) s ∧ IsL X.K I done acc ∧
    lcGo gt ft fe (wipeT τ vs) r s = some (rest, s') ∧ done ++ rest = bs ∧ done.length + r.length ≤ items.length
  have start : St' items (upd H1 D (.lst [])) := by
    obtain ⟨w2, u⟩ := w1.wipe (vs := vs) |>.made (o := .lst []) (a := .lst []) hD (IsL.nil (K := X.K) (I := I1))
    exact ⟨I1, s1, [], [], bs, Same.refl _, w2.guard u, IsL.nil, h, rfl, by simp⟩
  refine ⟨fun i m H => m = items.length - i ∧ i ≤ items.length ∧ St' (items.drop i) H, ⟨_, rfl, Nat.zero_le _, by rw [List.drop_zero]; exact start⟩, ?_⟩
  rintro i m H ⟨rfl, hle, I, s, acc, done, rest, mI, w, il, hgo, hdone, hlen⟩
  obtain ⟨st, gy⟩ := wk I H mI w.sub
  cases ed : items.drop i with
  | nil =>
    have hi : i = items.length := by
      have := congrArg List.length ed
      rw [List.length_drop, List.length_nil] at this
      omega
    subst hi
    rw [ed] at hgo
    cases hgo
    rw [List.append_nil] at hdone
    subst hdone
    refine .inl ⟨st, ?_⟩
    obtain ⟨nI, atH⟩ := w.fr D (.lst acc) upd_same
    have wf := w.frame (G' := G) fun p o e => by
      rw [upd_ne (ne_of_none e nG)]
      exact e
    have wr : Rep X.K Z G I H σ τ s' := w1.unwipe mI wf.toRep0 hv wf.ow fun i t hi e => by rw [wipeT_out hi]; exact e
    exact q I H D (.lst acc) mI wr ⟨nI, nG, nF, atH, il, fun i t e => w1.notOwned hD i t e⟩
  | cons a r =>
    obtain ⟨ea, er⟩ := drop_at ed
    have hi : i < items.length := (List.getElem?_eq_some_iff.mp ea).1
    obtain ⟨go, yl⟩ := gy i a ea
    rw [ed] at hgo hlen
    have hlr : (items.drop i).length = r.length + 1 := by rw [ed]; rfl
    refine .inr ⟨go, St' r, fun H' hN => ⟨items.length - (i + 1), by omega, rfl, hi, by rw [er]; exact hN⟩, fun x H3 hy => ?_⟩
    obtain ⟨I3, ex, ix⟩ := yl x H3 hy
    have w3 := w.extN ex
    have m3 := mI.trans ex.im
    unfold lcGo at hgo
    split at hgo
    · rename_i τ2 et
      refine hgg _ _ _ _ _ s _ _ _ _ w3 ix et fun σ2 hw2 w4 => ?_
      rw [wipe_wipe] at hw2
      refine ⟨hw2, ?_⟩
      have hτ : ∀ i, i ∉ vs → τ2[i]? = (wipeT τ vs)[i]? := hgt _ _ _ et
      split at hgo
      · rename_i s4 ec
        refine ⟨_, _, _, _, _, _, w4, ec, fun I5 H5 m5 w5 => iteT ?_⟩
        split at hgo
        · rename_i b s6 eb
          refine ⟨_, _, _, _, _, _, w5, eb, fun I6 H6 y m6 w6 iy => ?_⟩
          obtain ⟨nI6, at6⟩ := w6.fr D (.lst acc) upd_same
          have hacc : acc.length = done.length := il.len
          refine ⟨acc, at6, by have : sizeLine = 16777216 := sizeLine_eq; simp only [List.length_cons] at hlen; omega, ?_⟩
          split at hgo
          · rename_i bs' s7 er'
            cases hgo
            have m7 := (m3.trans m5).trans m6
            refine ⟨I6, s6, acc ++ [y], done ++ [b], bs', m7, ?_, ?_, er', by rw [← hdone, List.append_assoc]; rfl, ?_⟩
            · exact (w6.reguard nF).back hw2 hτ w1.len
            · exact (il.mono ((ex.im.trans m5).trans m6)).app (IsL.cons iy IsL.nil)
            · simp only [List.length_append, List.length_cons, List.length_nil] at hlen ⊢
              omega
          · cases hgo
        · cases hgo
      · rename_i s4 ec
        refine ⟨_, _, _, _, _, _, w4, ec, fun I5 H5 m5 w5 => iteF ?_⟩
        refine ⟨I5, s4, acc, done, rest, m3.trans m5, w5.back hw2 hτ w1.len, il.mono (ex.im.trans m5), hgo, hdone, ?_⟩
        simp only [List.length_cons] at hlen
        omega
      · cases hgo
    · cases hgo
variable {tg' it elt : Expr} {ifs : List Expr} {scope : Scope} {own : List (Str × Nat)} {fi : EFs Z} {gt : GF} {ft : EFb Z} {fe : EF Z}
theorem lc_all {G I H : Hp} {σ : St} {τ : List SV} {s s' : Z.S} {a : T} {Q : VK} {wi : TI} {gg : TG} {vs : List Nat}
    (hwi : ∀ G I H σ τ s items s' R, Rep X.K Z G I H σ τ s → fi τ s = some (items, s') → (∀ I' H' J, Same I I' → Rep X.K Z G I' H' σ τ s' → Walks' X.K J I' items → R J H') → wi σ H R)
    (hgg : ∀ (G I H : Hp) (σ : St) (τ : List SV) (s : Z.S) (a : T) (v : V) (τ2 : List SV) (Q : St → Hp → Prop), Rep X.K Z G I H σ τ s → Is X.K I a v → gt a τ = some τ2 → (∀ σ2, L2.wipe σ2 vs = L2.wipe σ vs → Rep X.K Z G I H σ2 τ2 s → Q σ2 H) → gg v σ H Q)
    (hgt : ∀ a τ τ2, gt a τ = some τ2 → ∀ i, i ∉ vs → τ2[i]? = τ[i]?) (w : Rep X.K Z G I H σ τ s) (h : xLc vs fi gt ft fe τ s = some (a, s')) (q : HandF X Z G I σ τ s' a Q) :
    tLc wi gg (tXb X.K Z ft) (tX X.K Z fe) vs σ H Q := by
  unfold xLc at h
  split at h
  · rename_i items s1 ei
    split at h
    · rename_i hc
      split at h
      · rename_i bs s2 eg
        cases h
        refine hwi _ _ _ _ _ _ _ _ _ w ei fun I1 H1 J m1 w1 wk => ?_
        intro D hD
        refine lc_read hgg hgt w1 wk hc.1 (fun i t e hi => ?_) eg (fun I' H' p o m => q I' H' p o (m1.trans m)) D hD
        have := List.all_eq_true.mp hc.2 i hi
        rw [e] at this
        cases this
      · cases h
    · cases h
  · cases h
theorem en_lc {vs : List Nat} (hc : X.calm = true) (hN : X.N.Nodup) (hi : IX X Z tg' it fi) (ok : BlkOk X.N X.env.scope scope own) (hg : GB X Z scope vs tg' gt) (hvs : vs = own.map (·.2) := by rfl)
    (ht : ∀ (s : Shared) (H : Hp) (C : Addr) (cl : List (Str × Addr)) (fp : List Addr), ETs (X.blk s H scope (compEnvC scope cl C X.env) fp) Z ifs ft) (he : ∀ (s : Shared) (H : Hp) (C : Addr) (cl : List (Str × Addr)) (fp : List Addr), EX (X.blk s H scope (compEnvC scope cl C X.env) fp) Z elt fe)
    (hs : ∀ x, foldedSetIterable it X.env x = pure x := by intro _; rfl) : EN X Z (.ListComp elt [⟨tg', it, ifs, 0⟩] scope pos) (xLc vs fi gt ft fe) := by
  subst hvs
  obtain ⟨wi, pi, hwi⟩ := hi
  obtain ⟨gg, pg, hgg, hgt⟩ := hg
  exact ⟨_, pe_lc (tt := tXb X.K Z ft) (te := tX X.K Z fe) hc hN pi ok pg ht (fun s H C cl fp => (he s H C cl fp).pe) hs, fun G I H σ τ s a s' Q w h q => lc_all hwi hgg hgt w h q⟩
/-- name = [..], the slot's own -/
theorem sx_setLc {i : Nat} {y : Str} {py spos : Pos} {vs : List Nat} (hc : X.calm = true) (hN : X.N.Nodup) (hy : X.N[i]? = some y) (hyl : X.env.scope.names.lookup y = some .local)
    (hsw : swapsWith (.ListComp elt [⟨tg', it, ifs, 0⟩] scope pos) (some (.Name y py)) spos.line X.env = pure true) (hi : IX X Z tg' it fi) (ok : BlkOk X.N X.env.scope scope own) (hg : GB X Z scope vs tg' gt) (hvs : vs = own.map (·.2) := by rfl)
    (ht : ∀ (s : Shared) (H : Hp) (C : Addr) (cl : List (Str × Addr)) (fp : List Addr), ETs (X.blk s H scope (compEnvC scope cl C X.env) fp) Z ifs ft) (he : ∀ (s : Shared) (H : Hp) (C : Addr) (cl : List (Str × Addr)) (fp : List Addr), EX (X.blk s H scope (compEnvC scope cl C X.env) fp) Z elt fe)
    (hs : ∀ x, foldedSetIterable it X.env x = pure x := by intro _; rfl) : SX X Z (.Assign [.Name y py] (.ListComp elt [⟨tg', it, ifs, 0⟩] scope pos) spos) (sSetO i (xLc vs fi gt ft fe)) := by
  subst hvs
  obtain ⟨wi, pi, hwi⟩ := hi
  obtain ⟨gg, pg, hgg, hgt⟩ := hg
  refine ⟨_, ps_setLc (tt := tXb X.K Z ft) (te := tX X.K Z fe) hc hN hy hyl hsw pi ok pg ht (fun s H C cl fp => (he s H C cl fp).pe) hs, fun G I H σ τ s o D w h q => ?_⟩
  unfold sSetO at h
  split at h
  · rename_i a s' ea
    split at h
    · rename_i hl
      cases h
      exact lc_all hwi hgg hgt w ea fun I' H' p o m w' u => q I' H' _ m (w'.setOw hl u)
    · cases h
  · cases h
theorem gb_name {i : Nat} {x : Str} (hN : X.N.Nodup) (hi : X.N[i]? = some x) (hx : ∀ (cl : List (Str × Addr)) (C : Addr), Loc (compEnvC scope cl C X.env).scope x) (hf : ∀ (cl : List (Str × Addr)) (C : Addr), (scope.names.lookup x == some .cell) = true ∨ (compEnvC scope cl C X.env).scope.names.lookup x = some .local) :
    GB X Z scope [i] (.Name x pos) (gSet i) := by
  refine ⟨gName i, fun s H C cl fp => pg_name (X := X.blk s H scope (compEnvC scope cl C X.env) fp) hN hi (hx cl C) (hf cl C), fun G I H σ τ s a v τ2 Q w ia h q => ?_, fun a τ τ2 h j hj => ?_⟩
  · unfold gSet at h
    split at h
    · rename_i hl
      cases h
      refine q _ ?_ (w.setIm hl ia)
      show (σ.set i (some v)).set i none = σ.set i none
      rw [List.set_set]
    · cases h
  · unfold gSet at h
    split at h
    · cases h
      rw [List.getElem?_set_ne (fun z => hj (by simp [z]))]
    · cases h
end
end L2.TL
/-! TL5: what a def of trees promises; calls; a def by its body; the law's own call. -/
namespace L2.TL
open PySem PySem.Spec
open PyProof.Rows
abbrev FF (Z : Res) := List T → Z.S → Option (T × Z.S)
/-- the promise: the arguments stand for trees, the answer stands for f of them, what others own stands -/
def spS (K : PySem.W.Frag) (Z : Res) (f : FF Z) : Sp := fun vs H Q _ =>
  ∃ (I : Hp) (ts : List T) (s : Z.S) (a : T) (s' : Z.S), Same I H ∧ (∀ p, Z.F p → I p = none) ∧ Z.R s I H ∧ IsL K I ts vs ∧ f ts s = some (a, s') ∧
    ∀ I' H' v, Ext Z.F I H I' H' → Z.R s' I' H' → Is K I' a v → Q v H'
/-- .. of a def that has no resource -/
abbrev FP := List T → Option T
def pureF (f : FP) : FF Z0 := fun ts s => match f ts with
  | some a => some (a, s)
  | none => none
abbrev spP (K : PySem.W.Frag) (f : FP) : Sp := spS K Z0 (pureF f)
/-- a def that is called where no repr runs -/
structure FnG (P : Program) (w : World) (K : PySem.W.Frag) (mg : Str → Option Value) (base : Heap) (k : Nat) (f : Addr) (fd : FuncData) (ps : List Str) (sp : Sp) : Prop where
  lenG : ∀ xs H' R E', sp xs H' R E' → xs.length = ps.length
  runG : ∀ (B : Around) (out : List Env) (z : Shared) (H' : Hp) (ar : Args) (ys : List Value) (xs : List V) (R : VK) (E' : XK), B.guards = some [] → Room k B → Env0 P w K mg base B out z H' → BindsTo z fd ar (ps.zip ys) → Vals xs ys → sp xs H' R E' →
    codeAny (model P w) B (.call (.ref f) ar) (CR CX0 out P w H' z R E') z
section
variable {P : Program} {w : World} {K : PySem.W.Frag} {mg : Str → Option Value} {base : Heap} {k : Nat} {f : Addr} {fd : FuncData} {ps : List Str} {sp : Sp}
theorem toG (F : FnOk P w K mg base CX0 k f fd ps sp) : FnG P w K mg base k f fd ps sp := ⟨F.len, fun B out z H' ar ys xs R E' _ => F.run B out z H' ar ys xs R E'⟩
theorem FnG.up {j : Nat} (F : FnG P w K mg base j f fd ps sp) (h : j ≤ k) : FnG P w K mg base k f fd ps sp := ⟨F.lenG, fun B out z H' ar ys xs R E' g r => F.runG B out z H' ar ys xs R E' g (r.mono h)⟩
end
section
variable {X : Cx} {Z : Res} {e : Expr} {es : List Expr} {fs : EFs Z} {pos : Pos} {k : Nat} {f : Addr} {fd : FuncData} {ps : List Str} {ff : FF Z} {fp : FP}
def xCallF {Z : Res} (ff : FF Z) (fs : EFs Z) : EF Z := fun τ s => match fs τ s with
  | some (as, s1) => ff as s1
  | none => none
def xCallP {Z : Res} (fp : FP) (fs : EFs Z) : EF Z := fun τ s => match fs τ s with
  | some (as, s1) => match fp as with
    | some a => some (a, s1)
    | none => none
  | none => none
theorem sp_use {G I H : Hp} {σ : St} {τ : List SV} {s s' : Z.S} {ts : List T} {vs : List V} {a : T} {Q : VK} {E : XK} (w : Rep X.K Z G I H σ τ s) (i : IsL X.K I ts vs) (h : ff ts s = some (a, s')) (q : Hand X Z G I σ τ s' a Q) : spS X.K Z ff vs H Q E :=
  ⟨I, ts, s, a, s', w.sub, fun p hp => (w.rf p hp).1, w.res, i, h, fun I' H' v e r ia => q I' H' v e.im (w.ext e r) ia⟩
theorem sp_useP {G I H : Hp} {σ : St} {τ : List SV} {s : Z.S} {ts : List T} {vs : List V} {a : T} {Q : VK} {E : XK} (w : Rep X.K Z G I H σ τ s) (i : IsL X.K I ts vs) (h : fp ts = some a) (q : Hand X Z G I σ τ s a Q) : spP X.K fp vs H Q E :=
  ⟨I, ts, (), a, (), w.sub, fun p hp => hp.elim, trivial, i, by unfold pureF; rw [h], fun I' H' v e _ ia => q I' H' v e.im (w.extN e) ia⟩
theorem ex_call {x : Str} {p : Pos} (F : FnOk X.prog X.w X.K X.mg X.base CX0 k f fd ps (spS X.K Z ff)) (hr : Room k X.A) (hg : Gl X x) (hm : X.mg x = some (.ref f)) (hk : PySem.W.keepIn X.K (.ref f) = true) (hb : Binds X.K fd ps []) (ha : EL X Z (e :: es) fs)
    (hdb : (x == ("__debug__" : Str)) = false := by decide) (he : starEach (e :: es) X.env = (false, eval e X.env) :: starEach es X.env := by rfl) (hpl : (backTo pos (starEach es X.env)).any (·.1) = false := by rfl) : EX X Z (.Call (.Name x p) (e :: es) [] pos) (xCallF ff fs) := by
  obtain ⟨t, pa, h1⟩ := ha
  refine ⟨_, pe_call F hr hg hm hk hb .nil pass0 pa hdb he hpl, fun G I H σ τ s a s' Q w h q => ?_⟩
  unfold xCallF at h
  split at h
  · rename_i as s1 ea
    refine h1 _ _ _ _ _ _ _ _ _ w ea fun I1 H1 vs m1 w1 i1 => ?_
    rw [List.append_nil]
    exact sp_use w1 i1 h fun I' H' v m => q I' H' v (m1.trans m)
  · cases h
theorem ex_callP {x : Str} {p : Pos} (F : FnOk X.prog X.w X.K X.mg X.base CX0 k f fd ps (spP X.K fp)) (hr : Room k X.A) (hg : Gl X x) (hm : X.mg x = some (.ref f)) (hk : PySem.W.keepIn X.K (.ref f) = true) (hb : Binds X.K fd ps []) (ha : EL X Z (e :: es) fs)
    (hdb : (x == ("__debug__" : Str)) = false := by decide) (he : starEach (e :: es) X.env = (false, eval e X.env) :: starEach es X.env := by rfl) (hpl : (backTo pos (starEach es X.env)).any (·.1) = false := by rfl) : EX X Z (.Call (.Name x p) (e :: es) [] pos) (xCallP fp fs) := by
  obtain ⟨t, pa, h1⟩ := ha
  refine ⟨_, pe_call F hr hg hm hk hb .nil pass0 pa hdb he hpl, fun G I H σ τ s a s' Q w h q => ?_⟩
  unfold xCallP at h
  split at h
  · rename_i as s1 ea
    split at h
    · rename_i b eb
      cases h
      refine h1 _ _ _ _ _ _ _ _ _ w ea fun I1 H1 vs m1 w1 i1 => ?_
      rw [List.append_nil]
      exact sp_useP w1 i1 eb fun I' H' v m => q I' H' v (m1.trans m)
    · cases h
  · cases h
/-- the call of a def that may run repr -/
theorem run_g {pins : List (Addr × Obj)} {σ : St} {H : Hp} {s : Shared} {Q : VK} {us : List Value} {vs : List V} {sp : Sp} {E : XK} (F : FnG X.prog X.w X.K X.mg X.base k f fd ps sp) (gd : X.A.guards = some []) (hr : Room k X.A) (hb : Binds X.K fd ps [])
    (I : Inv X pins σ H s) (r : Vals vs us) (h : sp vs H Q E) : wpAny (model X.prog X.w) X.A (call (.ref f) us) (EP X pins σ Q) X.xe s := by
  have n1 : us.length = ps.length := by
    rw [← r.length]
    exact F.lenG _ _ _ _ h
  have bd := hb s us I.kIn (by rw [List.append_nil]; exact n1)
  rw [List.append_nil] at bd
  refine wpAny_call (codeAny_mono (F.runG X.A X.stack s H _ us vs Q E gd hr I.env0 bd r h) ?_)
  intro res z hz
  cases res with
  | error e => exact (show False from hz).elim
  | ok fl => cases fl with
    | ret u => exact I.after hz
    | _ => exact (show False from hz).elim
theorem ex_callG {x : Str} {p : Pos} (F : FnG X.prog X.w X.K X.mg X.base k f fd ps (spS X.K Z ff)) (gd : X.A.guards = some []) (hr : Room k X.A) (hg : Gl X x) (hm : X.mg x = some (.ref f)) (hk : PySem.W.keepIn X.K (.ref f) = true) (hb : Binds X.K fd ps []) (ha : EL X Z (e :: es) fs)
    (hdb : (x == ("__debug__" : Str)) = false := by decide) (he : starEach (e :: es) X.env = (false, eval e X.env) :: starEach es X.env := by rfl) (hpl : (backTo pos (starEach es X.env)).any (·.1) = false := by rfl) : EX X Z (.Call (.Name x p) (e :: es) [] pos) (xCallF ff fs) := by
  obtain ⟨t, pa, h1⟩ := ha
  refine ⟨_, (⟨fun pins s σ H Q J hq => wpAny_Call_Name_kw (ld_glob J hg hm (PySem.W.callWith_K (h₀ := X.base) J.ok.mod.kin hk (thn (pa.run pos pins s σ H _ J hq) fun us s1 ⟨vs, H1, J1, r, q⟩ => ⟨J1.kIn, run_g F gd hr hb J1 r q⟩) he hpl) hdb)⟩ :
    PE X (.Call (.Name x p) (e :: es) [] pos) (fun σ H Q => t σ H fun vs H1 => spS X.K Z ff vs H1 Q E0)), fun G I H σ τ s a s' Q w h q => ?_⟩
  unfold xCallF at h
  split at h
  · rename_i as s1 ea
    exact h1 _ _ _ _ _ _ _ _ _ w ea fun I1 H1 vs m1 w1 i1 => sp_use w1 i1 h fun I' H' v m => q I' H' v (m1.trans m)
  · cases h
theorem ex_callGP {x : Str} {p : Pos} (F : FnG X.prog X.w X.K X.mg X.base k f fd ps (spP X.K fp)) (gd : X.A.guards = some []) (hr : Room k X.A) (hg : Gl X x) (hm : X.mg x = some (.ref f)) (hk : PySem.W.keepIn X.K (.ref f) = true) (hb : Binds X.K fd ps []) (ha : EL X Z (e :: es) fs)
    (hdb : (x == ("__debug__" : Str)) = false := by decide) (he : starEach (e :: es) X.env = (false, eval e X.env) :: starEach es X.env := by rfl) (hpl : (backTo pos (starEach es X.env)).any (·.1) = false := by rfl) : EX X Z (.Call (.Name x p) (e :: es) [] pos) (xCallP fp fs) := by
  obtain ⟨t, pa, h1⟩ := ha
  refine ⟨_, (⟨fun pins s σ H Q J hq => wpAny_Call_Name_kw (ld_glob J hg hm (PySem.W.callWith_K (h₀ := X.base) J.ok.mod.kin hk (thn (pa.run pos pins s σ H _ J hq) fun us s1 ⟨vs, H1, J1, r, q⟩ => ⟨J1.kIn, run_g F gd hr hb J1 r q⟩) he hpl) hdb)⟩ :
    PE X (.Call (.Name x p) (e :: es) [] pos) (fun σ H Q => t σ H fun vs H1 => spP X.K fp vs H1 Q E0)), fun G I H σ τ s a s' Q w h q => ?_⟩
  unfold xCallP at h
  split at h
  · rename_i as s1 ea
    split at h
    · rename_i b eb
      cases h
      exact h1 _ _ _ _ _ _ _ _ _ w ea fun I1 H1 vs m1 w1 i1 => sp_useP w1 i1 eb fun I' H' v m => q I' H' v (m1.trans m)
    · cases h
  · cases h
/-- keywords: f(x = a), all of them -/
def ELk (X : Cx) (Z : Res) (kws : List Keyword) (f : EFs Z) : Prop :=
  ∃ t, PK X kws t ∧ ∀ G I H σ τ s as s' Q, Rep X.K Z G I H σ τ s → f τ s = some (as, s') → HandL X Z G I σ τ s' as Q → t σ H Q
theorem elk_nil : ELk X Z [] xNil := ⟨_, pk_nil, fun G I H σ τ s as s' Q w h q => by
  cases h
  exact q I H [] (Same.refl _) w IsL.nil⟩
theorem elk_cons {nm : Option Str} {kpos : Pos} {kws : List Keyword} {fe : EF Z} (he : EX X Z e fe) (hr : ELk X Z kws fs) : ELk X Z (⟨nm, e, kpos⟩ :: kws) (xCons fe fs) := by
  obtain ⟨te, pe, h1⟩ := he
  obtain ⟨tr, pr, h2⟩ := hr
  refine ⟨_, pk_cons pe pr, fun G I H σ τ s as s' Q w h q => ?_⟩
  unfold xCons at h
  split at h
  · rename_i a s1 ea
    split at h
    · rename_i as' s2 eb
      cases h
      refine h1 _ _ _ _ _ _ _ _ _ w ea fun I1 H1 v m1 w1 i1 => ?_
      refine h2 _ _ _ _ _ _ _ _ _ w1 eb fun I2 H2 vs m2 w2 i2 => ?_
      exact q I2 H2 (v :: vs) (m1.trans m2) w2 (IsL.cons (i1.mono m2) i2)
    · cases h
  · cases h
end
/-! ### a def by its body -/
def bodyF {Z : Res} (n m : Nat) (g : SF Z) : FF Z := fun ts s => if ts.length = n then match g (ts.map SV.im ++ List.replicate (m - n) SV.un) s with
    | some (.rt a s') => some (a, s')
    | some (.nx _ s') => some (.non, s')
    | _ => none
  else none
section
variable {P : Program} {w : World} {K : PySem.W.Frag} {mg : Str → Option Value} {base : Heap} {Z : Res} {k : Nat} {f : Addr} {fd : FuncData} {N ps : List Str} {x qual : Str} {st : Stmt}
open Classical in
/-- what others own at the entry -/
noncomputable def foreign (Z : Res) (I H : Hp) : Hp := fun p => if I p = none ∧ ¬ Z.F p then H p else none
theorem foreign_of {I H : Hp} {p : Addr} {o : HO} (h : foreign Z I H p = some o) : I p = none ∧ ¬ Z.F p ∧ H p = some o := by
  unfold foreign at h
  split at h
  · rename_i c
    exact ⟨c.1, c.2, h⟩
  · cases h
theorem foreign_mk {I H : Hp} {p : Addr} {o : HO} (h1 : I p = none) (h2 : ¬ Z.F p) (h3 : H p = some o) : foreign Z I H p = some o := by
  unfold foreign
  rw [if_pos ⟨h1, h2⟩]
  exact h3
theorem foreign_F {I H : Hp} {p : Addr} (h : Z.F p) : foreign Z I H p = none := by
  unfold foreign
  rw [if_neg fun z => z.2 h]
theorem start_rep {I H : Hp} {ts : List T} {vs : List V} {s : Z.S} (sub : Same I H) (rf : ∀ p, Z.F p → I p = none) (r : Z.R s I H) (il : IsL K I ts vs) (hN : vs.length ≤ N.length) :
    Rep K Z (foreign Z I H) I H (start N vs) (ts.map SV.im ++ List.replicate (N.length - vs.length) SV.un) s := by
  have hl := il.len
  have none_ow : ∀ (i : Nat) (t : T), (ts.map SV.im ++ List.replicate (N.length - vs.length) SV.un)[i]? ≠ some (SV.ow t) := fun i t e => by
    have := List.mem_of_getElem? e
    rcases List.mem_append.mp this with h | h
    · obtain ⟨u, _, h⟩ := List.mem_map.mp h
      cases h
    · cases (List.mem_replicate.mp h).2
  refine ⟨⟨sub, r, fun p hp => ⟨rf p hp, foreign_F hp⟩, fun p o e => ⟨(foreign_of e).1, (foreign_of e).2.2⟩⟩, ?_, fun i t e => ?_, fun i t e => absurd e (none_ow i t), fun i j t u p _ e => absurd e (none_ow i t)⟩
  · unfold start
    simp only [List.length_append, List.length_map, List.length_replicate]
    omega
  · by_cases hi : i < ts.length
    · rw [List.getElem?_append_left (by simpa using hi), List.getElem?_map] at e
      obtain ⟨v, e1, e2⟩ := il.at (List.getElem?_eq_getElem hi)
      rw [List.getElem?_eq_getElem hi] at e
      cases e
      refine ⟨v, ?_, e2⟩
      unfold start
      rw [List.getElem?_append_left (by rw [List.length_map, hl]; exact hi), List.getElem?_map, e1]
      rfl
    · rw [List.getElem?_append_right (by simpa using hi), List.getElem?_replicate] at e
      split at e <;> cases e
theorem body_ends {X : Cx} {sts : List Stmt} {g : SF Z} {vs : List V} {H : Hp} {Q : VK} {E : XK} (hK : X.K = K) (hb : SS X Z sts g) (hn : ps.length ≤ N.length) (h : spS K Z (bodyF ps.length N.length g) vs H Q E) :
    ∃ t, PSs X sts t ∧ t { nx := fun _ H' => Q .non H', rt := Q } (start N vs) H := by
  subst hK
  obtain ⟨t, pt, h1⟩ := hb
  obtain ⟨I, ts, s, a, s', sub, rf, r, il, hf, q⟩ := h
  refine ⟨t, pt, ?_⟩
  unfold bodyF at hf
  split at hf
  · rename_i hl
    have hv : vs.length = ps.length := by rw [il.len]; exact hl
    have w := start_rep (N := N) sub rf r il (by rw [hv]; exact hn)
    rw [hv] at w
    have ext : ∀ {I' H' : Hp} {s2 : Z.S}, Same I I' → Rep0 Z (foreign Z I H) I' H' s2 → Ext Z.F I H I' H' := fun m w' =>
      ⟨m, w'.sub, fun p o e1 e2 e3 => w'.fr p o (foreign_mk e1 e2 e3), fun p hp _ => (w'.rf p hp).1⟩
    split at hf
    · rename_i b s2 eg
      cases hf
      exact h1 _ _ _ _ _ _ _ _ w eg fun I' H' v m w' ia => q I' H' v (ext m w') w'.res ia
    · rename_i τ2 s2 eg
      cases hf
      exact h1 _ _ _ _ _ _ _ _ w eg fun I' H' σ' m w' => q I' H' .non (ext m w'.toRep0) w'.res rfl
    · cases hf
  · cases hf
theorem sp_len {g : FF Z} {n : Nat} (h : ∀ ts s r, g ts s = some r → ts.length = n) {vs : List V} {H : Hp} {Q : VK} {E : XK} (q : spS K Z g vs H Q E) : vs.length = n := by
  obtain ⟨I, ts, s, a, s', _, _, _, il, hf, _⟩ := q
  rw [il.len]
  exact h ts s _ hf
theorem bodyF_len {n m : Nat} {g : SF Z} : ∀ ts s r, bodyF n m g ts s = some r → ts.length = n := fun ts s r h => by
  unfold bodyF at h
  split at h
  · assumption
  · cases h
theorem scope_le (S : FnScope N ps (defScope st)) : ps.length ≤ N.length := by
  have := congrArg List.length S.pre
  rw [List.length_take] at this
  omega
/-- THE RULE, for a def without repr -/
theorem fn_def {g : SF Z} (F : Fun K x qual st f fd) (S : FnScope N ps (defScope st))
    (hb : ∀ (cdv : Value) (A : Around) (out : List Env) (z : Shared) (H : Hp) (E : XK), Room k (A.deeper (envOfC qual (defScope st) z.heap.objs.size f cdv)) → SS (cxOf CX0 P w K mg base N qual (defScope st) f cdv A out z H E).nox Z (defBody st) g) :
    FnOk P w K mg base CX0 (k + 1) f fd ps (spS K Z (bodyF ps.length N.length g)) :=
  F.ok S (fun vs H Q E h => sp_len bodyF_len h) fun cdv A out z H vs Q E hr h => body_ends rfl (hb cdv A out z H E hr) (scope_le S) h
/-- .. for a def that shows values: its caller does not. Any promise -/
theorem fn_g {sp : Sp} (F : Fun K x qual st f fd) (S : FnScope N ps (defScope st)) (len : ∀ xs H R E, sp xs H R E → xs.length = ps.length)
    (hb : ∀ (cdv : Value) (A : Around) (out : List Env) (z : Shared) (H : Hp) (vs : List V) (Q : VK) (E : XK), A.guards = some [] → Room k (A.deeper (envOfC qual (defScope st) z.heap.objs.size f cdv)) → sp vs H Q E →
      ∃ t, PSs (cxOf CX0 P w K mg base N qual (defScope st) f cdv A out z H E).nox (defBody st) t ∧ t { nx := fun _ H' => Q .non H', rt := Q } (start N vs) H) : FnG P w K mg base (k + 1) f fd ps sp := by
  obtain ⟨oc, od, kV, doc, pm, an, cdv, ct, osl, rfl, lk, hcd⟩ := F.ex
  refine ⟨len, fun B out z H' ar ys xs R E' gd hr e0 bd r hsp => ?_⟩
  have n1 : xs.length = ps.length := len _ _ _ _ hsp
  have kin : K.In z.heap := e0.mod.kin.keeps fun b o q => (e0.bs b o q).1
  have kinds : ∀ y ∈ ps.zip ys, (defScope st).names.lookup y.1 = some .local ∨ ((defScope st).names.lookup y.1 = some .cell ∧ ((cellsFrom (z.heap.objs.size + 1) (defScope st).names []).lookup y.1).isSome = true) := by
    rintro ⟨nm, v⟩ hy
    exact (S.par nm (List.of_mem_zip hy).1).elim Or.inl fun q => Or.inr ⟨q, PySem.W.cellsFrom_some _ _ _ (Or.inl q)⟩
  refine codeAny_call_function hr.depth (kin _ _ lk) rfl S.co S.gen rfl (PySem.W.codeRec_of kin hcd) (bd _ _ _ _ (wpAny_newFunctionEnv_cells S.kind kinds ?_))
  rintro env rfl s1 ic
  refine ⟨(e0.mod.nolimit.keeps fun b o q => (e0.bs b o q).1).keeps ic.toInCall.keep, codeAny_func ?_⟩
  obtain ⟨t, ht, hq⟩ := hb cdv B out z H' xs R E' gd (hr.deeper _) hsp
  have J := inv_start (CX := CX0) (P := P) (E := E') S hr.hd e0 n1 r ic
  refine wpAny_mono (ht.nox.run [] s1 (start N xs) H' _ J hq) ?_ fun e s' q => q
  intro fl s' hs
  cases fl with
  | ret u =>
    obtain ⟨v, _, H2, J2, rv, q⟩ := hs
    exact ⟨v, H2, J2.os, J2.bare, J2.base, J2.hok, rv, q⟩
  | next =>
    obtain ⟨_, H2, J2, q⟩ := hs
    exact ⟨V.non, H2, J2.os, J2.bare, J2.base, J2.hok, rfl, q⟩
  | brk =>
    obtain ⟨_, _, _, q⟩ := hs
    exact q.elim
  | cont =>
    obtain ⟨_, _, _, q⟩ := hs
    exact q.elim
theorem fn_defG {g : SF Z} (F : Fun K x qual st f fd) (S : FnScope N ps (defScope st))
    (hb : ∀ (cdv : Value) (A : Around) (out : List Env) (z : Shared) (H : Hp) (E : XK), A.guards = some [] → Room k (A.deeper (envOfC qual (defScope st) z.heap.objs.size f cdv)) → SS (cxOf CX0 P w K mg base N qual (defScope st) f cdv A out z H E).nox Z (defBody st) g) :
    FnG P w K mg base (k + 1) f fd ps (spS K Z (bodyF ps.length N.length g)) :=
  fn_g F S (fun xs H R E h => sp_len bodyF_len h) fun cdv A out z H vs Q E gd hr h => body_ends rfl (hb cdv A out z H E gd hr) (scope_le S) h
/-- another function with the same answers where it has any -/
theorem spS_imp {g h : FF Z} (e : ∀ ts s r, g ts s = some r → h ts s = some r) {vs : List V} {H : Hp} {Q : VK} {E : XK} (q : spS K Z g vs H Q E) : spS K Z h vs H Q E := by
  obtain ⟨I, ts, s, a, s', h1, h2, h3, h4, h5, h6⟩ := q
  exact ⟨I, ts, s, a, s', h1, h2, h3, h4, e _ _ _ h5, h6⟩
theorem spP_imp {g h : FP} (e : ∀ ts a, g ts = some a → h ts = some a) {vs : List V} {H : Hp} {Q : VK} {E : XK} (q : spP K g vs H Q E) : spP K h vs H Q E :=
  spS_imp (fun ts s r hr => by
    unfold pureF at hr ⊢
    split at hr
    · rename_i a ea
      rw [e _ _ ea]
      exact hr
    · cases hr) q
end
end L2.TL
/-! TL6: the law's own call, for laws that show values. -/
namespace L2.TL
open PySem PySem.Spec
open PyProof.Rows
/-- the script alone may be tracked: at a, known to its object -/
def scriptH (a : Addr) (o : Obj) (xs : List V) (known : Bool) : Hp := fun b => if b = a ∧ known = true then some (.frz o (.lst xs)) else none
theorem scriptH_some {a b : Addr} {o : Obj} {xs : List V} {known : Bool} {u : HO} (h : scriptH a o xs known b = some u) : b = a ∧ known = true ∧ u = .frz o (.lst xs) := by
  unfold scriptH at h
  split at h
  · rename_i c
    cases h
    exact ⟨c.1, c.2, rfl⟩
  · cases h
theorem law_run {P : Program} {w : World} {K : PySem.W.Frag} {mg mb : Str → Option Value} {k : Nat} {fa a : Addr} {fd : FuncData} {x : Str} {sp : Sp} {z : Shared} {us : List Value} {ns : List Int}
    (kin : K.In z.heap) (gl : z.heap.Ns mainGlobals mg) (bl : z.heap.Ns builtinsNs mb) (bb : ∀ y : Str, y ≠ "__name__" → mb y = bootBuiltins y) (lim : z.heap.NoLimit) (gens : z.gens = #[])
    (at_ : z.heap.get? a = some { cls := .type "list", data := .seq us.toArray }) (ia : IntsAre us ns) (few : ns.length ≤ sizeLine) (room : Room k callerA)
    (F : ∀ base : Heap, K.In base → base.Ns mainGlobals mg → FnG P w K mg base k fa fd [x] sp) (bind : ∀ (s : Shared) (u : Value), BindsTo s fd ⟨[u], []⟩ [(x, u)])
    (hsp : ∀ H : Hp, Only H → SqL K H a (ns.map V.int) → sp [.ref a] H (fun v _ => v = .bl true) fun _ _ _ => False) :
    codeAny (model P w) callerA (.call (.ref fa) ⟨[.ref a], []⟩) (fun r s' => r = .ok (.ret (.bool true)) ∧ OldK z.heap s'.heap ∧ s'.os = z.os ∧ AllBare s'.gens) z := by
  have rel := vals_ints ia
  have nlen : us.length = ns.length := ia.length
  obtain ⟨known, hk⟩ : ∃ known : Bool, known = true ↔ K.lookup a = none := by
    cases K.lookup a with
    | none => exact ⟨true, by simp⟩
    | some o => exact ⟨false, by simp⟩
  generalize hH : scriptH a { cls := .type "list", data := .seq us.toArray } (ns.map V.int) known = H
  have some_of : ∀ {b : Addr} {u : HO}, H b = some u → b = a ∧ known = true ∧ u = .frz { cls := .type "list", data := .seq us.toArray } (.lst (ns.map V.int)) := fun {b u} e => scriptH_some (by rw [hH]; exact e)
  have only : Only H := fun b => by
    cases e : H b with
    | none => exact .inl rfl
    | some u =>
      obtain ⟨_, _, rfl⟩ := some_of e
      exact .inr ⟨_, _, rfl⟩
  have sq : SqL K H a (ns.map V.int) := by
    cases e : K.lookup a with
    | some o =>
      have q := kin a o e
      rw [at_] at q
      cases q
      exact .inr ⟨_, us.toArray, _, e, rfl, rfl, rfl, by rw [List.size_toArray, nlen]; exact few, by simpa using rel⟩
    | none =>
      have hkn : known = true := hk.mpr e
      refine .inl (.inr ⟨{ cls := .type "list", data := .seq us.toArray }, ?_⟩)
      rw [← hH]
      exact if_pos ⟨rfl, hkn⟩
  have ok : HOk P w H z.heap := fun b u e => by
    obtain ⟨rfl, _, rfl⟩ := some_of e
    exact ⟨at_, by rw [List.length_map]; exact few, us, _, rel, at_⟩
  have stays : ∀ {b : Addr} {o : Obj}, z.heap.get? b = some o → H b = none → (hidT z.heap H).get? b = some o := fun q n => hidT_get q n
  have dicts : ∀ {b : Addr} {m : Str → Option Value}, z.heap.Ns b m → (hidT z.heap H).Ns b m := fun {b m} ⟨o, es, ep, q, d, r⟩ => by
    refine ⟨o, es, ep, stays q ?_, d, r⟩
    cases e : H b with
    | none => rfl
    | some u =>
      obtain ⟨rfl, _, _⟩ := some_of e
      rw [at_] at q
      cases q
      cases (show Data.seq us.toArray _ = Data.dict es ep from d)
  have kin' : K.In (hidT z.heap H) := fun b o q => stays (kin b o q) (by
    cases e : H b with
    | none => rfl
    | some u =>
      obtain ⟨rfl, hkn, _⟩ := some_of e
      rw [hk.mp hkn] at q
      cases q)
  obtain ⟨ml, l1, l2⟩ := lim
  have e0 : Env0 P w K mg (hidT z.heap H) callerA [] z H :=
    { frames := rfl
      mod := { kin := kin', glob := dicts gl, blt := ⟨mb, dicts bl, bb⟩, nolimit := ⟨ml, dicts l1, l2⟩ }
      bs := fun b o q => of_hidT q
      bsz := Nat.le_of_eq (hidT_size _ _)
      funs := trivial
      frf := fun b hb => by cases hb
      hok := ok
      bare := .of_eq gens }
  refine codeAny_mono ((F _ kin' (dicts gl)).runG callerA [] z H _ [.ref a] [.ref a] _ _ rfl room e0 (bind z (.ref a)) (.cons rfl .nil) (hsp H only sq)) ?_
  intro r s' hr
  cases r with
  | error e => exact (show False from hr).elim
  | ok fl =>
    cases fl with
    | ret u =>
      obtain ⟨v, H', os, bare, un, ok', rv, q⟩ := hr
      cases (show v = .bl true from q)
      cases (show u = Value.bool true from rv)
      refine ⟨rfl, OldK.of_keep ?_, os, bare⟩
      intro b o ob
      cases e : H b with
      | none => exact un.keep b o ob e (by intro m; cases m) (by intro m; cases m)
      | some t =>
        obtain ⟨_, _, rfl⟩ := some_of e
        have i1 := (ok b _ e).1
        have i2 := (ok' b _ (un.frzs b _ _ e)).1
        rw [ob] at i1
        cases i1
        exact i2
    | _ => exact (show False from hr).elim
/-- the goal that k_head leaves (case hc) -/
theorem walk_g {l : PySem.W.OpenLaw} {n k : Nat} {q : Program} {loose : List Str} {XP : (Str → Option Value) → Heap → Prop} {YP : World → Heap → Prop} {d : DefRec} {K : Params → PySem.W.Frag} {sp : PySem.W.Frag → Sp} {x : Str}
    (most : l.most = some n) (few : n ≤ sizeLine) (nodef : d.params.defaults = []) (room : Room k callerA)
    (hY : ∀ (w : World) (h : Heap), YP w h → (K w.params).In h)
    (F : ∀ (w : World) (mg : Str → Option Value) (fa : Addr) (h : Heap), (K w.params).In h → h.Ns mainGlobals mg → mg d.name = some (.ref fa) →
      ∃ fd : FuncData, (∀ (s : Shared) (u : Value), BindsTo s fd ⟨[u], []⟩ [(x, u)]) ∧ ∀ base : Heap, (K w.params).In base → base.Ns mainGlobals mg → FnG l.prog w (K w.params) mg base k fa fd [x] (sp (K w.params)))
    (hsp : ∀ (K : PySem.W.Frag) (H : Hp) (a : Addr) (ns : List Int), ns.length ≤ n → Only H → SqL K H a (ns.map V.int) → sp K [.ref a] H (fun v _ => v = .bl true) fun _ _ _ => False) :
    PySem.W.WalkO q loose XP YP l.row.toRowW d [] (fun f vs => PySem.call f vs) := by
  refine Att.attach_call most nodef ?_
  intro w s₀ s₁ mg mb fa o pm cd doc a us ns G Y ho hd hcd hmg hobj ia hl gens
  obtain ⟨fd, bind, hF⟩ := F w mg fa _ (hY w _ Y) G.T.g hmg
  exact law_run (hY w _ Y) G.T.g G.T.b G.T.builtins G.T.nolimit gens hobj ia (Nat.le_trans hl few) room hF bind fun H ho hs => hsp _ H a ns hl ho hs
end L2.TL
/-! TL7: repr and == of trees. -/
namespace L2.TL
open PySem PySem.Spec
open PyProof.Rows
def keyD : Key → PyData
  | .inl i => .int i
  | .inr x => .str x
mutual
/-- a tree as data -/
def T.d : T → PyData
  | .non => .none
  | .bl b => .bool b
  | .int i => .int i
  | .str x => .str x
  | .tup ts => .tuple (dL ts)
  | .lst ts => .list (dL ts)
  | .dct ps => .dict (dP ps)
  | .ins _ _ => .none
  | .adr _ => .none
def dL : List T → List PyData
  | [] => []
  | t :: ts => t.d :: dL ts
def dP : List (Key × T) → List (PyData × PyData)
  | [] => []
  | (k, t) :: r => (keyD k, t.d) :: dP r
end
mutual
/-- .. it is data alone -/
def T.plain : T → Bool
  | .tup ts => plainL ts
  | .lst ts => plainL ts
  | .dct ps => plainP ps
  | .ins _ _ => false
  | .adr _ => false
  | _ => true
def plainL : List T → Bool
  | [] => true
  | t :: ts => t.plain && plainL ts
def plainP : List (Key × T) → Bool
  | [] => true
  | (_, t) :: r => t.plain && plainP r
end
mutual
/-- .. without lists -/
def T.noLst : T → Bool
  | .tup ts => noLstL ts
  | .lst _ => false
  | .dct ps => noLstP ps
  | _ => true
def noLstL : List T → Bool
  | [] => true
  | t :: ts => t.noLst && noLstL ts
def noLstP : List (Key × T) → Bool
  | [] => true
  | (_, t) :: r => t.noLst && noLstP r
end
section
variable {X : Cx} {pins : List (Addr × Obj)} {σ : St} {H I : Hp} {s : Shared}
theorem keysReads {h : Heap} {P : Program} {w : World} : ∀ {es : List DictEntry} {vs : List (Key × Value)}, PySem.Pairs (mixKind P w) es vs → ReadsAll h (es.map (·.key)) (vs.map fun p => keyD p.1) [] ∧ es.map (·.val) = vs.map (·.2)
  | _, _, .nil => ⟨ReadsAll.nil, rfl⟩
  | _, _, .cons hk hv t => by
    obtain ⟨h1, h2⟩ := keysReads (h := h) t
    rcases keyIs_shape hk with ⟨i, tk, e1, e2⟩ | ⟨x, tk, e1, e2⟩
    · refine ⟨?_, by simp only [List.map_cons]; rw [hv, h2]⟩
      simp only [List.map_cons]
      rw [e2, e1]
      exact ReadsAll.cons (Reads.int i tk) h1
    · refine ⟨?_, by simp only [List.map_cons]; rw [hv, h2]⟩
      simp only [List.map_cons]
      rw [e2, e1]
      exact ReadsAll.cons (Reads.str x tk) h1
/-- none of these places is the table of modules -/
def Off (as : List Addr) : Prop := sysModules ∉ as
theorem off_app {as bs : List Addr} (h : Off as) (g : Off bs) : Off (as ++ bs) := fun m => (List.mem_append.mp m).elim h g
theorem kv_snd {kvs : List (Key × V)} {vs : List (Key × Value)} (r : KV kvs vs) : Vals (kvs.map (·.2)) (vs.map (·.2)) ∧ kvs.map (·.1) = vs.map (·.1) := by
  induction r with
  | nil => exact ⟨.nil, rfl⟩
  | cons a _ ih => exact ⟨.cons a.2 ih.1, by simp only [List.map_cons]; rw [a.1, ih.2]⟩
theorem isD_vals {K : PySem.W.Frag} : ∀ {ps : List (Key × T)} {xs : List (Key × V)}, IsD K I ps xs → IsL K I (ps.map (·.2)) (xs.map (·.2)) ∧ xs.map (·.1) = ps.map (·.1)
  | [], _, h => by
    have h : _ = [] := h
    subst h
    exact ⟨IsL.nil, rfl⟩
  | (k, t) :: r, _, h => by
    obtain ⟨x, xr, rfl, h1, h2⟩ := h
    obtain ⟨q1, q2⟩ := isD_vals h2
    exact ⟨IsL.cons h1 q1, by simp only [List.map_cons]; rw [q2]⟩
theorem dP_keys : ∀ ps : List (Key × T), (dP ps).map (·.1) = (ps.map (·.1)).map keyD
  | [] => rfl
  | (k, t) :: r => by simp only [dP, List.map_cons, dP_keys r]
theorem dP_vals : ∀ ps : List (Key × T), (dP ps).map (·.2) = dL (ps.map (·.2))
  | [] => rfl
  | (k, t) :: r => by simp only [dP, dL, List.map_cons, dP_vals r]
theorem plainP_L : ∀ ps : List (Key × T), plainP ps = plainL (ps.map (·.2))
  | [] => rfl
  | (k, t) :: r => by simp only [plainP, plainL, List.map_cons, plainP_L r]
theorem noLstP_L : ∀ ps : List (Key × T), noLstP ps = noLstL (ps.map (·.2))
  | [] => rfl
  | (k, t) :: r => by simp only [noLstP, noLstL, List.map_cons, noLstP_L r]
theorem dP_len : ∀ ps : List (Key × T), (dP ps).length = ps.length
  | [] => rfl
  | (k, t) :: r => by simp only [dP, List.length_cons, dP_len r]
mutual
theorem Is.reads (J : Inv X pins σ H s) (sub : Same I H) : ∀ (t : T) (v : V) (u : Value), t.plain = true → Is X.K I t v → RelV v u → ∃ as, Reads s.heap u t.d as ∧ (t.noLst = true → Off as)
  | .non, _, _, _, h, r => by
    have h : _ = _ := h
    subst h
    cases r
    exact ⟨_, Reads.none, fun _ m => by cases m⟩
  | .bl b, _, _, _, h, r => by
    have h : _ = _ := h
    subst h
    cases r
    exact ⟨_, Reads.bool b, fun _ m => by cases m⟩
  | .int i, _, _, _, h, r => by
    have h : _ = _ := h
    subst h
    obtain ⟨t, rfl⟩ := r
    exact ⟨_, Reads.int i t, fun _ m => by cases m⟩
  | .str x, _, _, _, h, r => by
    have h : _ = _ := h
    subst h
    obtain ⟨t, rfl⟩ := r
    exact ⟨_, Reads.str x t, fun _ m => by cases m⟩
  | .lst ts, _, _, hp, h, r => by
    obtain ⟨a, xs, rfl, h1, h2⟩ := h
    cases r
    obtain ⟨its, rv, ⟨o, n, ho, hc, _, hd⟩, _⟩ := J.list (.of (sub _ _ h1))
    obtain ⟨as, hr, _⟩ := IsL.reads J sub ts xs its (by simpa only [T.plain] using hp) h2 rv
    exact ⟨_, Reads.list ho hc hd hr, fun z => by cases z⟩
  | .tup ts, _, _, hp, h, r => by
    obtain ⟨a, xs, rfl, h1, h2⟩ := h
    cases r
    obtain ⟨its, rv, ⟨o, ho, hc, n, hd⟩, _⟩ := J.tuple (sqt_mono sub h1)
    obtain ⟨as, hr, hn⟩ := IsL.reads J sub ts xs its (by simpa only [T.plain] using hp) h2 rv
    exact ⟨_, Reads.tuple ho hc hd hr, fun z => hn (by simpa only [T.noLst] using z)⟩
  | .dct ps, _, _, hp, h, r => by
    obtain ⟨a, xs, rfl, h1, h2⟩ := h
    cases r
    obtain ⟨hz, hS, vs, kv, o, es, ep, ho, hx, hd, _, pr, _⟩ : xs.length ≤ sizeLine ∧ (a == sysModules) = false ∧ ∃ vs, KV xs vs ∧ s.heap.DictOf (mixKind X.prog X.w) a vs := J.hok a _ (sub _ _ h1)
    obtain ⟨rk, rl⟩ := keysReads (h := s.heap) pr
    obtain ⟨kv1, kv2⟩ := kv_snd kv
    obtain ⟨i1, i2⟩ := isD_vals h2
    obtain ⟨as, hr, hn⟩ := IsD.reads J sub ps _ _ (by simpa only [T.plain] using hp) i1 kv1
    have e1 : (vs.map fun p => keyD p.1) = (dP ps).map (·.1) := by
      have : (vs.map fun p => keyD p.1) = (vs.map (·.1)).map keyD := by rw [List.map_map]; rfl
      rw [this, ← kv2, i2, dP_keys]
    rw [e1] at rk
    rw [← rl] at hr
    refine ⟨_, Reads.dict ho hx.1 hd rk (by rw [dP_vals]; exact hr), fun z => ?_⟩
    have hne : a ≠ sysModules := by simpa using hS
    intro m
    rcases List.mem_append.mp m with m | m
    · rcases List.mem_cons.mp m with m | m
      · exact hne m.symm
      · cases m
    · exact hn (by simpa only [T.noLst] using z) m
  | .ins _ _, _, _, hp, _, _ => by cases hp
  | .adr _, _, _, hp, _, _ => by cases hp
theorem IsL.reads (J : Inv X pins σ H s) (sub : Same I H) : ∀ (ts : List T) (vs : List V) (us : List Value), plainL ts = true → IsL X.K I ts vs → Vals vs us → ∃ as, ReadsAll s.heap us (dL ts) as ∧ (noLstL ts = true → Off as)
  | [], _, _, _, h, r => by
    have h : _ = [] := h
    subst h
    cases r
    exact ⟨_, ReadsAll.nil, fun _ m => by cases m⟩
  | t :: ts, _, _, hp, h, r => by
    obtain ⟨x, xr, rfl, h1, h2⟩ := h
    cases r with
    | cons r1 r2 =>
      simp only [plainL, Bool.and_eq_true] at hp
      obtain ⟨as, q1, n1⟩ := Is.reads J sub t x _ hp.1 h1 r1
      obtain ⟨bs, q2, n2⟩ := IsL.reads J sub ts xr _ hp.2 h2 r2
      refine ⟨_, ReadsAll.cons q1 q2, fun z => ?_⟩
      simp only [noLstL, Bool.and_eq_true] at z
      exact off_app (n1 z.1) (n2 z.2)
theorem IsD.reads (J : Inv X pins σ H s) (sub : Same I H) : ∀ (ps : List (Key × T)) (vs : List V) (us : List Value), plainP ps = true → IsL X.K I (ps.map (·.2)) vs → Vals vs us → ∃ as, ReadsAll s.heap us (dL (ps.map (·.2))) as ∧ (noLstP ps = true → Off as)
  | [], _, _, _, h, r => by
    have h : _ = [] := h
    subst h
    cases r
    exact ⟨_, ReadsAll.nil, fun _ m => by cases m⟩
  | (k, t) :: ps, _, _, hp, h, r => by
    obtain ⟨x, xr, rfl, h1, h2⟩ := h
    cases r with
    | cons r1 r2 =>
      simp only [plainP, Bool.and_eq_true] at hp
      obtain ⟨as, q1, n1⟩ := Is.reads J sub t x _ hp.1 h1 r1
      obtain ⟨bs, q2, n2⟩ := IsD.reads J sub ps xr _ hp.2 h2 r2
      refine ⟨_, ReadsAll.cons q1 q2, fun z => ?_⟩
      simp only [noLstP, Bool.and_eq_true] at z
      exact off_app (n1 z.1) (n2 z.2)
end
end
/-- what repr shows -/
def T.show (t : T) : Str := t.d.shown
def showOk (t : T) : Bool := t.plain && t.d.showable && (!t.d.hasDict || t.noLst) && decide (t.d.depth ≤ 60) && decide (t.d.shown.length ≤ sizeLine)
def reprT : List T → Option T
  | [t] => if showOk t = true then some (.str t.show) else none
  | _ => none
section
variable {X : Cx}
def rRepr (K : PySem.W.Frag) : List V → Hp → VK → Prop := fun xs H Q => ∃ I t x, Same I H ∧ xs = [x] ∧ Is K I t x ∧ showOk t = true ∧ Q (.str t.show) H
theorem call_repr (gd : X.A.guards = some []) (hu : X.A.units + 64 < cLine) : CallR X (.builtin "repr") (rRepr X.K) := by
  intro pins s σ H xs us Q J r h
  obtain ⟨I, t, x, sub, rfl, ix, ok, q⟩ := h
  obtain ⟨u, rfl, rx⟩ := r.one
  unfold showOk at ok
  simp only [Bool.and_eq_true, decide_eq_true_eq, Bool.or_eq_true, Bool.not_eq_true'] at ok
  obtain ⟨⟨⟨⟨o1, o2⟩, o3⟩, o4⟩, o5⟩ := ok
  have q : Q (.str t.d.shown) H := q
  have fin : ∀ (h' : Heap) (tk : Tok) (n : Nat), (∀ b o, s.heap.get? b = some o → h'.get? b = some o) → EP X pins σ Q (.str t.d.shown tk) { s with heap := h', toks := n } := fun h' tk n hk => ⟨.str _, H, J.kept hk, ⟨tk, rfl⟩, q⟩
  have far : ∀ a, u = Value.ref a → wpAny (model X.prog X.w) X.A (call (.builtin "repr") [u]) (EP X pins σ Q) X.xe s := fun a e => by
    subst e
    obtain ⟨as, rd, off⟩ := Is.reads J sub t x _ o1 ix rx
    exact repr_of_reads' rd o2 (fun hd => off (o3.resolve_left (by rw [hd]; exact Bool.noConfusion))) gd (by omega) (fun _ _ z => z) (fun h' tk n hk => fin h' tk n hk) o5
  cases t with
  | non =>
    cases (show x = V.non from ix)
    cases rx
    exact PySem.P.repr_of_none (fin s.heap _ _ fun _ _ z => z)
  | bl b =>
    cases (show x = V.bl b from ix)
    cases rx
    refine PySem.P.repr_of_bool ?_
    cases b
    · exact fin s.heap _ _ fun _ _ z => z
    · exact fin s.heap _ _ fun _ _ z => z
  | int i =>
    cases (show x = V.int i from ix)
    obtain ⟨tk, rfl⟩ := rx
    exact PySem.P.repr_of_int (of_decide_eq_true o2) (fin s.heap _ _ fun _ _ z => z)
  | str y =>
    cases (show x = V.str y from ix)
    obtain ⟨tk, rfl⟩ := rx
    exact PySem.P.repr_of_str (fin s.heap _ _ fun _ _ z => z) o5
  | lst ts =>
    obtain ⟨a, ys, rfl, _⟩ := id ix
    exact far a rx
  | tup ts =>
    obtain ⟨a, ys, rfl, _⟩ := id ix
    exact far a rx
  | dct ps =>
    obtain ⟨a, ys, rfl, _⟩ := id ix
    exact far a rx
  | ins _ _ => cases o1
  | adr _ => cases o1
theorem op1_repr : Op1 X (rRepr X.K) reprT := by
  intro Z G I H σ τ s as c xs Q w il e q
  unfold reprT at e
  split at e
  · rename_i t
    split at e
    · rename_i ok
      cases e
      obtain ⟨x, rfl, ix⟩ := il.one
      exact ⟨I, t, x, w.sub, rfl, ix, ok, q.here w rfl⟩
    · cases e
  · cases e
/-! ### == of data -/
def eqT (neg : Bool) : T → T → Option T := fun a b => if a.plain = true ∧ b.plain = true ∧ SeqAt.shaped a.d = true ∧ SeqAt.shaped b.d = true then some (.bl (if neg then !PyData.eqv a.d b.d else PyData.eqv a.d b.d)) else none
def rEqT (K : PySem.W.Frag) (neg : Bool) : R2 := fun x y H Q => ∃ I a b, Same I H ∧ Is K I a x ∧ Is K I b y ∧ a.plain = true ∧ b.plain = true ∧ SeqAt.shaped a.d = true ∧ SeqAt.shaped b.d = true ∧ Q (.bl (if neg then !PyData.eqv a.d b.d else PyData.eqv a.d b.d)) H
theorem op_eqT (hu : X.A.units + 64 < cLine) : OpR X (compareOp .Eq) (rEqT X.K false) := by
  intro pins s σ H x y v u Q J rx ry h
  obtain ⟨I, a, b, sub, ia, ib, pa, pb, sa, sb, q⟩ := h
  obtain ⟨as, r1, _⟩ := Is.reads J sub a x v pa ia rx
  obtain ⟨bs, r2, _⟩ := Is.reads J sub b y u pb ib ry
  exact SeqAt.compareEq_shaped r1 r2 sa sb hu ⟨.bl _, H, J, rfl, q⟩
theorem op_neT (hu : X.A.units + 64 < cLine) : OpR X (compareOp .NotEq) (rEqT X.K true) := by
  intro pins s σ H x y v u Q J rx ry h
  obtain ⟨I, a, b, sub, ia, ib, pa, pb, sa, sb, q⟩ := h
  obtain ⟨as, r1, _⟩ := Is.reads J sub a x v pa ia rx
  obtain ⟨bs, r2, _⟩ := Is.reads J sub b y u pb ib ry
  exact SeqAt.compareNe_shaped r1 r2 sa sb hu ⟨.bl _, H, J, rfl, q⟩
theorem op2_eqT {neg : Bool} : Op2 X (rEqT X.K neg) (eqT neg) := by
  intro Z G I H σ τ s a b c x y Q w i1 i2 e q
  unfold eqT at e
  split at e
  · rename_i h
    cases e
    exact ⟨I, a, b, w.sub, i1, i2, h.1, h.2.1, h.2.2.1, h.2.2.2, q.here w rfl⟩
  · cases e
end
end L2.TL
/-! TL8: texts, places, slices, len, constants, chains. -/
namespace L2.TL
open PySem PySem.Spec
open PyProof.Rows
section
variable {X : Cx} {Z : Res} {a b c e : Expr} {es : List Expr} {fa fb fc f : EF Z} {fs : EFs Z} {pos : Pos}
/-! ### chains -/
theorem chain_run {r r' : R2} {op op' : T → T → Option T} {ta tb tc : TE} (hr : Op2 X r op) (hr' : Op2 X r' op') (h1 : ∀ G I H σ τ s a s' Q, Rep X.K Z G I H σ τ s → fa τ s = some (a, s') → Hand X Z G I σ τ s' a Q → ta σ H Q)
    (h2 : ∀ G I H σ τ s a s' Q, Rep X.K Z G I H σ τ s → fb τ s = some (a, s') → Hand X Z G I σ τ s' a Q → tb σ H Q) (h3 : ∀ G I H σ τ s a s' Q, Rep X.K Z G I H σ τ s → fc τ s = some (a, s') → Hand X Z G I σ τ s' a Q → tc σ H Q)
    {G I H : Hp} {σ : St} {τ : List SV} {s s' : Z.S} {d : T} {Q : VK} (w : Rep X.K Z G I H σ τ s) (h : x3 op op' fa fb fc τ s = some (d, s')) (q : Hand X Z G I σ τ s' d Q) : tChain r r' ta tb tc σ H Q := by
  unfold x3 at h
  split at h
  · rename_i a s1 ea
    split at h
    · rename_i b s2 eb
      refine h1 _ _ _ _ _ _ _ _ _ w ea fun I1 H1 v m1 w1 i1 => ?_
      refine h2 _ _ _ _ _ _ _ _ _ w1 eb fun I2 H2 u m2 w2 i2 => ?_
      split at h
      · rename_i eo
        split at h
        · rename_i c s3 ec
          split at h
          · rename_i d' ed
            cases h
            refine hr Z _ _ _ _ _ _ _ _ _ _ _ _ w2 (i1.mono m2) i2 eo fun I3 H3 z m3 w3 i3 => ⟨true, i3, iteT ?_⟩
            refine h3 _ _ _ _ _ _ _ _ _ w3 ec fun I4 H4 y m4 w4 i4 => ?_
            exact hr' Z _ _ _ _ _ _ _ _ _ _ _ _ w4 (i2.mono (m3.trans m4)) i4 ed fun I5 H5 z' m5 w5 i5 => q I5 H5 z' ((((m1.trans m2).trans m3).trans m4).trans m5) w5 i5
          · cases h
        · cases h
      · rename_i eo
        cases h
        exact hr Z _ _ _ _ _ _ _ _ _ _ _ _ w2 (i1.mono m2) i2 eo fun I3 H3 z m3 w3 i3 => ⟨false, i3, iteF (q I3 H3 _ ((m1.trans m2).trans m3) w3 rfl)⟩
      · cases h
    · cases h
  · cases h
theorem ex_chain {o o' : CmpOp} {r r' : R2} {op op' : T → T → Option T} (ho : OpR X (compareOp o) r) (hr : Op2 X r op) (ho' : OpR X (compareOp o') r') (hr' : Op2 X r' op') (ha : EX X Z a fa) (hb : EX X Z b fb) (hc : EX X Z c fc)
    (hm : lastMarks [o, o'] [b, c] = false := by with_unfolding_all rfl) : EX X Z (.Compare a [o, o'] [b, c] pos) (x3 op op' fa fb fc) := by
  obtain ⟨ta, pa, h1⟩ := ha
  obtain ⟨tb, pb, h2⟩ := hb
  obtain ⟨tc, pc, h3⟩ := hc
  exact ⟨_, pe_chain ho ho' pa pb pc hm, fun G I H σ τ s d s' Q w h q => chain_run hr hr' h1 h2 h3 w h q⟩
theorem eb_chain {o o' : CmpOp} {r r' : R2} {op op' : T → T → Option T} (ho : OpR X (compareOp o) r) (hr : Op2 X r op) (ho' : OpR X (compareOp o') r') (hr' : Op2 X r' op') (ha : EX X Z a fa) (hb : EX X Z b fb) (hc : EX X Z c fc)
    (hm : lastMarks [o, o'] [b, c] = false := by with_unfolding_all rfl) : EB X Z (.Compare a [o, o'] [b, c] pos) (xb (x3 op op' fa fb fc)) := by
  obtain ⟨ta, pa, h1⟩ := ha
  obtain ⟨tb, pb, h2⟩ := hb
  obtain ⟨tc, pc, h3⟩ := hc
  exact ⟨_, pt_chain ho ho' pa pb pc hm, fun G I H σ τ s d s' Q w h q => chain_run hr hr' h1 h2 h3 w (xb_of h) fun I' H' v m w' i => ⟨d, i, q I' H' m w'⟩⟩
/-- a constant of the module -/
theorem ex_glob {x : Str} {t : T} {v : V} {u : Value} (hg : Gl X x) (hm : X.mg x = some u) (r : RelV v u) (hi : ∀ I, Is X.K I t v) (hd : (x == ("__debug__" : Str)) = false := by decide) : EX X Z (.Name x pos) (xC t) :=
  ⟨_, pe_glob hg hm r hd, fun G I H σ τ s a s' Q w h q => by
    cases h
    exact q I H v (Same.refl _) w (hi I)⟩
/-! ### len -/
def lenT : List T → Option T
  | [.lst ts] => some (.int ts.length)
  | [.tup ts] => some (.int ts.length)
  | [.str x] => if x.length ≤ sizeLine then some (.int x.length) else none
  | _ => none
def rLen (K : PySem.W.Frag) : List V → Hp → VK → Prop := fun xs H Q => ∃ x n, xs = [x] ∧ LenV K x H n ∧ Q (.int n) H
theorem op1_len : Op1 X (rLen X.K) lenT := by
  intro Z G I H σ τ s as c xs Q w il e q
  unfold lenT at e
  split at e
  · cases e
    obtain ⟨x, rfl, ix⟩ := il.one
    obtain ⟨p, ys, rfl, h1, h2⟩ := ix
    exact ⟨_, _, rfl, .inl ⟨ys, .of (w.sub _ _ h1), rfl⟩, by rw [h2.len]; exact q.here w rfl⟩
  · cases e
    obtain ⟨x, rfl, ix⟩ := il.one
    obtain ⟨p, ys, rfl, h1, h2⟩ := ix
    exact ⟨_, _, rfl, .inr ⟨ys, sqt_mono w.sub h1, rfl⟩, by rw [h2.len]; exact q.here w rfl⟩
  · split at e
    · rename_i y hz
      cases e
      obtain ⟨x, rfl, ix⟩ := il.one
      have ix : x = _ := ix
      subst ix
      exact ⟨_, _, rfl, ⟨hz, rfl⟩, q.here w rfl⟩
    · cases e
  · cases e
/-! ### an item by its place -/
def ixT : T → T → Option T
  | .lst ts, .int i => atI ts i
  | .tup ts, .int i => atI ts i
  | .str x, .int i => if x.length ≤ sizeLine then match atI x.cps.toList i with
      | some c => some (.str ⟨#[c]⟩)
      | none => none
    else none
  | _, _ => none
theorem IsL.atI {K : PySem.W.Frag} {I : Hp} {ts : List T} {xs : List V} {i : Int} {t : T} (h : IsL K I ts xs) (e : L2.atI ts i = some t) : ∃ x, L2.atI xs i = some x ∧ Is K I t x := by
  unfold L2.atI at e ⊢
  rw [h.len]
  cases hj : ixN ts.length i with
  | none => rw [hj] at e; cases e
  | some j =>
    rw [hj] at e
    exact h.at e
theorem op2_ix : Op2 X (rIx X.K) ixT := by
  intro Z G I H σ τ s a b c x y Q w i1 i2 e q
  unfold ixT at e
  split at e
  · obtain ⟨p, xs, rfl, h1, h2⟩ := i1
    have i2 : y = _ := i2
    subst i2
    obtain ⟨v, e1, e2⟩ := h2.atI e
    exact .inl ⟨p, xs, _, v, rfl, rfl, .of (w.sub _ _ h1), e1, q.here w e2⟩
  · obtain ⟨p, xs, rfl, h1, h2⟩ := i1
    have i2 : y = _ := i2
    subst i2
    obtain ⟨v, e1, e2⟩ := h2.atI e
    exact .inr (.inl ⟨p, xs, _, v, rfl, rfl, sqt_mono w.sub h1, e1, q.here w e2⟩)
  · split at e
    · rename_i hz
      split at e
      · rename_i d ed
        cases e
        have i1 : x = _ := i1
        have i2 : y = _ := i2
        subst i1 i2
        exact .inr (.inr ⟨_, _, d, rfl, rfl, hz, ed, q.here w rfl⟩)
      · cases e
    · cases e
  · cases e
/-! ### slices -/
def EO (X : Cx) (Z : Res) (e : Option Expr) (f : List SV → Z.S → Option (Option Int × Z.S)) : Prop :=
  ∃ t, PO X e t ∧ ∀ G I H σ τ s o s' Q, Rep X.K Z G I H σ τ s → f τ s = some (o, s') → (∀ I' H', Same I I' → Rep X.K Z G I' H' σ τ s' → Q o H') → t σ H Q
def oNone {Z : Res} : List SV → Z.S → Option (Option Int × Z.S) := fun _ s => some (none, s)
def oSome {Z : Res} (f : EF Z) : List SV → Z.S → Option (Option Int × Z.S) := fun τ s => match f τ s with
  | some (.int i, s') => some (some i, s')
  | _ => none
theorem eo_none : EO X Z none oNone := ⟨_, po_none, fun G I H σ τ s o s' Q w h q => by
  cases h
  exact q I H (Same.refl _) w⟩
theorem eo_some (h : EX X Z e f) : EO X Z (some e) (oSome f) := by
  obtain ⟨t, p, h1⟩ := h
  refine ⟨_, po_some p, fun G I H σ τ s o s' Q w h q => ?_⟩
  unfold oSome at h
  split at h
  · rename_i i s1 ea
    cases h
    refine h1 _ _ _ _ _ _ _ _ _ w ea fun I1 H1 v m1 w1 i1 => ?_
    have i1 : v = _ := i1
    subst i1
    exact ⟨i, rfl, q I1 H1 m1 w1⟩
  · cases h
def cutL {α : Type} (ts : List α) (lo hi : Option Int) : List α := (ts.drop (HT.sIx ts.length 0 lo)).take (HT.sIx ts.length ts.length hi - HT.sIx ts.length 0 lo)
def cutT (t : T) (lo hi : Option Int) : Option T := match t with
  | .tup ts => some (.tup (cutL ts lo hi))
  | .lst ts => some (.lst (cutL ts lo hi))
  | .str x => if x.length ≤ sizeLine then some (.str (cutS x lo hi)) else none
  | _ => none
theorem IsL.cut {K : PySem.W.Frag} {I : Hp} {ts : List T} {xs : List V} (h : IsL K I ts xs) (lo hi : Option Int) : IsL K I (cutL ts lo hi) (cutV xs lo hi) := by
  unfold cutL cutV
  rw [h.len]
  exact (h.drop _).take _
def xCut {Z : Res} (f : EF Z) (lo hi : List SV → Z.S → Option (Option Int × Z.S)) : EF Z := fun τ s => match f τ s with
  | some (a, s1) => match lo τ s1 with
    | some (l, s2) => match hi τ s2 with
      | some (h, s3) => match cutT a l h with
        | some b => some (b, s3)
        | none => none
      | none => none
    | none => none
  | none => none
def rSlc (K : PySem.W.Frag) : V → Option Int → Option Int → Hp → VK → Prop := fun x lo hi H Q => rSlL K x lo hi H Q ∨ (rSlA K x lo hi H Q ∨ rSlS x lo hi H Q)
theorem slc_run {G I H : Hp} {σ : St} {τ : List SV} {s : Z.S} {a b : T} {x : V} {lo hi : Option Int} {Q : VK} (w : Rep X.K Z G I H σ τ s) (i : Is X.K I a x) (h : cutT a lo hi = some b) (q : Hand X Z G I σ τ s b Q) : rSlc X.K x lo hi H Q := by
  unfold cutT at h
  split at h
  · rename_i ts
    cases h
    obtain ⟨p, xs, rfl, h1, h2⟩ := i
    refine .inr (.inl ⟨p, xs, rfl, sqt_mono w.sub h1, fun hw => ?_, fun _ l hl => q.new w hl fun I' m e => ⟨l, _, rfl, .of e, (h2.cut lo hi).mono m⟩⟩)
    refine q.here w ⟨p, xs, rfl, h1, ?_⟩
    unfold cutL
    rw [h2.len] at hw
    rw [hw.1, hw.2, List.drop_zero, Nat.sub_zero, List.take_length]
    exact h2
  · cases h
    obtain ⟨p, xs, rfl, h1, h2⟩ := i
    exact .inl ⟨p, xs, rfl, .of (w.sub _ _ h1), fun l hl => q.new w hl fun I' m e => ⟨l, _, rfl, e, (h2.cut lo hi).mono m⟩⟩
  · split at h
    · rename_i hz
      cases h
      have i : x = _ := i
      subst i
      exact .inr (.inr ⟨_, rfl, hz, q.here w rfl⟩)
    · cases h
  · cases h
theorem ex_cut {lo hi : Option Expr} {fl fh : List SV → Z.S → Option (Option Int × Z.S)} {p2 : Pos} (he : EX X Z e f) (hl : EO X Z lo fl) (hh : EO X Z hi fh) : EX X Z (.Subscript e (.Slice lo hi none p2) pos) (xCut f fl fh) := by
  obtain ⟨t, p, h1⟩ := he
  obtain ⟨tl, pl, h2⟩ := hl
  obtain ⟨th, ph, h3⟩ := hh
  refine ⟨_, pe_slice (r := rSlc X.K) (sl_list.or (sl_tupA.or sl_str)) p pl ph, fun G I H σ τ s a s' Q w h q => ?_⟩
  unfold xCut at h
  split at h
  · rename_i a s1 ea
    split at h
    · rename_i l s2 el
      split at h
      · rename_i u s3 eh
        split at h
        · rename_i b eb
          cases h
          refine h1 _ _ _ _ _ _ _ _ _ w ea fun I1 H1 v m1 w1 i1 => ?_
          refine h2 _ _ _ _ _ _ _ _ _ w1 el fun I2 H2 m2 w2 => ?_
          refine h3 _ _ _ _ _ _ _ _ _ w2 eh fun I3 H3 m3 w3 => ?_
          exact slc_run w3 (i1.mono (m2.trans m3)) eb fun I4 H4 z m4 w4 i4 => q I4 H4 z (((m1.trans m2).trans m3).trans m4) w4 i4
        · cases h
      · cases h
    · cases h
  · cases h
/-! ### methods of texts -/
def strs? : List T → Option (List Str)
  | [] => some []
  | .str x :: r => match strs? r with
    | some xs => some (x :: xs)
    | none => none
  | _ => none
theorem strs?_eq : ∀ {ts : List T} {xs : List Str}, strs? ts = some xs → ts = xs.map T.str
  | [], _, h => by
    cases h
    rfl
  | t :: r, xs, h => by
    cases t with
    | str x =>
      have h : (match strs? r with
        | some xs => some (x :: xs)
        | none => none) = some xs := h
      split at h
      · rename_i ys e
        cases h
        rw [strs?_eq e]
        rfl
      · cases h
    | _ => cases h
theorem strs?_map : ∀ xs : List Str, strs? (xs.map T.str) = some xs
  | [] => rfl
  | x :: r => by
    show (match strs? (r.map T.str) with
      | some xs => some (x :: xs)
      | none => none) = some (x :: r)
    rw [strs?_map r]
def joinT : T → List T → Option T
  | .str a, [.lst ts] => match strs? ts with
    | some ys => if (ys.map (·.length)).sum + ys.length * a.length ≤ 16777216 then some (.str (Txt.join a ys)) else none
    | none => none
  | _, _ => none
def rJoin (K : PySem.W.Frag) : V → List V → Hp → VK → Prop := fun x xs H Q => ∃ a p, ∃ ys : List Str, x = .str a ∧ xs = [.ref p] ∧ (SqL K H p (ys.map V.str) ∨ SqT K H p (ys.map V.str)) ∧
    (ys.map (·.length)).sum + ys.length * a.length ≤ 16777216 ∧ Q (.str (Txt.join a ys)) H
theorem opm_join : OpM X (rJoin X.K) joinT := by
  intro Z G I H σ τ s a as c x xs Q w ia il e q
  unfold joinT at e
  split at e
  · rename_i y ts
    split at e
    · rename_i ys es
      split at e
      · rename_i hz
        cases e
        have ia : x = _ := ia
        subst ia
        obtain ⟨v, rfl, iv⟩ := il.one
        rw [strs?_eq es] at iv
        obtain ⟨p, us, rfl, h1, h2⟩ := iv
        have := h2.strs
        subst this
        exact ⟨_, p, ys, rfl, rfl, .inl (.of (w.sub _ _ h1)), hz, q.here w rfl⟩
      · cases e
    · cases e
  · cases e
/-- a method of a text that takes nothing -/
def strM (g : Str → T) (lim : Nat) : T → List T → Option T
  | .str a, [] => if a.length ≤ lim then some (g a) else none
  | _, _ => none
def rStrM (g : Str → V) (lim : Nat) : V → List V → Hp → VK → Prop := fun x xs H Q => ∃ a, x = .str a ∧ xs = [] ∧ a.length ≤ lim ∧ Q (g a) H
theorem opm_str {g : Str → T} {gv : Str → V} {lim : Nat} (hg : ∀ K I a, Is K I (g a) (gv a)) : OpM X (rStrM gv lim) (strM g lim) := by
  intro Z G I H σ τ s a as c x xs Q w ia il e q
  unfold strM at e
  split at e
  · split at e
    · rename_i hz
      cases e
      have ia : x = _ := ia
      subst ia
      exact ⟨_, rfl, il.zero, hz, q.here w (hg _ _ _)⟩
    · cases e
  · cases e
def rStrT (g : Str → V) : V → List V → Hp → VK → Prop := fun x xs H Q => ∃ a, x = .str a ∧ xs = [] ∧ True ∧ Q (g a) H
def strMT (g : Str → T) : T → List T → Option T
  | .str a, [] => some (g a)
  | _, _ => none
theorem opm_strT {g : Str → T} {gv : Str → V} (hg : ∀ K I a, Is K I (g a) (gv a)) : OpM X (rStrT gv) (strMT g) := by
  intro Z G I H σ τ s a as c x xs Q w ia il e q
  unfold strMT at e
  split at e
  · cases e
    have ia : x = _ := ia
    subst ia
    exact ⟨_, rfl, il.zero, trivial, q.here w (hg _ _ _)⟩
  · cases e
theorem is_bl (g : Str → Bool) : ∀ (K : PySem.W.Frag) (I : Hp) (a : Str), Is K I (T.bl (g a)) (V.bl (g a)) := fun _ _ _ => rfl
theorem is_str (g : Str → Str) : ∀ (K : PySem.W.Frag) (I : Hp) (a : Str), Is K I (T.str (g a)) (V.str (g a)) := fun _ _ _ => rfl
/-! ### text * n -/
def mulS : T → T → Option T
  | .str x, .int n => if 0 ≤ n ∧ n ≤ 1000 ∧ x.length ≤ 1000 then some (.str (Txt.mul x n)) else none
  | _, _ => none
def rMulS : R2 := fun x y H Q => ∃ z n, x = .str z ∧ y = .int n ∧ (0 ≤ n ∧ n ≤ 1000 ∧ z.length ≤ 1000) ∧ Q (.str (Txt.mul z n)) H
theorem op_mulS : OpR X (binaryOp .Mult) rMulS := by
  intro pins s σ H x y v u Q J rx ry h
  obtain ⟨z, n, rfl, rfl, ⟨n0, n1, n2⟩, q⟩ := h
  obtain ⟨t, rfl⟩ := rx
  obtain ⟨t', rfl⟩ := ry
  refine SB.mul ⟨?_, fun h1 h2 h3 => ?_, fun h1 h2 => ?_⟩ fun t' k => ⟨.str _, H, J.tok _, ⟨_, rfl⟩, q⟩
  · have e1 : decide (n < -(2 ^ 63 : Int)) = false := decide_eq_false (by omega)
    have e2 : decide (n ≥ 2 ^ 63) = false := decide_eq_false (by omega)
    rw [e1, e2]
    rfl
  · have h4 : (1000 : Int) ≤ (2 ^ 63 - 1) / n := by
      rw [Int.le_ediv_iff_mul_le (by omega)]
      omega
    omega
  · have hk : n.toNat ≤ 1000 := by omega
    have hm : z.length * n.toNat ≤ 1000 * 1000 := Nat.mul_le_mul n2 hk
    exact decide_eq_false (by rw [sizeLine_eq] at *; omega)
theorem op2_mulS : Op2 X rMulS mulS := by
  intro Z G I H σ τ s a b c x y Q w i1 i2 e q
  unfold mulS at e
  split at e
  · split at e
    · rename_i hz
      cases e
      have i1 : x = _ := i1
      have i2 : y = _ := i2
      exact ⟨_, _, i1, i2, hz, q.here w rfl⟩
    · cases e
  · cases e
end
end L2.TL
/-! TLd: the deck that a law draws from. -/
namespace L2.TL
open PySem PySem.Spec
open PyProof.Rows
structure Deck where
  cells : List Int
  blend : Int
  draws : Int
  few : cells.length ≤ 63
def deckK (c : Addr) (b n : Int) : List (Key × V) := [(Sum.inr "cells", .ref c), (Sum.inr "blend", .int b), (Sum.inr "draws", .int n)]
def DeckAt (d c : Addr) (s : Deck) (H : Hp) : Prop := H d = some (.dK (deckK c s.blend s.draws)) ∧ H c = some (.lst (s.cells.map V.int))
/-- the resource: the dict at d, its list at c -/
def deckZ (d c : Addr) : Res where
  S := Deck
  F := fun p => p = d ∨ p = c
  R := fun s _ H => DeckAt d c s H
  dom := fun s I H p r h => by
    rcases h with rfl | rfl
    · exact ⟨_, r.1⟩
    · exact ⟨_, r.2⟩
  loc := fun s I H I' H' r _ k => ⟨by rw [k d (.inl rfl)]; exact r.1, by rw [k c (.inr rfl)]; exact r.2⟩
theorem s_bc : ¬ ("blend" : Str) = "cells" := by decide +kernel
theorem s_cd : ¬ ("cells" : Str) = "draws" := by decide +kernel
theorem s_bd : ¬ ("blend" : Str) = "draws" := by decide +kernel
theorem s_cb : ¬ ("cells" : Str) = "blend" := by decide +kernel
theorem s_db : ¬ ("draws" : Str) = "blend" := by decide +kernel
theorem s_dc : ¬ ("draws" : Str) = "cells" := by decide +kernel
theorem inrN {x y : Str} (h : ¬ x = y) : ¬ (Sum.inr x : Key) = Sum.inr y := fun e => h (Sum.inr.inj e)
theorem deck_cells (c : Addr) (b n : Int) : valV (deckK c b n) (Sum.inr "cells") = some (.ref c) := by
  unfold deckK
  rw [valV_pos rfl]
theorem deck_blend (c : Addr) (b n : Int) : valV (deckK c b n) (Sum.inr "blend") = some (.int b) := by
  unfold deckK
  rw [valV_neg (inrN s_cb), valV_pos rfl]
theorem deck_draws (c : Addr) (b n : Int) : valV (deckK c b n) (Sum.inr "draws") = some (.int n) := by
  unfold deckK
  rw [valV_neg (inrN s_cd), valV_neg (inrN s_bd), valV_pos rfl]
theorem deck_put (c : Addr) (b n m : Int) : putK (deckK c b n) (Sum.inr "draws") (.int m) = deckK c b m := by
  unfold deckK putK
  simp [s_cd, s_bd]
theorem deck_merge (c : Addr) (b n : Int) : mergeK [] (deckK c b n) = deckK c b n := by
  unfold mergeK deckK
  simp [putK, s_bc, s_cd, s_bd, s_cb, s_db, s_dc]
/-- one draw -/
def drawF (p q : Int) (s : Deck) (n : Int) : Int × Deck :=
  let dr := s.draws + 1
  let tail := fun (fig : Int) => (((((fig * 40692 + q) % 2147483647) * ((fig * 40692 + q) % 2147483647) + 52711 * dr + q) % 2147483587 * 39373) % 2147483563 / 64) % n
  match h : s.cells.getLast? with
  | none => (tail (s.blend + p * dr), ⟨s.cells, s.blend, dr, s.few⟩)
  | some cell => if 10 ^ 18 ≤ cell then (cell % n, ⟨s.cells.dropLast ++ [cell / n], s.blend, dr, by
      have := s.few
      have h0 : s.cells ≠ [] := by
        intro z
        rw [z] at h
        cases h
      have := List.length_pos_iff.mpr h0
      simp only [List.length_append, List.length_dropLast, List.length_cons, List.length_nil]
      omega⟩)
    else (tail (s.blend + p * dr + cell % 2147483629), ⟨s.cells.dropLast, s.blend, dr, by
      have := s.few
      rw [List.length_dropLast]
      omega⟩)
theorem drawF_range (p q : Int) (s : Deck) (n : Int) (h : 0 < n) : 0 ≤ (drawF p q s n).1 ∧ (drawF p q s n).1 < n := by
  unfold drawF
  dsimp only
  split
  · exact ⟨Int.emod_nonneg _ (by omega), Int.emod_lt_of_pos _ h⟩
  · split
    · exact ⟨Int.emod_nonneg _ (by omega), Int.emod_lt_of_pos _ h⟩
    · exact ⟨Int.emod_nonneg _ (by omega), Int.emod_lt_of_pos _ h⟩
/-- _law_draw, by trees -/
def drawT (p q : Int) (d c : Addr) : FF (deckZ d c) := fun ts s => match ts with
  | [.adr e, .int n] => if e = d ∧ 0 < n ∧ n < 1073741824 then some (.int (drawF p q s n).1, (drawF p q s n).2) else none
  | _ => none
theorem dp_ints {K : PySem.W.Frag} {H : Hp} : ∀ ns : List Int, IsL K H (ns.map T.int) (ns.map V.int)
  | [] => IsL.nil
  | _ :: ns => IsL.cons rfl (dp_ints ns)
theorem plain_ints : ∀ ns : List Int, plainL (ns.map T.int) = true
  | [] => rfl
  | _ :: ns => by
    simp only [List.map_cons, plainL, plain_ints ns]
    rfl
theorem dL_ints : ∀ ns : List Int, dL (ns.map T.int) = ns.map PyData.int
  | [] => rfl
  | _ :: ns => by
    simp only [List.map_cons, dL, dL_ints ns]
    rfl
theorem lay_ints : ∀ ns : List Int, PyData.canLayAll0 (ns.map PyData.int) = true
  | [] => rfl
  | _ :: ns => by
    simp only [List.map_cons, PyData.canLayAll0, lay_ints ns]
    rfl
theorem depth_ints : ∀ ns : List Int, PyData.depthAll (ns.map PyData.int) = 0
  | [] => rfl
  | _ :: ns => by
    simp only [List.map_cons, PyData.depthAll, depth_ints ns]
    rfl
theorem ne_nil {K : PySem.W.Frag} {H : Hp} {ns : List Int} {c p : Addr} {Q : VK} (h : H c = some (.lst (ns.map V.int))) (hp : H p = some (.lst [])) (q : Q (.bl (!ns.isEmpty)) H) : rEqT K true (.ref c) (.ref p) H Q := by
  refine ⟨H, .lst (ns.map T.int), .lst [], Same.refl _, ⟨c, _, rfl, h, dp_ints ns⟩, ⟨p, _, rfl, hp, IsL.nil⟩, ?_, rfl, ?_, by decide +kernel, ?_⟩
  · show plainL (ns.map T.int) = true
    exact plain_ints ns
  · show (PyData.canLayAll0 (dL (ns.map T.int)) && decide (PyData.depth (T.d (.lst (ns.map T.int))) ≤ 64)) = true
    rw [dL_ints, lay_ints]
    show decide (PyData.depthAll (dL (ns.map T.int)) + 1 ≤ 64) = true
    rw [dL_ints, depth_ints]
    rfl
  · show Q (.bl (!PyData.eqvAll (dL (ns.map T.int)) [])) H
    cases ns with
    | nil => exact q
    | cons _ _ => exact q
theorem dg_cells {H : Hp} {d c : Addr} {b n : Int} (h : H d = some (.dK (deckK c b n))) : DGet H d (.str "cells") (some (.ref c)) := by
  have := DGet.k (k := Sum.inr "cells") h
  rw [deck_cells] at this
  exact this
theorem dg_blend {H : Hp} {d c : Addr} {b n : Int} (h : H d = some (.dK (deckK c b n))) : DGet H d (.str "blend") (some (.int b)) := by
  have := DGet.k (k := Sum.inr "blend") h
  rw [deck_blend] at this
  exact this
theorem dg_draws {H : Hp} {d c : Addr} {b n : Int} (h : H d = some (.dK (deckK c b n))) : DGet H d (.str "draws") (some (.int n)) := by
  have := DGet.k (k := Sum.inr "draws") h
  rw [deck_draws] at this
  exact this
theorem dp_draws {H : Hp} {d c : Addr} {b n m : Int} (h : H d = some (.dK (deckK c b n))) : DPut H d (.str "draws") (.int m) (upd H d (.dK (deckK c b m))) := by
  have := DPut.k (k := Sum.inr "draws") (v := .int m) h (by rw [sizeLine_eq]; show 3 < 16777216; decide)
  rw [deck_put] at this
  exact this
/-- the drawing ends: only d and c may have changed, and new objects came -/
theorem draw_ends {K : PySem.W.Frag} {d c : Addr} {I H H' : Hp} {s' : Deck} {n v : Int} {Q : VK} (sub : Same I H) (rf : ∀ p, (deckZ d c).F p → I p = none) (stay : ∀ p o, p ≠ d → p ≠ c → H p = some o → H' p = some o) (r : DeckAt d c s' H')
    (q : ∀ I' H' v, Ext (deckZ d c).F I H I' H' → (deckZ d c).R s' I' H' → Is K I' (.int n) v → Q v H') (e : v = n) : Q (.int v) H' := by
  subst e
  have ne : ∀ p o, I p = some o → p ≠ d ∧ p ≠ c := fun p o h => by
    refine ⟨fun z => ?_, fun z => ?_⟩
    · rw [rf p (.inl z)] at h
      cases h
    · rw [rf p (.inr z)] at h
      cases h
  refine q I H' _ ⟨Same.refl _, fun p o h => ?_, fun p o h1 h2 h3 => ⟨h1, ?_⟩, fun _ _ h => h⟩ r rfl
  · obtain ⟨a, b⟩ := ne p o h
    exact stay p o a b (sub p o h)
  · exact stay p o (fun z => h2 (.inl z)) (fun z => h2 (.inr z)) h3
/-- _law_deck: a new deck of the script's numbers -/
def spDeck (K : PySem.W.Frag) : Sp := fun vs H Q _ => ∃ (a : Addr) (ns : List Int), vs = [.ref a] ∧ SqL K H a (ns.map V.int) ∧ ns.length ≤ 63 ∧
  ∀ (H' : Hp) (d c : Addr) (s : Deck), Same H H' → H d = none → H c = none → DeckAt d c s H' → Q (.ref d) H'
end L2.TL
/-! TL9: keyword calls, lists that a slot owns, joined operations, a law's rest for any deck. -/
namespace L2.TL
open PySem PySem.Spec
open PyProof.Rows
/-- in another order -/
def ord {α : Type} (ix : List Nat) (l : List α) : List α := ix.filterMap fun i => l[i]?
theorem ord_rel {K : PySem.W.Frag} {I : Hp} {ts : List T} {vs : List V} (h : IsL K I ts vs) : ∀ ix : List Nat, IsL K I (ord ix ts) (ord ix vs)
  | [] => IsL.nil
  | i :: r => by
    unfold ord
    rw [List.filterMap_cons, List.filterMap_cons]
    by_cases hi : i < ts.length
    · obtain ⟨x, e1, e2⟩ := h.at (List.getElem?_eq_getElem hi)
      rw [List.getElem?_eq_getElem hi, e1]
      exact IsL.cons e2 (ord_rel h r)
    · rw [List.getElem?_eq_none (by omega), List.getElem?_eq_none (by rw [h.len]; omega)]
      exact ord_rel h r
theorem ord_vals {vs : List V} {us : List Value} (h : Vals vs us) : ∀ ix : List Nat, Vals (ord ix vs) (ord ix us)
  | [] => .nil
  | i :: r => by
    unfold ord
    rw [List.filterMap_cons, List.filterMap_cons]
    cases e : vs[i]? with
    | none =>
      rw [h.none_of e]
      exact ord_vals h r
    | some v =>
      obtain ⟨u, e1, e2⟩ := h.get e
      rw [e1]
      exact .cons e2 (ord_vals h r)
/-- how a call by names alone binds -/
def KOrd (fd : FuncData) (ps ks : List Str) (ix : List Nat) : Prop := ∀ ws : List Value, ws.length = ks.length → bindArgs fd ⟨[], ks.zip ws⟩ = pure (ps.zip (ord ix ws)) ∧ (ord ix ws).length = ps.length
theorem kord {K : PySem.W.Frag} {x qual : Str} {st : Stmt} {f : Addr} {fd : FuncData} {ps ks : List Str} {ix : List Nat} (F : Fun K x qual st f fd)
    (h : ∀ (kV doc pm : Value) (an : Option Addr) (cdv ct : Value) (us : List Value), us.length = ks.length → bindArgs (PySem.W.fnOf x qual (defArgs st) (defBody st) (defScope st) .none kV doc pm an cdv ct) ⟨[], ks.zip us⟩ = pure (ps.zip (ord ix us)) ∧ (ord ix us).length = ps.length) : KOrd fd ps ks ix := by
  obtain ⟨oc, od, kV, doc, pm, an, cdv, ct, osl, rfl, lk, hcd⟩ := F.ex
  exact h kV doc pm an cdv ct
section
variable {X : Cx} {Z : Res} {e : Expr} {es : List Expr} {fs : EFs Z} {pos : Pos} {k : Nat} {f : Addr} {fd : FuncData} {ps ks : List Str} {fp : FP} {kws : List Keyword}
def xOrd {Z : Res} (n : Nat) (ix : List Nat) (fs : EFs Z) : EFs Z := fun τ s => match fs τ s with
  | some (as, s1) => if as.length = n then some (ord ix as, s1) else none
  | none => none
theorem ex_callKP {x : Str} {p : Pos} {ix : List Nat} (F : FnOk X.prog X.w X.K X.mg X.base CX0 k f fd ps (spP X.K fp)) (hr : Room k X.A) (hg : Gl X x) (hm : X.mg x = some (.ref f)) (hk : PySem.W.keepIn X.K (.ref f) = true) (hb : KOrd fd ps ks ix) (ha : ELk X Z kws fs)
    {n : Nat} (hn : ks.length = n := by rfl) (hall : (backToKw pos (keywordEach kws X.env)).all (·.1.isSome) = true := by rfl) (hks : (backToKw pos (keywordEach kws X.env)).filterMap (·.1) = ks := by rfl) (hdb : (x == ("__debug__" : Str)) = false := by decide)
    (hpl : ((backTo pos (starEach [] X.env)).any (·.1) || (backToKw pos (keywordEach kws X.env)).any (·.1.isNone)) = false := by rfl) :
    EX X Z (.Call (.Name x p) [] kws pos) (xCallP fp (xOrd n ix fs)) := by
  obtain ⟨t, pk, h1⟩ := ha
  refine ⟨_, (⟨fun pins s σ H Q J hq => wpAny_Call_Name_kw (ld_glob J hg hm (PySem.W.callWith_KW0 (h₀ := X.base) J.ok.mod.kin hk hall (thn (pk.run pos pins s σ H _ J hq) fun us s1 ⟨vs, H1, J1, r, hl, q⟩ => ⟨J1.kIn, ?_⟩) hpl) hdb)⟩ :
    PE X (.Call (.Name x p) [] kws pos) (fun σ H Q => t σ H fun vs H1 => vs.length = ks.length ∧ spP X.K fp (ord ix vs) H1 Q E0)), fun G I H σ τ s a s' Q w h q => ?_⟩
  · rw [hks]
    obtain ⟨b1, b2⟩ := hb us (by rw [← r.length]; exact hl)
    refine wpAny_call (codeAny_mono (F.run X.A X.stack s1 H1 _ (ord ix us) (ord ix vs) Q E0 hr J1.env0 (.of_eq b1) (ord_vals r ix) q) fun res z hz => ?_)
    cases res with
    | error e => exact (show False from hz).elim
    | ok fl => cases fl with
      | ret u => exact J1.after hz
      | _ => exact (show False from hz).elim
  · unfold xCallP at h
    split at h
    · rename_i as s1 ea
      unfold xOrd at ea
      split at ea
      · rename_i bs s2 eb
        split at ea
        · rename_i hl
          cases ea
          split at h
          · rename_i b eb'
            cases h
            exact h1 _ _ _ _ _ _ _ _ _ w eb fun I1 H1 vs m1 w1 i1 => ⟨by rw [i1.len, hl, hn], sp_useP w1 (ord_rel i1 ix) eb' fun I' H' v m => q I' H' v (m1.trans m)⟩
          · cases h
        · cases ea
      · cases ea
    · cases h
/-! ### joined operations -/
def orT (f g : T → T → Option T) : T → T → Option T := fun a b => match f a b with
  | some c => some c
  | none => g a b
def addX : T → T → Option T := orT addI (orT addS (orT addL addT))
theorem ex_add {a b : Expr} {fa fb : EF Z} (ha : EX X Z a fa) (hb : EX X Z b fb) : EX X Z (.BinOp a .Add b pos) (x2 addX fa fb) :=
  ex_bin (OpR.or op_add (OpR.or op_add_str (OpR.or op_cat op_catA))) (Op2.or op2_addI (Op2.or op2_addS (Op2.or op2_addL op2_addT))) ha hb
def mulX : T → T → Option T := orT mulI mulS
theorem ex_mul {a b : Expr} {fa fb : EF Z} (ha : EX X Z a fa) (hb : EX X Z b fb) : EX X Z (.BinOp a .Mult b pos) (x2 mulX fa fb) :=
  ex_bin (OpR.or op_mul op_mulS) (Op2.or op2_mulI op2_mulS) ha hb
theorem ex_sub {a b : Expr} {fa fb : EF Z} (ha : EX X Z a fa) (hb : EX X Z b fb) : EX X Z (.BinOp a .Sub b pos) (x2 subI fa fb) := ex_bin op_sub op2_subI ha hb
theorem ex_mod {a b : Expr} {fa fb : EF Z} (ha : EX X Z a fa) (hb : EX X Z b fb) : EX X Z (.BinOp a .Mod b pos) (x2 modI fa fb) := ex_bin op_mod op2_modI ha hb
theorem ex_fdiv {a b : Expr} {fa fb : EF Z} (ha : EX X Z a fa) (hb : EX X Z b fb) : EX X Z (.BinOp a .FloorDiv b pos) (x2 divI fa fb) := ex_bin op_fdiv op2_divI ha hb
def sLt : Str → Str → Bool := fun i j => decide (i.cps.toList < j.cps.toList)
def ltX : T → T → Option T := orT (cmpI fun i j => decide (i < j)) (cmpS sLt)
def leX : T → T → Option T := orT (cmpI fun i j => decide (i ≤ j)) (cmpS fun i j => !sLt j i)
def gtX : T → T → Option T := orT (cmpI fun i j => decide (j < i)) (cmpS fun i j => sLt j i)
def geX : T → T → Option T := orT (cmpI fun i j => decide (j ≤ i)) (cmpS fun i j => !sLt i j)
theorem or_lt : OpR X (compareOp .Lt) (fun x y H Q => rI0 (fun i j => .bl (decide (i < j))) x y H Q ∨ rS sLt x y H Q) := OpR.or op_lt op_lt_str
theorem o2_lt : Op2 X (fun x y H Q => rI0 (fun i j => .bl (decide (i < j))) x y H Q ∨ rS sLt x y H Q) ltX := Op2.or op2_cmpI op2_cmpS
theorem or_le : OpR X (compareOp .LtE) (fun x y H Q => rI0 (fun i j => .bl (decide (i ≤ j))) x y H Q ∨ rS (fun i j => !sLt j i) x y H Q) := OpR.or op_le op_le_str
theorem o2_le : Op2 X (fun x y H Q => rI0 (fun i j => .bl (decide (i ≤ j))) x y H Q ∨ rS (fun i j => !sLt j i) x y H Q) leX := Op2.or op2_cmpI op2_cmpS
theorem or_gt : OpR X (compareOp .Gt) (fun x y H Q => rI0 (fun i j => .bl (decide (j < i))) x y H Q ∨ rS (fun i j => sLt j i) x y H Q) := OpR.or op_gt op_gt_str
theorem o2_gt : Op2 X (fun x y H Q => rI0 (fun i j => .bl (decide (j < i))) x y H Q ∨ rS (fun i j => sLt j i) x y H Q) gtX := Op2.or op2_cmpI op2_cmpS
theorem or_ge : OpR X (compareOp .GtE) (fun x y H Q => rI0 (fun i j => .bl (decide (j ≤ i))) x y H Q ∨ rS (fun i j => !sLt i j) x y H Q) := OpR.or op_ge op_ge_str
theorem o2_ge : Op2 X (fun x y H Q => rI0 (fun i j => .bl (decide (j ≤ i))) x y H Q ∨ rS (fun i j => !sLt i j) x y H Q) geX := Op2.or op2_cmpI op2_cmpS
theorem or_in : OpR X (compareOp .In) (rInS false) := op_in_sign
theorem or_ni : OpR X (compareOp .NotIn) (rInS true) := op_notIn_sign
/-! ### == of single values, else of data -/
def scV : T → Option V
  | .non => some .non
  | .bl b => some (.bl b)
  | .int i => some (.int i)
  | .str x => some (.str x)
  | _ => none
def eqS (neg : Bool) : T → T → Option T := fun a b => match scV a, scV b with
  | some x, some y => if scal x y = true then some (.bl (if neg then !decide (x = y) else decide (x = y))) else none
  | _, _ => none
theorem scV_is {K : PySem.W.Frag} {I : Hp} {t : T} {x v : V} (h : scV t = some x) (i : Is K I t v) : v = x := by
  cases t <;> first | (cases h; exact i) | (cases h; done)
def rEqS (neg : Bool) : R2 := fun x y H Q => scal x y = true ∧ Q (.bl (if neg then !decide (x = y) else decide (x = y))) H
theorem op2_eqS {neg : Bool} : Op2 X (rEqS neg) (eqS neg) := by
  intro Z G I H σ τ s a b c x y Q w i1 i2 e q
  unfold eqS at e
  split at e
  · rename_i u v hu hv
    split at e
    · rename_i hs
      cases e
      have e1 := scV_is hu i1
      have e2 := scV_is hv i2
      subst e1 e2
      exact ⟨hs, q.here w rfl⟩
    · cases e
  · cases e
def eqX (neg : Bool) : T → T → Option T := orT (eqS neg) (eqT neg)
theorem or_eq (hu : X.A.units + 64 < cLine) : OpR X (compareOp .Eq) (fun x y H Q => rEqS false x y H Q ∨ rEqT X.K false x y H Q) := OpR.or op_eq (op_eqT hu)
theorem or_ne (hu : X.A.units + 64 < cLine) : OpR X (compareOp .NotEq) (fun x y H Q => rEqS true x y H Q ∨ rEqT X.K true x y H Q) := OpR.or op_ne (op_neT hu)
theorem o2_eq {neg : Bool} : Op2 X (fun x y H Q => rEqS neg x y H Q ∨ rEqT X.K neg x y H Q) (eqX neg) := Op2.or op2_eqS op2_eqT
/-! ### a law's rest, for any deck -/
def tS (K : PySem.W.Frag) (Z : Res) (g : SF Z) : TS := fun D σ H => ∃ G I τ s o, Rep K Z G I H σ τ s ∧ g τ s = some o ∧ (match o with
  | .nx τ s => ∀ I' H' σ', Same I I' → Rep K Z G I' H' σ' τ s → D.nx σ' H'
  | .bk τ s => ∀ I' H' σ', Same I I' → Rep K Z G I' H' σ' τ s → D.bk σ' H'
  | .ct τ s => ∀ I' H' σ', Same I I' → Rep K Z G I' H' σ' τ s → D.ct σ' H'
  | .rt a s => ∀ I' H' v, Same I I' → Rep0 Z G I' H' s → Is K I' a v → D.rt v H')
theorem SS.pss {sts : List Stmt} {g : SF Z} (h : SS X Z sts g) : PSs X sts (tS X.K Z g) := by
  obtain ⟨t, p, h1⟩ := h
  refine ⟨fun pins s σ H D J ⟨G, I, τ, z, o, w, e, q⟩ => p.run pins s σ H D J (h1 _ _ _ _ _ _ o _ w e ?_)⟩
  cases o with
  | nx τ s => exact q
  | bk τ s => exact q
  | ct τ s => exact q
  | rt a s => exact q
theorem pss_ex {ι : Sort _} {sts : List Stmt} {t : ι → TS} (h : ∀ i, PSs X sts (t i)) : PSs X sts (fun D σ H => ∃ i, t i D σ H) := ⟨fun pins s σ H D J ⟨i, q⟩ => (h i).run pins s σ H D J q⟩
end
end L2.TL
/-! TLe: further expressions; defs without a resource. -/
namespace L2.TL
open PySem PySem.Spec
open PyProof.Rows
section
variable {X : Cx} {Z : Res} {a b c e : Expr} {es : List Expr} {fa fb fc f : EF Z} {fs : EFs Z} {pos : Pos}
/-! ### one value -/
def x1 {Z : Res} (op : T → Option T) (f : EF Z) : EF Z := fun τ s => match f τ s with
  | some (a, s') => match op a with
    | some c => some (c, s')
    | none => none
  | none => none
def negI : T → Option T
  | .int i => some (.int (-i))
  | _ => none
theorem ex_neg (h : EX X Z e f) : EX X Z (.UnaryOp .USub e pos) (x1 negI f) := by
  obtain ⟨t, p, h1⟩ := h
  refine ⟨_, pe_un un_neg p, fun G I H σ τ s a s' Q w h q => ?_⟩
  unfold x1 at h
  split at h
  · rename_i b s1 eb
    split at h
    · rename_i d ed
      cases h
      refine h1 _ _ _ _ _ _ _ _ _ w eb fun I1 H1 v m1 w1 i1 => ?_
      unfold negI at ed
      split at ed
      · cases ed
        have i1 : v = _ := i1
        subst i1
        exact ⟨_, rfl, q I1 H1 _ m1 w1 rfl⟩
      · cases ed
    · cases h
  · cases h
def isNT : T → Option T
  | .non => some (.bl true)
  | _ => some (.bl false)
def notNT : T → Option T
  | .non => some (.bl false)
  | _ => some (.bl true)
theorem is_non {K : PySem.W.Frag} {I : Hp} {t : T} {v : V} (i : Is K I t v) : decide (v = .non) = (match t with
  | .non => true
  | _ => false) := by
  cases t with
  | non =>
    have i : v = _ := i
    subst i
    rfl
  | bl _ => have i : v = _ := i; subst i; rfl
  | int _ => have i : v = _ := i; subst i; rfl
  | str _ => have i : v = _ := i; subst i; rfl
  | adr _ => have i : v = _ := i; subst i; rfl
  | tup _ =>
    obtain ⟨_, _, rfl, _⟩ := i
    rfl
  | lst _ =>
    obtain ⟨_, _, rfl, _⟩ := i
    rfl
  | dct _ =>
    obtain ⟨_, _, rfl, _⟩ := i
    rfl
  | ins _ _ =>
    obtain ⟨_, _, _, rfl, _⟩ := i
    rfl
theorem x1_of {op : T → Option T} {τ : List SV} {s s' : Z.S} {d : T} (h : x1 op f τ s = some (d, s')) : ∃ a, f τ s = some (a, s') ∧ op a = some d := by
  unfold x1 at h
  split at h
  · rename_i b s1 eb
    split at h
    · rename_i d' ed
      cases h
      exact ⟨b, eb, ed⟩
    · cases h
  · cases h
theorem ex_isN {j : Nat} {pos' : Pos} (h : EX X Z e f) : EX X Z (.Compare e [.Is] [.Constant .none j pos'] pos) (x1 isNT f) := by
  obtain ⟨t, p, h1⟩ := h
  refine ⟨_, pe_cmp (pc_isN p) rfl, fun G I H σ τ s a s' Q w h q => ?_⟩
  obtain ⟨b, eb, ed⟩ := x1_of h
  refine h1 _ _ _ _ _ _ _ _ _ w eb fun I1 H1 v m1 w1 i1 => ?_
  refine q I1 H1 _ m1 w1 ?_
  rw [is_non i1]
  cases b <;> (cases ed; rfl)
theorem eb_isN {j : Nat} {pos' : Pos} (h : EX X Z e f) : EB X Z (.Compare e [.Is] [.Constant .none j pos'] pos) (xb (x1 isNT f)) := by
  obtain ⟨t, p, h1⟩ := h
  refine ⟨_, pt_cmp (pc_isN p) rfl, fun G I H σ τ s k s' Q w h q => ?_⟩
  obtain ⟨b, eb, ed⟩ := x1_of (xb_of h)
  refine h1 _ _ _ _ _ _ _ _ _ w eb fun I1 H1 v m1 w1 i1 => ⟨_, rfl, ?_⟩
  rw [is_non i1]
  cases b <;> (cases ed; exact q I1 H1 m1 w1)
theorem ex_notN {j : Nat} {pos' : Pos} (h : EX X Z e f) : EX X Z (.Compare e [.IsNot] [.Constant .none j pos'] pos) (x1 notNT f) := by
  obtain ⟨t, p, h1⟩ := h
  refine ⟨_, pe_cmp (pc_notN p) rfl, fun G I H σ τ s a s' Q w h q => ?_⟩
  obtain ⟨b, eb, ed⟩ := x1_of h
  refine h1 _ _ _ _ _ _ _ _ _ w eb fun I1 H1 v m1 w1 i1 => ?_
  refine q I1 H1 _ m1 w1 ?_
  rw [is_non i1]
  cases b <;> (cases ed; rfl)
theorem eb_notN {j : Nat} {pos' : Pos} (h : EX X Z e f) : EB X Z (.Compare e [.IsNot] [.Constant .none j pos'] pos) (xb (x1 notNT f)) := by
  obtain ⟨t, p, h1⟩ := h
  refine ⟨_, pt_cmp (pc_notN p) rfl, fun G I H σ τ s k s' Q w h q => ?_⟩
  obtain ⟨b, eb, ed⟩ := x1_of (xb_of h)
  refine h1 _ _ _ _ _ _ _ _ _ w eb fun I1 H1 v m1 w1 i1 => ⟨_, rfl, ?_⟩
  rw [is_non i1]
  cases b <;> (cases ed; exact q I1 H1 m1 w1)
/-- xs[::-1] of a list -/
def revT : T → Option T
  | .lst ts => some (.lst ts.reverse)
  | _ => none
theorem ex_rev {j : Nat} {p1 p2 p3 : Pos} (h : EX X Z e f) : EX X Z (.Subscript e (.Slice none none (some (.UnaryOp .USub (.Constant (.int 1) j p1) p2)) p3) pos) (x1 revT f) := by
  obtain ⟨t, p, h1⟩ := h
  refine ⟨_, pe_revL p, fun G I H σ τ s a s' Q w h q => ?_⟩
  obtain ⟨b, eb, ed⟩ := x1_of h
  refine h1 _ _ _ _ _ _ _ _ _ w eb fun I1 H1 v m1 w1 i1 => ?_
  unfold revT at ed
  split at ed
  · cases ed
    obtain ⟨l, xs, rfl, g1, g2⟩ := i1
    exact ⟨l, xs, rfl, .of (w1.sub _ _ g1), fun p hp => Hand.new w1 (fun I' H' v m => q I' H' v (m1.trans m)) hp fun I' m e => ⟨p, _, rfl, e, g2.rev.mono m⟩⟩
  · cases ed
def powI : T → T → Option T
  | .int i, .int j => if 0 ≤ j ∧ j ≤ 1000000 ∧ i.natAbs < 2 ^ 64 then some (.int (i ^ j.toNat)) else none
  | _, _ => none
theorem ex_pow (ha : EX X Z a fa) (hb : EX X Z b fb) : EX X Z (.BinOp a .Pow b pos) (x2 powI fa fb) := ex_bin op_pow (fun Z G I H σ τ s a b c x y Q w i1 i2 e q => by
  unfold powI at e
  split at e
  · split at e
    · rename_i hz
      cases e
      have i1 : x = _ := i1
      have i2 : y = _ := i2
      exact ⟨_, _, i1, i2, hz, q.here w rfl⟩
    · cases e
  · cases e) ha hb
def intT : List T → Option T
  | [.int i] => some (.int i)
  | [.bl k] => some (.int (if k then 1 else 0))
  | _ => none
def rInt : List V → Hp → VK → Prop := fun xs H Q => (∃ i, xs = [.int i] ∧ Q (.int i) H) ∨ ∃ k, xs = [.bl k] ∧ Q (.int (if k then 1 else 0)) H
theorem op1_int : Op1 X rInt intT := by
  intro Z G I H σ τ s as c xs Q w il e q
  unfold intT at e
  split at e
  · cases e
    obtain ⟨x, rfl, ix⟩ := il.one
    have ix : x = _ := ix
    subst ix
    exact .inl ⟨_, rfl, q.here w rfl⟩
  · cases e
    obtain ⟨x, rfl, ix⟩ := il.one
    have ix : x = _ := ix
    subst ix
    exact .inr ⟨_, rfl, q.here w rfl⟩
  · cases e
def tupleT : List T → Option T
  | [.lst ts] => some (.tup ts)
  | [.tup ts] => some (.tup ts)
  | _ => none
def rTuple (K : PySem.W.Frag) : List V → Hp → VK → Prop := fun xs H Q => ∃ p ys, xs = [.ref p] ∧ ((SqL K H p ys ∧ ∀ l, H l = none → Q (.ref l) (upd H l (.tup ys))) ∨ (SqT K H p ys ∧ Q (.ref p) H))
theorem op1_tuple : Op1 X (rTuple X.K) tupleT := by
  intro Z G I H σ τ s as c xs Q w il e q
  unfold tupleT at e
  split at e
  · cases e
    obtain ⟨x, rfl, ix⟩ := il.one
    obtain ⟨p, ys, rfl, h1, h2⟩ := ix
    exact ⟨p, ys, rfl, .inl ⟨.of (w.sub _ _ h1), fun l hl => q.new w hl fun I' m e => ⟨l, _, rfl, .of e, h2.mono m⟩⟩⟩
  · cases e
    obtain ⟨x, rfl, ix⟩ := il.one
    obtain ⟨p, ys, rfl, h1, h2⟩ := ix
    exact ⟨p, ys, rfl, .inr ⟨sqt_mono w.sub h1, q.here w ⟨p, ys, rfl, h1, h2⟩⟩⟩
  · cases e
/-! ### dicts that are written -/
def ED (X : Cx) (Z : Res) (pos : Pos) (keys : List (Option Expr)) (values : List Expr) (ks : List Key) (f : EFs Z) : Prop :=
  ∃ trs, PPs X pos keys values trs ∧ ∀ G I H σ τ s as s' Q, Rep X.K Z G I H σ τ s → f τ s = some (as, s') → (∀ I' H' vs, Same I I' → Rep X.K Z G I' H' σ τ s' → IsL X.K I' as vs → Q ((ks.map kV).zip vs) H') → tPairs trs σ H Q
theorem ed_nil : ED X Z pos [] [] [] xNil := ⟨_, pps_nil, fun G I H σ τ s as s' Q w h q => by
  cases h
  exact q I H [] (Same.refl _) w IsL.nil⟩
theorem ed_cons {x : Str} {j : Nat} {p : Pos} {keys : List (Option Expr)} {ks : List Key} (he : EX X Z e f) (hr : ED X Z pos keys es ks fs) : ED X Z pos (some (.Constant (.str x) j p) :: keys) (e :: es) (Sum.inr x :: ks) (xCons f fs) := by
  obtain ⟨te, pe, h1⟩ := he
  obtain ⟨tr, pr, h2⟩ := hr
  refine ⟨_, pps_cons pe_str pe pr, fun G I H σ τ s as s' Q w h q => ?_⟩
  unfold xCons at h
  split at h
  · rename_i a s1 ea
    split at h
    · rename_i as' s2 eb
      cases h
      refine h1 _ _ _ _ _ _ _ _ _ w ea fun I1 H1 v m1 w1 i1 => ?_
      exact h2 _ _ _ _ _ _ _ _ _ w1 eb fun I2 H2 vs m2 w2 i2 => q I2 H2 (v :: vs) (m1.trans m2) w2 (IsL.cons (i1.mono m2) i2)
    · cases h
  · cases h
def xDict {Z : Res} (ks : List Key) (fs : EFs Z) : EF Z := fun τ s => match fs τ s with
  | some (as, s') => if as.length = ks.length ∧ ks.Nodup ∧ ks.length ≤ 15 then some (.dct (ks.zip as), s') else none
  | none => none
theorem putK_new {κ : Type} [DecidableEq κ] {kvs : List (κ × V)} {k : κ} {v : V} (h : k ∉ kvs.map (·.1)) : putK kvs k v = kvs ++ [(k, v)] := by
  unfold putK
  rw [if_neg]
  intro z
  rw [List.any_eq_true] at z
  obtain ⟨p, hp, e⟩ := z
  exact h (List.mem_map.mpr ⟨p, hp, of_decide_eq_true e⟩)
theorem merge_nodup : ∀ (more kvs : List (Key × V)), ((kvs ++ more).map (·.1)).Nodup → mergeK kvs more = kvs ++ more
  | [], kvs, _ => by
    rw [List.append_nil]
    rfl
  | p :: r, kvs, h => by
    show mergeK (putK kvs p.1 p.2) r = _
    have hp : p.1 ∉ kvs.map (·.1) := by
      rw [List.map_append, List.nodup_append] at h
      intro z
      exact h.2.2 _ z _ (by simp) rfl
    rw [putK_new hp, merge_nodup r (kvs ++ [(p.1, p.2)]) (by rw [List.append_assoc]; exact h), List.append_assoc]
    rfl
theorem zip_isD {K : PySem.W.Frag} {I : Hp} : ∀ {ks : List Key} {as : List T} {vs : List V}, IsL K I as vs → IsD K I (ks.zip as) (ks.zip vs)
  | [], _, _, _ => by
    show _ = _
    simp
  | _ :: _, [], _, h => by
    have h : _ = [] := h
    subst h
    show _ = _
    simp
  | k :: ks, a :: as, _, h => by
    obtain ⟨x, r, rfl, h1, h2⟩ := h
    exact ⟨x, _, rfl, h1, zip_isD h2⟩
theorem en_dict {keys : List (Option Expr)} {ks : List Key} (h : ED X Z pos keys es ks fs) (hall : keys.all (·.isSome) = true := by rfl) (hl : keys.length = es.length := by rfl) (h0 : keys ≠ [] := by intro z; cases z) (h15 : keys.length ≤ 15 := by decide) :
    EN X Z (.Dict keys es pos) (xDict ks fs) := by
  obtain ⟨trs, p, h1⟩ := h
  refine ⟨_, pe_disp p hall hl h0 h15, fun G I H σ τ s a s' Q w h q => ?_⟩
  unfold xDict at h
  split at h
  · rename_i as s1 ea
    split at h
    · rename_i hc
      cases h
      intro D hD
      obtain ⟨w1, u⟩ := w.made (o := .dK []) (a := .dct []) hD (show IsD X.K I [] [] from rfl)
      refine h1 _ _ _ _ _ _ _ _ _ (w1.guard u) ea fun I2 H2 vs m2 w2 i2 => ?_
      obtain ⟨nI, atD⟩ := w2.fr D (.dK []) upd_same
      have nF : ¬ Z.F D := u.nf
      have hlen : vs.length = ks.length := by rw [i2.len]; exact hc.1
      have ez : (ks.map kV).zip vs = (ks.zip vs).map fun kv => (kV kv.1, kv.2) := by
        rw [List.zip_map_left]
        rfl
      refine ⟨atD, ks.zip vs, ez, by rw [List.length_zip, hlen, Nat.min_self]; exact hc.2.2, ?_⟩
      have em : mergeK [] (ks.zip vs) = ks.zip vs := by
        rw [merge_nodup _ [] (by
          rw [List.nil_append, List.map_fst_zip (by omega)]
          exact hc.2.1)]
        rfl
      rw [em]
      have w3 := w2.reguard (o' := .dK (ks.zip vs)) nF
      have w4 := w3.frame (G' := G) fun p o e => by
        rw [upd_ne (ne_of_none e u.ng)]
        exact e
      refine q I2 _ D (.dK (ks.zip vs)) m2 w4 ⟨nI, u.ng, nF, upd_same, zip_isD i2, fun i t e => ?_⟩
      exact w.notOwned hD i t e
    · cases h
  · cases h
def xDnil {Z : Res} : EF Z := fun _ s => some (.dct [], s)
theorem en_dnil : EN X Z (.Dict [] [] pos) xDnil := ⟨_, pe_dnewK, fun G I H σ τ s a s' Q w h q => by
  cases h
  intro D hD
  exact HandF.new w q hD (show IsD X.K I [] [] from rfl)⟩
end
/-! ### three names at once -/
section
variable {X : Cx} {Z : Res} {fs : EFs Z} {pos : Pos}
theorem IsL.three {K : PySem.W.Frag} {I : Hp} {t u r : T} {xs : List V} (h : IsL K I [t, u, r] xs) : ∃ x y z, xs = [x, y, z] ∧ Is K I t x ∧ Is K I u y ∧ Is K I r z := by
  obtain ⟨x, q, rfl, h1, h2⟩ := h
  obtain ⟨y, z, rfl, h3, h4⟩ := h2.two
  exact ⟨x, y, z, rfl, h1, h3, h4⟩
theorem sx_par3 {i j l : Nat} {x y z : Str} {a b c : Expr} {px py pz pt : Pos} {kt k2 : Nat} {pt2 : Pos} (hc : X.calm = true) (hN : X.N.Nodup) (hi : X.N[i]? = some x := by rfl) (hj : X.N[j]? = some y := by rfl) (hl : X.N[l]? = some z := by rfl) (ha : EL X Z [a, b, c] fs)
    (hij : i ≠ j := by decide) (hil : i ≠ l := by decide) (hjl : j ≠ l := by decide)
    (hx : X.env.scope.names.lookup x = some .local := by rfl) (hy : X.env.scope.names.lookup y = some .local := by rfl) (hz : X.env.scope.names.lookup z = some .local := by rfl)
    (hw : swappedStores [.Tuple [.Name x px, .Name y py, .Name z pz] kt pt] (.Tuple [a, b, c] k2 pt2) X.env = pure (some [x, y, z]) := by rfl)
    (hs : swapsWithSole [.Tuple [.Name x px, .Name y py, .Name z pz] kt pt] (.Tuple [a, b, c] k2 pt2) pos.line X.env = pure false := by rfl) :
    SX X Z (.Assign [.Tuple [.Name x px, .Name y py, .Name z pz] kt pt] (.Tuple [a, b, c] k2 pt2) pos) (sPar3 i j l fs) := by
  obtain ⟨t, p, q1⟩ := ha
  refine ⟨_, ps_par3 hc hN hi hj hl hij hil hjl hx hy hz p hw hs, fun G I H σ τ s o D w h q => ?_⟩
  unfold sPar3 at h
  split at h
  · rename_i u v r s' ea
    split at h
    · rename_i hl
      cases h
      refine q1 _ _ _ _ _ _ _ _ _ w ea fun I' H' vs m w' il => ?_
      obtain ⟨y1, y2, y3, rfl, i1, i2, i3⟩ := il.three
      exact ⟨y1, y2, y3, rfl, q I' H' _ m (((w'.setIm hl.1 i1).setIm (by rw [List.length_set]; exact hl.2.1) i2).setIm (by rw [List.length_set, List.length_set]; exact hl.2.2) i3)⟩
    · cases h
  · cases h
end
/-! ### defs without a resource -/
def fpOf (h : FF Z0) : FP := fun ts => match h ts () with
  | some (a, _) => some a
  | none => none
section
variable {P : Program} {w : World} {K : PySem.W.Frag} {mg : Str → Option Value} {base : Heap} {k : Nat} {f : Addr} {fd : FuncData} {N ps : List Str} {x qual : Str} {st : Stmt}
theorem spP_of {h : FF Z0} {vs : List V} {H : Hp} {Q : VK} {E : XK} (q : spP K (fpOf h) vs H Q E) : spS K Z0 h vs H Q E :=
  spS_imp (fun ts s r hr => by
    unfold pureF fpOf at hr
    obtain ⟨a, s'⟩ := r
    cases e : h ts () with
    | none =>
      rw [e] at hr
      cases hr
    | some p =>
      rw [e] at hr
      cases hr
      exact e) q
theorem fn_defP {g : SF Z0} (F : Fun K x qual st f fd) (S : FnScope N ps (defScope st))
    (hb : ∀ (cdv : Value) (A : Around) (out : List Env) (z : Shared) (H : Hp) (E : XK), Room k (A.deeper (envOfC qual (defScope st) z.heap.objs.size f cdv)) → SS (cxOf CX0 P w K mg base N qual (defScope st) f cdv A out z H E).nox Z0 (defBody st) g) :
    FnOk P w K mg base CX0 (k + 1) f fd ps (spP K (fpOf (bodyF ps.length N.length g))) := (fn_def F S hb).imp fun _ _ _ _ q => spP_of q
theorem FnG.impG {sp sp' : Sp} (F : FnG P w K mg base k f fd ps sp) (h : ∀ xs H' R E', sp' xs H' R E' → sp xs H' R E') : FnG P w K mg base k f fd ps sp' :=
  ⟨fun xs H' R E' q => F.lenG xs H' R E' (h _ _ _ _ q), fun B out z H' ar ys xs R E' g hr e0 bd r q => F.runG B out z H' ar ys xs R E' g hr e0 bd r (h _ _ _ _ q)⟩
theorem fn_defGP {g : SF Z0} (F : Fun K x qual st f fd) (S : FnScope N ps (defScope st))
    (hb : ∀ (cdv : Value) (A : Around) (out : List Env) (z : Shared) (H : Hp) (E : XK), A.guards = some [] → Room k (A.deeper (envOfC qual (defScope st) z.heap.objs.size f cdv)) → SS (cxOf CX0 P w K mg base N qual (defScope st) f cdv A out z H E).nox Z0 (defBody st) g) :
    FnG P w K mg base (k + 1) f fd ps (spP K (fpOf (bodyF ps.length N.length g))) := (fn_defG F S hb).impG fun _ _ _ _ q => spP_of q
end
/-- a def of the text, with its place and how it binds -/
structure DefD (K : PySem.W.Frag) (mg : Str → Option Value) (x : Str) (st : Stmt) (ps : List Str) where
  f : Addr
  fd : FuncData
  F : Fun K x x st f fd
  m : mg x = some (.ref f)
  b : Binds K fd ps []
end L2.TL
/-! TLm: mathematics of the layer: draws, picks, comprehensions. -/
namespace L2.TL
open PySem PySem.Spec
open PyProof.Rows
/-! ### evaluation, a combinator at a time -/
section
variable {Z : Res} {τ τ' : List SV} {s s1 s2 s3 : Z.S} {a b c : T} {as : List T} {f fa fb fc : EF Z} {fs : EFs Z} {ft fu : EFb Z} {op op' : T → T → Option T} {g g' : SF Z} {o : Out Z.S} {i : Nat}
theorem ev_x2 (h1 : fa τ s = some (a, s1)) (h2 : fb τ s1 = some (b, s2)) (h3 : op a b = some c) : x2 op fa fb τ s = some (c, s2) := by
  unfold x2
  simp only [h1, h2, h3]
theorem ev_x1 {op : T → Option T} (h1 : f τ s = some (a, s1)) (h3 : op a = some c) : x1 op f τ s = some (c, s1) := by
  unfold x1
  simp only [h1, h3]
theorem ev_name {t : T} (h : τ[i]? = some (.im t)) : xName (Z := Z) i τ s = some (t, s) := by
  unfold xName
  simp only [h]
theorem ev_nil : xNil (Z := Z) τ s = some ([], s) := rfl
theorem ev_cons (h1 : f τ s = some (a, s1)) (h2 : fs τ s1 = some (as, s2)) : xCons f fs τ s = some (a :: as, s2) := by
  unfold xCons
  simp only [h1, h2]
theorem ev_lst (h : fs τ s = some (as, s1)) (hz : as.length ≤ sizeLine) : xLst fs τ s = some (.lst as, s1) := by
  unfold xLst
  simp only [h]
  exact if_pos hz
theorem ev_tup (h : fs τ s = some (as, s1)) (hz : as.length ≤ sizeLine) : xTup fs τ s = some (.tup as, s1) := by
  unfold xTup
  simp only [h]
  exact if_pos hz
theorem ev_call {op : List T → Option T} (h : fs τ s = some (as, s1)) (h2 : op as = some c) : xCall op fs τ s = some (c, s1) := by
  unfold xCall
  simp only [h, h2]
theorem ev_callF {ff : FF Z} (h : fs τ s = some (as, s1)) (h2 : ff as s1 = some (c, s2)) : xCallF ff fs τ s = some (c, s2) := by
  unfold xCallF
  simp only [h, h2]
theorem ev_callP {fp : FP} (h : fs τ s = some (as, s1)) (h2 : fp as = some c) : xCallP fp fs τ s = some (c, s1) := by
  unfold xCallP
  simp only [h, h2]
theorem ev_meth {ty : String} {op : T → List T → Option T} (h : f τ s = some (a, s1)) (ht : tyName a = some ty) (h2 : fs τ s1 = some (as, s2)) (h3 : op a as = some c) : xMeth ty op f fs τ s = some (c, s2) := by
  unfold xMeth
  simp only [h, ht, h2, h3, if_true]
theorem ev_xb {k : Bool} (h : f τ s = some (.bl k, s1)) : xb f τ s = some (k, s1) := by
  unfold xb
  simp only [h]
theorem ev_tru {k : Bool} (h : f τ s = some (a, s1)) (h2 : tru a = some k) : xTru f τ s = some (k, s1) := by
  unfold xTru
  simp only [h, h2]
theorem ev_bnot {k : Bool} (h : ft τ s = some (k, s1)) : xbNot ft τ s = some (!k, s1) := by
  unfold xbNot
  simp only [h]
theorem ev_or_t (h : ft τ s = some (true, s1)) : xbOr ft fu τ s = some (true, s1) := by
  unfold xbOr
  simp only [h]
theorem ev_or_f {k : Bool} (h : ft τ s = some (false, s1)) (h2 : fu τ s1 = some (k, s2)) : xbOr ft fu τ s = some (k, s2) := by
  unfold xbOr
  simp only [h, h2]
theorem ev_band_f (h : ft τ s = some (false, s1)) : xbAnd ft fu τ s = some (false, s1) := by
  unfold xbAnd
  simp only [h]
theorem ev_band_t {k : Bool} (h : ft τ s = some (true, s1)) (h2 : fu τ s1 = some (k, s2)) : xbAnd ft fu τ s = some (k, s2) := by
  unfold xbAnd
  simp only [h, h2]
theorem ev_and_t (h : fa τ s = some (a, s1)) (ht : tru a = some true) (h2 : fb τ s1 = some (b, s2)) : xAnd fa fb τ s = some (b, s2) := by
  unfold xAnd
  simp only [h, ht, h2]
theorem ev_and_f (h : fa τ s = some (a, s1)) (ht : tru a = some false) : xAnd fa fb τ s = some (a, s1) := by
  unfold xAnd
  simp only [h, ht]
theorem ev_seq (h : g τ s = some (.nx τ' s1)) (h2 : g' τ' s1 = some o) : sSeq g g' τ s = some o := by
  unfold sSeq
  simp only [h, h2]
theorem ev_seq_rt (h : g τ s = some (.rt a s1)) : sSeq g g' τ s = some (.rt a s1) := by
  unfold sSeq
  simp only [h]
theorem ev_set (h : f τ s = some (a, s1)) (hi : i < τ.length) : sSet i f τ s = some (.nx (τ.set i (.im a)) s1) := by
  unfold sSet
  simp only [h]
  exact if_pos hi
theorem ev_ret (h : f τ s = some (a, s1)) : sRet f τ s = some (.rt a s1) := by
  unfold sRet
  simp only [h]
theorem ev_if_t (h : ft τ s = some (true, s1)) (h2 : g τ s1 = some o) : sIf ft g g' τ s = some o := by
  unfold sIf
  simp only [h, h2]
theorem ev_if_f (h : ft τ s = some (false, s1)) (h2 : g' τ s1 = some o) : sIf ft g g' τ s = some o := by
  unfold sIf
  simp only [h, h2]
theorem ev_par {j : Nat} (h : fs τ s = some ([a, b], s1)) (hi : i < τ.length) (hj : j < τ.length) : sPar i j fs τ s = some (.nx ((τ.set i (.im a)).set j (.im b)) s1) := by
  unfold sPar
  simp only [h]
  exact if_pos ⟨hi, hj⟩
theorem ev_asg {gt : GF} (h : f τ s = some (a, s1)) (h2 : gt a τ = some τ') : sAsg f gt τ s = some (.nx τ' s1) := by
  unfold sAsg
  simp only [h, h2]
theorem ev_rng {n : Int} (h : f τ s = some (.int n, s1)) (h0 : -(2 ^ 62) ≤ n ∧ n < 2 ^ 62) : iRng f τ s = some (intsFrom 0 n.toNat, s1) := by
  unfold iRng
  simp only [h]
  exact if_pos h0
theorem ev_str {x : Str} (h : f τ s = some (.str x, s1)) : iStr f τ s = some (signs x, s1) := by
  unfold iStr
  simp only [h]
theorem ev_seqL {ts : List T} (h : f τ s = some (.lst ts, s1)) : iSeq f τ s = some (ts, s1) := by
  unfold iSeq
  simp only [h]
theorem ev_lc {vs : List Nat} {fi : EFs Z} {gt : GF} {items bs : List T} (h : fi τ s = some (items, s1)) (hz : items.length ≤ sizeLine) (hv : (vs.all fun v => match τ[v]? with
    | some x => !isOw x
    | none => true) = true) (h2 : lcGo gt ft fa (wipeT τ vs) items s1 = some (bs, s2)) : xLc vs fi gt ft fa τ s = some (.lst bs, s2) := by
  unfold xLc
  simp only [h]
  rw [if_pos ⟨hz, hv⟩, h2]
theorem ev_cut {lo hi : List SV → Z.S → Option (Option Int × Z.S)} {l u : Option Int} (h : f τ s = some (a, s1)) (hl : lo τ s1 = some (l, s2)) (hu : hi τ s2 = some (u, s3)) (hc : cutT a l u = some c) : xCut f lo hi τ s = some (c, s3) := by
  unfold xCut
  simp only [h, hl, hu, hc]
theorem ev_oSome {k : Int} (h : f τ s = some (.int k, s1)) : oSome f τ s = some (some k, s1) := by
  unfold oSome
  simp only [h]
theorem ev_is {n : String} {k : Bool} (h : f τ s = some (a, s1)) (h2 : isTy n a = some k) : xIs n f τ s = some (.bl k, s1) := by
  unfold xIs
  simp only [h, h2]
end
theorem ev_fp {g : SF Z0} {n m : Nat} {ts : List T} {a : T} (hn : ts.length = n) (h : g (ts.map SV.im ++ List.replicate (m - n) SV.un) () = some (.rt a ())) : fpOf (bodyF n m g) ts = some a := by
  unfold fpOf bodyF
  rw [if_pos hn, h]
theorem ev_ff {Z : Res} {g : SF Z} {n m : Nat} {ts : List T} {a : T} {s s' : Z.S} (hn : ts.length = n) (h : g (ts.map SV.im ++ List.replicate (m - n) SV.un) s = some (.rt a s')) : bodyF n m g ts s = some (a, s') := by
  unfold bodyF
  rw [if_pos hn, h]
theorem drawT_some (p q : Int) (d c : Addr) (s : Deck) (n : Int) (h0 : 0 < n) (h1 : n < 1073741824) : ∃ (k : Nat) (s' : Deck), drawT p q d c [.adr d, .int n] s = some (.int k, s') ∧ (k : Int) < n := by
  obtain ⟨a, b⟩ := drawF_range p q s n h0
  have e : ((drawF p q s n).1.toNat : Int) = (drawF p q s n).1 := Int.toNat_of_nonneg a
  refine ⟨(drawF p q s n).1.toNat, (drawF p q s n).2, ?_, by rw [e]; exact b⟩
  rw [e]
  unfold drawT
  exact if_pos ⟨rfl, h0, h1⟩
theorem ixN_nat {n k : Nat} (h : k < n) : ixN n (k : Int) = some k := by
  unfold ixN
  rw [if_pos (by omega), if_pos (by omega), Int.toNat_natCast]
theorem atI_nat' {α : Type} {l : List α} {k : Nat} (h : k < l.length) : atI l (k : Int) = some l[k] := by
  unfold atI
  rw [ixN_nat h]
  simp [h]
/-- a comprehension each of whose turns gives something that P holds of -/
theorem lcGo_all {Z : Res} {gt : GF} {fe : EF Z} {τ : List SV} {P : T → Prop} (hg : ∀ a, ∃ τ', gt a τ = some τ' ∧ ∀ s, ∃ b s', fe τ' s = some (b, s') ∧ P b) :
    ∀ (items : List T) (s : Z.S), ∃ bs s', lcGo gt xYes fe τ items s = some (bs, s') ∧ bs.length = items.length ∧ ∀ b ∈ bs, P b
  | [], s => ⟨[], s, rfl, rfl, fun _ h => by cases h⟩
  | a :: r, s => by
    obtain ⟨τ', e1, h1⟩ := hg a
    obtain ⟨b, s1, e2, hp⟩ := h1 s
    obtain ⟨bs, s2, e3, hl, hP⟩ := lcGo_all hg r s1
    refine ⟨b :: bs, s2, ?_, by simp [hl], fun x hx => ?_⟩
    · unfold lcGo
      rw [e1]
      simp only [xYes]
      rw [e2]
      simp only
      rw [e3]
    · rcases List.mem_cons.mp hx with rfl | hx
      · exact hp
      · exact hP x hx
/-- a comprehension whose test and element leave the state as it is: a filter -/
theorem lcGo_filter {Z : Res} {gt : GF} {ft : EFb Z} {fe : EF Z} {τ : List SV} {p : T → Bool} {s : Z.S} : ∀ (items : List T), (∀ a ∈ items, ∃ τ', gt a τ = some τ' ∧ ft τ' s = some (p a, s) ∧ fe τ' s = some (a, s)) → lcGo gt ft fe τ items s = some (items.filter p, s)
  | [], _ => rfl
  | a :: r, h => by
    obtain ⟨τ', e1, e2, e3⟩ := h a (by simp)
    have ih := lcGo_filter r fun b hb => h b (by simp [hb])
    unfold lcGo
    rw [e1]
    simp only
    rw [e2]
    cases hp : p a with
    | true =>
      simp only
      rw [e3]
      simp only
      rw [ih, List.filter_cons, hp]
      rfl
    | false =>
      simp only
      rw [ih, List.filter_cons, hp]
      rfl
/-- l == [] -/
theorem eq_nil (neg : Bool) (l : List T) (h : ∀ t ∈ l, t.plain = true ∧ t.d.canLay0 = true ∧ t.d.depth ≤ 60) : eqX neg (.lst l) (.lst []) = some (.bl (if neg then !l.isEmpty else l.isEmpty)) := by
  have h1 : plainL l = true := by
    induction l with
    | nil => rfl
    | cons a r ih =>
      simp only [plainL, (h a (by simp)).1, ih fun t ht => h t (by simp [ht])]
      rfl
  have h2 : PyData.canLayAll0 (dL l) = true := by
    clear h1
    induction l with
    | nil => rfl
    | cons a r ih =>
      simp only [dL, PyData.canLayAll0, (h a (by simp)).2.1, ih fun t ht => h t (by simp [ht])]
      rfl
  have h3 : PyData.depthAll (dL l) ≤ 60 := by
    clear h1 h2
    induction l with
    | nil => exact Nat.zero_le _
    | cons a r ih =>
      simp only [dL, PyData.depthAll]
      exact Nat.max_le.mpr ⟨(h a (by simp)).2.2, ih fun t ht => h t (by simp [ht])⟩
  have h4 : SeqAt.shaped (T.d (.lst l)) = true := by
    unfold SeqAt.shaped
    simp only [T.d, PyData.canLay0, PyData.depth, h2, Bool.true_and, decide_eq_true_eq]
    omega
  have h5 : PyData.eqv (T.d (.lst l)) (T.d (.lst [])) = l.isEmpty := by
    cases l with
    | nil => rfl
    | cons a r => rfl
  have h6 : T.plain (.lst l) = true := h1
  unfold eqX orT eqS
  simp only [scV]
  unfold eqT
  rw [if_pos ⟨h6, rfl, h4, by decide +kernel⟩, h5]
theorem eq_str (neg : Bool) (x y : Str) : eqX neg (.str x) (.str y) = some (.bl (if neg then !decide (x = y) else decide (x = y))) := by
  unfold eqX orT eqS
  simp only [scV, scal, if_true]
  by_cases h : x = y
  · subst h
    simp
  · have : ¬ V.str x = V.str y := fun e => h (by injection e)
    simp [h]
theorem ev_ord {Z : Res} {fs : EFs Z} {τ : List SV} {s s1 : Z.S} {as : List T} {n : Nat} {ix : List Nat} (h : fs τ s = some (as, s1)) (hl : as.length = n) : xOrd n ix fs τ s = some (ord ix as, s1) := by
  unfold xOrd
  simp only [h]
  exact if_pos hl
theorem signs_len (x : Str) : (signs x).length = x.length := by
  simp [signs, Str.length]
end L2.TL
/-! TLo: what a slot owns is read and changed. -/
namespace L2.TL
open PySem PySem.Spec
open PyProof.Rows
/-- the slots of a reading: slot i's own object lasts meanwhile, the others' are not to be had -/
def unOw : SV → SV
  | .ow _ => .un
  | x => x
def readT (τ : List SV) (i : Nat) (t : T) : List SV := (τ.map unOw).set i (.im t)
theorem unOw_ow {x : SV} {t : T} : unOw x ≠ .ow t := by
  cases x <;> intro h <;> cases h
theorem unOw_im {x : SV} {t : T} (h : unOw x = .im t) : x = .im t := by
  cases x <;> first | exact h | cases h
theorem readT_no {τ : List SV} {i j : Nat} {t u : T} : (readT τ i t)[j]? ≠ some (.ow u) := by
  unfold readT
  intro h
  by_cases hj : i = j
  · subst hj
    by_cases hl : i < (τ.map unOw).length
    · rw [List.getElem?_set_self hl] at h
      cases h
    · rw [List.getElem?_eq_none (by rw [List.length_set]; omega)] at h
      cases h
  · rw [List.getElem?_set_ne hj, List.getElem?_map] at h
    cases e : τ[j]? with
    | none => rw [e] at h; cases h
    | some x =>
      rw [e] at h
      exact unOw_ow (Option.some.inj h)
/-- the resource's promise does not lean on what lasts -/
def Back (Z : Res) : Prop := ∀ s I I' H, Z.R s I' H → Z.R s I H
theorem Rep.reading {K : PySem.W.Frag} {Z : Res} {G I H : Hp} {σ : St} {τ : List SV} {s : Z.S} {i : Nat} {t : T} (r : Rep K Z G I H σ τ s) (hi : τ[i]? = some (.ow t)) :
    ∃ I1, Same I I1 ∧ Rep K Z (foreign Z I1 H) I1 H σ (readT τ i t) s ∧ ∀ I' H' (s' : Z.S), Back Z → Same I1 I' → Rep0 Z (foreign Z I1 H) I' H' s' → Rep K Z G I H' σ τ s' := by
  obtain ⟨p, o, h1, h2, h3, h4, h5, h6⟩ := r.ow i t hi
  have hl : i < τ.length := (List.getElem?_eq_some_iff.mp hi).1
  have m : Same I (upd I p o) := fun b u e => by rw [upd_ne (ne_of_none e h2)]; exact e
  have sb : Same (upd I p o) H := fun b u e => by
    by_cases hb : b = p
    · subst hb
      rw [upd_same] at e
      cases e
      exact h5
    · rw [upd_ne hb] at e
      exact r.sub b u e
  have n1 : ∀ q, q ≠ p → I q = none → upd I p o q = none := fun q hq e => by rw [upd_ne hq]; exact e
  refine ⟨upd I p o, m, ⟨⟨sb, Z.loc s I H _ H r.res m fun _ _ => rfl, fun q hq => ⟨n1 q (fun z => h4 (by rw [← z]; exact hq)) (r.rf q hq).1, foreign_F hq⟩, fun q u e => ⟨(foreign_of e).1, (foreign_of e).2.2⟩⟩, ?_, fun j u e => ?_, fun j u e => absurd e readT_no, fun j k u v q _ e => absurd e readT_no⟩, fun I' H' s' hb sm w => ?_⟩
  · unfold readT
    rw [List.length_set, List.length_map]
    exact r.len
  · by_cases hj : i = j
    · subst hj
      unfold readT at e
      rw [List.getElem?_set_self (by rw [List.length_map]; exact hl)] at e
      cases e
      exact ⟨_, h1, (h6.mono m).is upd_same⟩
    · unfold readT at e
      rw [List.getElem?_set_ne hj, List.getElem?_map] at e
      cases e2 : τ[j]? with
      | none => rw [e2] at e; cases e
      | some x =>
        rw [e2] at e
        have := unOw_im (Option.some.inj e)
        subst this
        obtain ⟨v, g1, g2⟩ := r.im j u e2
        exact ⟨v, g1, g2.mono m⟩
  · have keep : ∀ q u, I q = none → ¬ Z.F q → H q = some u → H' q = some u := fun q u e1 e2 e3 => by
      by_cases hq : q = p
      · subst hq
        rw [h5] at e3
        cases e3
        exact w.sub _ _ (sm _ _ upd_same)
      · exact (w.fr q u (foreign_mk (n1 q hq e1) e2 e3)).2
    refine ⟨⟨(m.trans sm).trans w.sub, hb _ _ _ _ w.res, r.rf, fun q u e => ⟨(r.fr q u e).1, keep q u (r.fr q u e).1 (fun z => ?_) (r.fr q u e).2⟩⟩, r.len, r.im, fun j u e => ?_, r.inj⟩
    · rw [(r.rf q z).2] at e
      cases e
    · obtain ⟨q, y, g1, g2, g3, g4, g5, g6⟩ := r.ow j u e
      exact ⟨q, y, g1, g2, g3, g4, keep q y g2 g4 g5, g6⟩
def plainS : T → Bool
  | .non | .bl _ | .int _ | .str _ => true
  | _ => false
theorem Is.plain {K : PySem.W.Frag} {I I' : Hp} {a : T} {v : V} (h : plainS a = true) (i : Is K I' a v) : Is K I a v := by
  cases a <;> first | exact i | cases h
section
variable {X : Cx} {Z : Res} {e : Expr} {f : EF Z} {fb : EFb Z}
/-- an expression that reads what slot i owns, and tells a plain value -/
def xRead {Z : Res} (i : Nat) (f : EF Z) : EF Z := fun τ s => match τ[i]? with
  | some (.ow t) => match f (readT τ i t) s with
    | some (a, s') => if plainS a = true then some (a, s') else none
    | none => none
  | _ => none
theorem ex_read (i : Nat) (h : EX X Z e f) (hb : Back Z := by exact fun _ _ _ _ h => h) : EX X Z e (xRead i f) := by
  obtain ⟨t, p, h1⟩ := h
  refine ⟨t, p, fun G I H σ τ s a s' Q w h q => ?_⟩
  unfold xRead at h
  split at h
  · rename_i u hi
    split at h
    · rename_i b s2 eb
      split at h
      · rename_i hp
        cases h
        obtain ⟨I1, m, w1, back⟩ := w.reading hi
        exact h1 _ _ _ _ _ _ _ _ _ w1 eb fun I2 H2 v m2 w2 i2 => q I H2 v (Same.refl _) (back I2 H2 _ hb m2 w2.toRep0) (Is.plain hp i2)
      · cases h
    · cases h
  · cases h
def bRead {Z : Res} (i : Nat) (f : EFb Z) : EFb Z := fun τ s => match τ[i]? with
  | some (.ow t) => f (readT τ i t) s
  | _ => none
theorem eb_read (i : Nat) (h : EB X Z e fb) (hb : Back Z := by exact fun _ _ _ _ h => h) : EB X Z e (bRead i fb) := by
  obtain ⟨t, p, h1⟩ := h
  refine ⟨t, p, fun G I H σ τ s a s' Q w h q => ?_⟩
  unfold bRead at h
  split at h
  · rename_i u hi
    obtain ⟨I1, m, w1, back⟩ := w.reading hi
    exact h1 _ _ _ _ _ _ _ _ _ w1 h fun I2 H2 m2 w2 => q I H2 (Same.refl _) (back I2 H2 _ hb m2 w2.toRep0)
  · cases h
end
end L2.TL
namespace L2.TL
open PySem PySem.Spec
open PyProof.Rows
open Sem (wp)
theorem ext_tup (l : Addr) (items : Array Value) (n : Nat) (b : Addr) (o : Obj) (items2 : Array Value) (n2 : Nat) (hz : items.size + items2.size ≤ sizeLine) :
    Meets (Builtin.«list.extend» ⟨[.ref l, .ref b], []⟩) (fun _ R s => s.heap.get? l = some { cls := .type "list", data := .seq items n } ∧ s.heap.get? b = some o ∧ o.cls = .type "tuple" ∧ o.data = .seq items2 n2 ∧ R (.ok (.ret Value.none)) { s with heap := s.heap.update l (Obj.mapSeq (· ++ items2)) }) :=
  .of_wp fun prog w A R s h => by
    obtain ⟨hS, ho, hc, hd, hR⟩ := h
    show wpAny _ A.in1 (Builtin.List.listExtendWith (.ref l) (.ref b) .none) _ _ s
    unfold Builtin.List.listExtendWith
    refine wpAny_bind (wpAny_typeOf ⟨o, ho, hc⟩ ?_)
    have h1 : (Builtin.List.listSameRef (.ref l) (.ref b) || Value.type "tuple" == Value.type "list" || Value.type "tuple" == Value.type "tuple") = true := by simp
    simp only [h1, if_true]
    refine wpAny_bind ?_
    unfold Builtin.List.listItems
    refine wpAny_bind (wpAny_seqItems ho hd (wpAny_pure ?_))
    refine wpAny_bind ?_
    refine wpAny_bind (wpAny_seqItems hS rfl (wpAny_pure ?_))
    have h2 : (!items.isEmpty && Builtin.List.listTooLong (items.size + items2.size)) = false := by rw [notLongL hz, Bool.and_false]
    simp only [h2]
    show wpAny _ A.in1 (updateSeq l (· ++ items2) >>= fun _ => ret .none) _ _ s
    refine wpAny_bind (wpAny_updateSeq (hz := by omega) (_hz' := by rw [Array.size_append]; omega) hS rfl ?_)
    exact wpAny_pure ⟨_, rfl, hR⟩
section
variable {X : Cx} {Z : Res} {e : Expr} {es : List Expr} {f : EF Z} {fs : EFs Z} {p : Pos}
def rExtT (K : PySem.W.Frag) : V → List V → Hp → VK → Prop := fun x vs H Q => ∃ l b xs zs, x = .ref l ∧ vs = [.ref b] ∧ H l = some (.lst xs) ∧ SqT K H b zs ∧ xs.length + zs.length ≤ sizeLine ∧ Q .non (upd H l (.lst (xs ++ zs)))
theorem mt_extT : MtM X "list.extend" (rExtT X.K) := by
  intro pins s σ H x vs v us Q I rx rv h
  obtain ⟨l, b, xs, zs, rfl, rfl, hH, hB, hz, q⟩ := h
  cases rx
  obtain ⟨u, rfl, ru⟩ := rv.one
  cases ru
  obtain ⟨z, its, n, r, hl, e⟩ := I.lstM hH
  obtain ⟨its2, r2, ⟨o, ho, hc, n2, hd⟩, z2⟩ := I.tuple hB
  have hl2 := r2.length
  have hsz : its.toArray.size + its2.toArray.size ≤ sizeLine := by rw [List.size_toArray, List.size_toArray]; omega
  refine call_meets F.slot_list_extend ⟨_, e, rfl⟩ F.entry_list_extend (F.args_list_extend_2 _ _) (ext_tup l its.toArray n b o its2.toArray n2 hsz) ⟨e, ho, hc, hd, ?_⟩
  refine ⟨.non, _, I.lset (its' := its ++ its2) (t' := s.toks) hH e (by simp) (r.append r2) ?_, rfl, q⟩
  rw [List.length_append]
  omega
/-- starred parts of a display -/
def xStar {Z : Res} (f : EF Z) (fs : EFs Z) : EFs Z := fun τ s => match f τ s with
  | some (.lst as, s1) => match fs τ s1 with
    | some (bs, s2) => some (as ++ bs, s2)
    | none => none
  | some (.tup as, s1) => match fs τ s1 with
    | some (bs, s2) => some (as ++ bs, s2)
    | none => none
  | _ => none
theorem el_star (he : EX X Z e f) (hr : EL X Z es fs) (hs : starEach (.Starred e p :: es) X.env = (true, eval e X.env) :: starEach es X.env := by rfl) : EL X Z (.Starred e p :: es) (xStar f fs) := by
  obtain ⟨t, pe, h1⟩ := he
  obtain ⟨u, pr, h2⟩ := hr
  refine ⟨_, StX.pa_star pe pr hs, fun G I H σ τ s as s' Q w h q => ?_⟩
  unfold xStar at h
  split at h
  · rename_i bs s1 e1
    split at h
    · rename_i cs s2 e2
      cases h
      refine h1 _ _ _ _ _ _ _ _ _ w e1 fun I1 H1 v m1 w1 i1 => ?_
      obtain ⟨a, xs, rfl, ha, il⟩ := i1
      exact ⟨a, xs, rfl, .inr (SqL.of (w1.sub _ _ ha)), h2 _ _ _ _ _ _ _ _ _ w1 e2 fun I2 H2 vs m2 w2 i2 => q I2 H2 _ (m1.trans m2) w2 ((il.mono m2).app i2)⟩
    · cases h
  · rename_i bs s1 e1
    split at h
    · rename_i cs s2 e2
      cases h
      refine h1 _ _ _ _ _ _ _ _ _ w e1 fun I1 H1 v m1 w1 i1 => ?_
      obtain ⟨a, xs, rfl, ha, il⟩ := i1
      exact ⟨a, xs, rfl, .inl (sqt_mono w1.sub ha), h2 _ _ _ _ _ _ _ _ _ w1 e2 fun I2 H2 vs m2 w2 i2 => q I2 H2 _ (m1.trans m2) w2 ((il.mono m2).app i2)⟩
    · cases h
  · cases h
end
end L2.TL
namespace L2.TL
open PySem PySem.Spec
open PyProof.Rows
abbrev EFo (Z : Res) := List SV → Z.S → Option (T × List SV × Z.S)
abbrev EFos (Z : Res) := List SV → Z.S → Option (List T × List SV × Z.S)
/-- expressions that change what slots own -/
def EXO (X : Cx) (Z : Res) (e : Expr) (f : EFo Z) : Prop :=
  ∃ t, PE X e t ∧ ∀ G I H σ τ s a τ' s' Q, Rep X.K Z G I H σ τ s → f τ s = some (a, τ', s') → Hand X Z G I σ τ' s' a Q → t σ H Q
def ELO (X : Cx) (Z : Res) (es : List Expr) (f : EFos Z) : Prop :=
  ∃ t, PA X es t ∧ ∀ G I H σ τ s as τ' s' Q, Rep X.K Z G I H σ τ s → f τ s = some (as, τ', s') → HandL X Z G I σ τ' s' as Q → t σ H Q
section
variable {X : Cx} {Z : Res} {e : Expr} {es : List Expr} {f : EF Z} {g : EFo Z} {gs : EFos Z} {pos : Pos}
def oPure {Z : Res} (f : EF Z) : EFo Z := fun τ s => match f τ s with
  | some (a, s') => some (a, τ, s')
  | none => none
theorem xo_of (h : EX X Z e f) : EXO X Z e (oPure f) := by
  obtain ⟨t, p, h1⟩ := h
  refine ⟨t, p, fun G I H σ τ s a τ' s' Q w h q => ?_⟩
  unfold oPure at h
  split at h
  · rename_i b s2 eb
    cases h
    exact h1 _ _ _ _ _ _ _ _ _ w eb q
  · cases h
def oNil {Z : Res} : EFos Z := fun τ s => some ([], τ, s)
def oCons {Z : Res} (g : EFo Z) (gs : EFos Z) : EFos Z := fun τ s => match g τ s with
  | some (a, τ1, s1) => match gs τ1 s1 with
    | some (as, τ2, s2) => some (a :: as, τ2, s2)
    | none => none
  | none => none
theorem elo_nil : ELO X Z [] oNil := ⟨_, pa_nil, fun G I H σ τ s as τ' s' Q w h q => by
  cases h
  exact q I H [] (Same.refl _) w IsL.nil⟩
theorem elo_cons (h : EXO X Z e g) (hr : ELO X Z es gs) (hs : starEach (e :: es) X.env = (false, eval e X.env) :: starEach es X.env := by rfl) : ELO X Z (e :: es) (oCons g gs) := by
  obtain ⟨t, p, h1⟩ := h
  obtain ⟨u, p2, h2⟩ := hr
  refine ⟨_, pa_cons p p2 hs, fun G I H σ τ s as τ' s' Q w h q => ?_⟩
  unfold oCons at h
  split at h
  · rename_i a τ1 s1 e1
    split at h
    · rename_i bs τ2 s2 e2
      cases h
      refine h1 _ _ _ _ _ _ _ _ _ _ w e1 fun I1 H1 v m1 w1 i1 => ?_
      exact h2 _ _ _ _ _ _ _ _ _ _ w1 e2 fun I2 H2 vs m2 w2 i2 => q I2 H2 _ (m1.trans m2) w2 (IsL.cons (i1.mono m2) i2)
    · cases h
  · cases h
def oTup {Z : Res} (gs : EFos Z) : EFo Z := fun τ s => match gs τ s with
  | some (as, τ', s') => if as.length ≤ sizeLine then some (.tup as, τ', s') else none
  | none => none
theorem xo_tup {k : Nat} (h : ELO X Z es gs) : EXO X Z (.Tuple es k pos) (oTup gs) := by
  obtain ⟨t, p, h1⟩ := h
  refine ⟨_, pe_tup p, fun G I H σ τ s a τ' s' Q w h q => ?_⟩
  unfold oTup at h
  split at h
  · rename_i as τ2 s2 ea
    split at h
    · rename_i hz
      cases h
      refine h1 _ _ _ _ _ _ _ _ _ _ w ea fun I1 H1 vs m1 w1 i1 => ⟨by rw [i1.len]; exact hz, fun p hp => ?_⟩
      obtain ⟨m2, w2⟩ := w1.new (o := .tup vs) hp
      exact q _ _ _ (m1.trans m2) w2 ⟨p, vs, rfl, SqT.of upd_same, i1.mono m2⟩
    · cases h
  · cases h
/-! ### methods of an own list -/
def oPop {Z : Res} (i : Nat) : EFo Z := fun τ s => match τ[i]? with
  | some (.ow (.lst ts)) => match ts.getLast? with
    | some a => some (a, τ.set i (.ow (.lst ts.dropLast)), s)
    | none => none
  | _ => none
theorem own_list {K : PySem.W.Frag} {G I H : Hp} {σ : St} {τ : List SV} {s : Z.S} {i : Nat} {ts : List T} (w : Rep K Z G I H σ τ s) (hi : τ[i]? = some (.ow (.lst ts))) :
    ∃ p xs, σ[i]? = some (some (V.ref p)) ∧ I p = none ∧ G p = none ∧ ¬ Z.F p ∧ H p = some (.lst xs) ∧ IsL K I ts xs := by
  obtain ⟨p, o, h1, h2, h3, h4, h5, h6⟩ := w.ow i _ hi
  cases o with
  | lst xs => exact ⟨p, xs, h1, h2, h3, h4, h5, h6⟩
  | _ => exact h6.elim
theorem xo_pop (i : Nat) {x : Str} {p apos cpos : Pos} (hN : X.N[i]? = some x := by rfl) (hv : Vis X.env.scope x := by first | exact Or.inl rfl | exact Or.inr (Or.inl rfl) | exact Or.inr (Or.inr rfl)) (hd : (x == ("__debug__" : Str)) = false := by decide)
    (hcd : (x == ("__classdict__" : Str)) = false := by decide) (hbase : attributeBase (.Name x p) "pop" X.env (eval (.Name x p) X.env) = eval (.Name x p) X.env := by rfl) (hline : (apos.endLine == cpos.line) = true := by rfl) :
    EXO X Z (.Call (.Attribute (.Name x p) "pop" apos) [] [] cpos) (oPop i) := by
  refine ⟨_, pe_bm0 PySem.F.plainAttrs_list PySem.F.slot_list_pop PySem.F.type_list_pop mt_pop (pe_var hN hv hd hcd) hbase hline, fun G I H σ τ s a τ' s' Q w h q => ?_⟩
  unfold oPop at h
  split at h
  · rename_i ts hi
    split at h
    · rename_i b hb
      cases h
      obtain ⟨p, xs, h1, h2, h3, h4, h5, h6⟩ := own_list w hi
      rw [List.getLast?_eq_getElem?] at hb
      obtain ⟨y, hy, iy⟩ := h6.at hb
      rw [← h6.len] at hy
      exact ⟨.ref p, h1, .inl ⟨rfl, xs, SqL.of h5⟩, p, xs, y, rfl, rfl, h5, hy, q I _ y (Same.refl _) (w.change (o := .lst []) hi h1 h2 h3 h4 (show Cn X.K I (.lst ts.dropLast) (.lst xs.dropLast) from h6.dropLast)) iy⟩
    · cases h
  · cases h
def oPopAt {Z : Res} (i : Nat) (f : EF Z) : EFo Z := fun τ s => match τ[i]? with
  | some (.ow (.lst ts)) => match f τ s with
    | some (.int k, s') => match ts[k.toNat]? with
      | some a => if 0 ≤ k ∧ k < 2 ^ 63 then some (a, τ.set i (.ow (.lst (ts.eraseIdx k.toNat))), s') else none
      | none => none
    | _ => none
  | _ => none
theorem seqIx {k : Int} {n : Nat} (h0 : 0 ≤ k) (h : k.toNat < n) : seqIndex? k n = some k.toNat := by
  unfold seqIndex?
  have h1 : ¬ k < 0 := by omega
  simp only [h1, if_false]
  have h2 : k < (n : Int) := by omega
  simp [h0, h2]
theorem xo_popAt (i : Nat) {x : Str} {p apos cpos : Pos} (h : EX X Z e f) (hN : X.N[i]? = some x := by rfl) (hv : Vis X.env.scope x := by first | exact Or.inl rfl | exact Or.inr (Or.inl rfl) | exact Or.inr (Or.inr rfl)) (hd : (x == ("__debug__" : Str)) = false := by decide)
    (hcd : (x == ("__classdict__" : Str)) = false := by decide) (hbase : attributeBase (.Name x p) "pop" X.env (eval (.Name x p) X.env) = eval (.Name x p) X.env := by rfl)
    (hfew : ((backTo cpos (starEach [e] X.env)).all (fun x => !x.1) && (backToKw cpos (keywordEach [] X.env)).all (fun x => x.1.isSome)
      && decide ([e].length + ([] : List Keyword).length + (if ([] : List Keyword).isEmpty then 0 else 1) < 30)) = true := by rfl)
    (hline : (apos.endLine == cpos.line) = true := by rfl) (hs : starEach [e] X.env = (false, eval e X.env) :: starEach [] X.env := by rfl) (hplain : (backTo cpos (starEach [] X.env)).any (·.1) = false := by rfl) :
    EXO X Z (.Call (.Attribute (.Name x p) "pop" apos) [e] [] cpos) (oPopAt i f) := by
  obtain ⟨t, pe, h1⟩ := h
  refine ⟨_, pe_bm PySem.F.plainAttrs_list PySem.F.slot_list_pop PySem.F.type_list_pop mt_popAt (pe_var hN hv hd hcd) (pa_cons pe pa_nil hs) hbase hfew hline hs hplain, fun G I H σ τ s a τ' s' Q w h q => ?_⟩
  unfold oPopAt at h
  split at h
  · rename_i ts hi
    split at h
    · rename_i k s1 ek
      split at h
      · rename_i b hb
        split at h
        · rename_i hk
          cases h
          obtain ⟨p, xs, g1, g2, g3, g4, g5, g6⟩ := own_list w hi
          refine ⟨.ref p, g1, .inl ⟨rfl, xs, SqL.of g5⟩, h1 _ _ _ _ _ _ _ _ _ w ek fun I1 H1 v m1 w1 i1 => ?_⟩
          obtain rfl : v = .int k := i1
          obtain ⟨p', ys, k1, k2, k3, k4, k5, k6⟩ := own_list w1 hi
          rw [g1] at k1
          cases k1
          obtain ⟨y, hy, iy⟩ := k6.at hb
          have hlt : k.toNat < ys.length := (List.getElem?_eq_some_iff.mp hy).1
          exact ⟨p, ys, k, k.toNat, y, rfl, rfl, k5, by omega, by omega, seqIx hk.1 hlt, hy, q I1 _ y m1 (w1.change (o := .lst []) hi g1 k2 k3 k4 (show Cn X.K I1 (.lst (ts.eraseIdx k.toNat)) (.lst (ys.eraseIdx k.toNat)) from k6.erase _)) iy⟩
        · cases h
      · cases h
    · cases h
  · cases h
def oApp {Z : Res} (i : Nat) (g : EFo Z) : EFo Z := fun τ s => match τ[i]? with
  | some (.ow (.lst _)) => match g τ s with
    | some (a, τ1, s1) => match τ1[i]? with
      | some (.ow (.lst ts)) => if ts.length < sizeLine then some (.non, τ1.set i (.ow (.lst (ts ++ [a]))), s1) else none
      | _ => none
    | none => none
  | _ => none
theorem xo_app (i : Nat) {x : Str} {p apos cpos : Pos} (h : EXO X Z e g) (hN : X.N[i]? = some x := by rfl) (hv : Vis X.env.scope x := by first | exact Or.inl rfl | exact Or.inr (Or.inl rfl) | exact Or.inr (Or.inr rfl)) (hd : (x == ("__debug__" : Str)) = false := by decide)
    (hcd : (x == ("__classdict__" : Str)) = false := by decide) (hbase : attributeBase (.Name x p) "append" X.env (eval (.Name x p) X.env) = eval (.Name x p) X.env := by rfl)
    (hfew : ((backTo cpos (starEach [e] X.env)).all (fun x => !x.1) && (backToKw cpos (keywordEach [] X.env)).all (fun x => x.1.isSome)
      && decide ([e].length + ([] : List Keyword).length + (if ([] : List Keyword).isEmpty then 0 else 1) < 30)) = true := by rfl)
    (hline : (apos.endLine == cpos.line) = true := by rfl) (hs : starEach [e] X.env = (false, eval e X.env) :: starEach [] X.env := by rfl) (hplain : (backTo cpos (starEach [] X.env)).any (·.1) = false := by rfl) :
    EXO X Z (.Call (.Attribute (.Name x p) "append" apos) [e] [] cpos) (oApp i g) := by
  obtain ⟨t, pe, h1⟩ := h
  refine ⟨_, pe_bm PySem.F.plainAttrs_list PySem.F.slot_list_append PySem.F.type_list_append mt_append (pe_var hN hv hd hcd) (pa_cons pe pa_nil hs) hbase hfew hline hs hplain, fun G I H σ τ s a τ' s' Q w h q => ?_⟩
  unfold oApp at h
  split at h
  · rename_i ts0 hi
    split at h
    · rename_i b τ1 s1 eb
      split at h
      · rename_i ts hi1
        split at h
        · rename_i hz
          cases h
          obtain ⟨p, xs, g1, g2, g3, g4, g5, g6⟩ := own_list w hi
          refine ⟨.ref p, g1, .inl ⟨rfl, xs, SqL.of g5⟩, h1 _ _ _ _ _ _ _ _ _ _ w eb fun I1 H1 v m1 w1 i1 => ?_⟩
          obtain ⟨p', ys, k1, k2, k3, k4, k5, k6⟩ := own_list w1 hi1
          rw [g1] at k1
          cases k1
          exact ⟨p, ys, v, rfl, rfl, k5, by rw [k6.len]; exact hz, q I1 _ .non m1 (w1.change (o := .lst []) hi1 g1 k2 k3 k4 (show Cn X.K I1 (.lst (ts ++ [b])) (.lst (ys ++ [v])) from k6.app (IsL.cons i1 IsL.nil))) rfl⟩
        · cases h
      · cases h
    · cases h
  · cases h
def oExt {Z : Res} (i : Nat) (f : EF Z) : EFo Z := fun τ s => match τ[i]? with
  | some (.ow (.lst ts)) => match f τ s with
    | some (.lst us, s1) => if ts.length + us.length ≤ sizeLine then some (.non, τ.set i (.ow (.lst (ts ++ us))), s1) else none
    | some (.tup us, s1) => if ts.length + us.length ≤ sizeLine then some (.non, τ.set i (.ow (.lst (ts ++ us))), s1) else none
    | _ => none
  | _ => none
theorem mt_ext : MtM X "list.extend" (fun x vs H Q => rExtend x vs H Q ∨ rExtT X.K x vs H Q) := fun pins s σ H x vs v us Q J rx rv h => h.elim (mt_extend pins s σ H x vs v us Q J rx rv) (mt_extT pins s σ H x vs v us Q J rx rv)
theorem xo_ext (i : Nat) {x : Str} {p apos cpos : Pos} (h : EX X Z e f) (hN : X.N[i]? = some x := by rfl) (hv : Vis X.env.scope x := by first | exact Or.inl rfl | exact Or.inr (Or.inl rfl) | exact Or.inr (Or.inr rfl)) (hd : (x == ("__debug__" : Str)) = false := by decide)
    (hcd : (x == ("__classdict__" : Str)) = false := by decide) (hbase : attributeBase (.Name x p) "extend" X.env (eval (.Name x p) X.env) = eval (.Name x p) X.env := by rfl)
    (hfew : ((backTo cpos (starEach [e] X.env)).all (fun x => !x.1) && (backToKw cpos (keywordEach [] X.env)).all (fun x => x.1.isSome)
      && decide ([e].length + ([] : List Keyword).length + (if ([] : List Keyword).isEmpty then 0 else 1) < 30)) = true := by rfl)
    (hline : (apos.endLine == cpos.line) = true := by rfl) (hs : starEach [e] X.env = (false, eval e X.env) :: starEach [] X.env := by rfl) (hplain : (backTo cpos (starEach [] X.env)).any (·.1) = false := by rfl) :
    EXO X Z (.Call (.Attribute (.Name x p) "extend" apos) [e] [] cpos) (oExt i f) := by
  obtain ⟨t, pe, h1⟩ := h
  refine ⟨_, pe_bm PySem.F.plainAttrs_list PySem.F.slot_list_extend PySem.F.type_list_extend mt_ext (pe_var hN hv hd hcd) (pa_cons pe pa_nil hs) hbase hfew hline hs hplain, fun G I H σ τ s a τ' s' Q w h q => ?_⟩
  unfold oExt at h
  split at h
  · rename_i ts hi
    obtain ⟨p, xs, g1, g2, g3, g4, g5, g6⟩ := own_list w hi
    split at h
    · rename_i us s1 eu
      split at h
      · rename_i hz
        cases h
        refine ⟨.ref p, g1, .inl ⟨rfl, xs, SqL.of g5⟩, h1 _ _ _ _ _ _ _ _ _ w eu fun I1 H1 v m1 w1 i1 => ?_⟩
        obtain ⟨b, zs, rfl, hb, ib⟩ := i1
        obtain ⟨p', ys, k1, k2, k3, k4, k5, k6⟩ := own_list w1 hi
        rw [g1] at k1
        cases k1
        exact .inl ⟨p, b, ys, zs, rfl, rfl, k5, w1.sub _ _ hb, by rw [k6.len, ib.len]; exact hz, q I1 _ .non m1 (w1.change (o := .lst []) hi g1 k2 k3 k4 (show Cn X.K I1 (.lst (ts ++ us)) (.lst (ys ++ zs)) from k6.app ib)) rfl⟩
      · cases h
    · rename_i us s1 eu
      split at h
      · rename_i hz
        cases h
        refine ⟨.ref p, g1, .inl ⟨rfl, xs, SqL.of g5⟩, h1 _ _ _ _ _ _ _ _ _ w eu fun I1 H1 v m1 w1 i1 => ?_⟩
        obtain ⟨b, zs, rfl, hb, ib⟩ := i1
        obtain ⟨p', ys, k1, k2, k3, k4, k5, k6⟩ := own_list w1 hi
        rw [g1] at k1
        cases k1
        exact .inr ⟨p, b, ys, zs, rfl, rfl, k5, sqt_mono w1.sub hb, by rw [k6.len, ib.len]; exact hz, q I1 _ .non m1 (w1.change (o := .lst []) hi g1 k2 k3 k4 (show Cn X.K I1 (.lst (ts ++ us)) (.lst (ys ++ zs)) from k6.app ib)) rfl⟩
      · cases h
    · cases h
  · cases h
/-! ### statements -/
def sDropO {Z : Res} (g : EFo Z) : SF Z := fun τ s => match g τ s with
  | some (_, τ', s') => some (.nx τ' s')
  | none => none
theorem sx_exprO (h : EXO X Z e g) (hs : swapsWith e none pos.line X.env = pure false := by rfl) : SX X Z (.Expr e pos) (sDropO g) := by
  obtain ⟨t, p, h1⟩ := h
  refine ⟨_, ps_expr p hs, fun G I H σ τ s o D w h q => ?_⟩
  unfold sDropO at h
  split at h
  · rename_i a τ1 s1 ea
    cases h
    exact h1 _ _ _ _ _ _ _ _ _ _ w ea fun I' H' v m w' i => q I' H' σ m w'
  · cases h
def sSetXO {Z : Res} (i : Nat) (g : EFo Z) : SF Z := fun τ s => match g τ s with
  | some (a, τ', s') => if i < τ'.length then some (.nx (τ'.set i (.im a)) s') else none
  | none => none
theorem sx_setXO {i : Nat} {x : Str} {pos' : Pos} (hN : X.N.Nodup) (hi : X.N[i]? = some x := by rfl) (he : EXO X Z e g) (hx : Loc X.env.scope x := by first | exact Or.inl rfl | exact Or.inr rfl) (hs : swapsWith e (some (.Name x pos')) pos.line X.env = pure false := by rfl)
    (hf : X.fn x = true ∨ X.env.scope.names.lookup x = some .local := by first | exact .inl rfl | exact .inr rfl | assumption) : SX X Z (.Assign [.Name x pos'] e pos) (sSetXO i g) := by
  obtain ⟨t, p, h1⟩ := he
  refine ⟨_, ps_set hN hi hx p hs hf, fun G I H σ τ s o D w h q => ?_⟩
  unfold sSetXO at h
  split at h
  · rename_i a τ1 s1 ea
    split at h
    · rename_i hl
      cases h
      exact h1 _ _ _ _ _ _ _ _ _ _ w ea fun I' H' v m w' i' => q I' H' _ m (w'.setIm hl i')
    · cases h
  · cases h
end
end L2.TL
namespace L2.TL
open PySem PySem.Spec
open PyProof.Rows
/-- a value, or a new object that its taker owns -/
def EA (X : Cx) (Z : Res) (k : Bool) (e : Expr) (f : EF Z) : Prop := match k with
  | true => EN X Z e f
  | false => EX X Z e f
def slotOf (k : Bool) (a : T) : SV := match k with
  | true => .ow a
  | false => .im a
def sParN {Z : Res} (i j : Nat) (k l : Bool) (f g : EF Z) : SF Z := fun τ s => match f τ s with
  | some (a, s1) => match g τ s1 with
    | some (b, s2) => if i < τ.length ∧ j < τ.length then some (.nx ((τ.set i (slotOf k a)).set j (slotOf l b)) s2) else none
    | none => none
  | none => none
theorem Own1.later {K : PySem.W.Frag} {Z : Res} {G I H I' H' : Hp} {σ : St} {τ : List SV} {s' : Z.S} {p : Addr} {o : HO} {a : T} (u : Own1 K Z G I H σ τ p o a) (m : Same I I') (w : Rep K Z (upd G p o) I' H' σ τ s') :
    Rep K Z G I' H' σ τ s' ∧ Own1 K Z G I' H' σ τ p o a := by
  obtain ⟨e1, e2⟩ := w.fr p o upd_same
  refine ⟨w.frame fun q y h => ?_, ⟨e1, u.ng, u.nf, e2, u.cn.mono m, u.no⟩⟩
  rw [upd_ne (ne_of_none h u.ng)]
  exact h
theorem Own1.setIm {K : PySem.W.Frag} {Z : Res} {G I H : Hp} {σ : St} {τ : List SV} {s : Z.S} {p : Addr} {o : HO} {a b : T} {i : Nat} {v : V} (u : Own1 K Z G I H σ τ p o a) (hl : σ.length = τ.length) : Own1 K Z G I H (σ.set i (some v)) (τ.set i (.im b)) p o a := by
  refine ⟨u.ni, u.ng, u.nf, u.at_, u.cn, fun j t h => ?_⟩
  have hj : i ≠ j := fun z => by
    subst z
    by_cases hi : i < τ.length
    · rw [List.getElem?_set_self hi] at h
      cases h
    · rw [List.getElem?_eq_none (by rw [List.length_set]; omega)] at h
      cases h
  rw [List.getElem?_set_ne hj] at h ⊢
  exact u.no j t h
theorem Own1.setOw {K : PySem.W.Frag} {Z : Res} {G I H : Hp} {σ : St} {τ : List SV} {s : Z.S} {p q : Addr} {o : HO} {a b : T} {i : Nat} (u : Own1 K Z G I H σ τ p o a) (hl : σ.length = τ.length) (hi : i < τ.length) (hq : q ≠ p) : Own1 K Z G I H (σ.set i (some (.ref q))) (τ.set i (.ow b)) p o a := by
  refine ⟨u.ni, u.ng, u.nf, u.at_, u.cn, fun j t h => ?_⟩
  by_cases hj : i = j
  · subst hj
    rw [List.getElem?_set_self (by omega)]
    intro z
    cases z
    exact hq rfl
  · rw [List.getElem?_set_ne hj] at h ⊢
    exact u.no j t h
section
variable {X : Cx} {Z : Res} {a b : Expr} {f g : EF Z} {pos : Pos}
theorem sx_parN {i j : Nat} {x y : Str} {k l : Bool} {px py pt : Pos} {kt k2 : Nat} {pt2 : Pos} (hc : X.calm = true) (hN : X.N.Nodup) (hi : X.N[i]? = some x := by rfl) (hj : X.N[j]? = some y := by rfl) (ha : EA X Z k a f) (hb : EA X Z l b g) (hij : i ≠ j := by decide)
    (hx : X.env.scope.names.lookup x = some .local := by rfl) (hy : X.env.scope.names.lookup y = some .local := by rfl)
    (h1s : starEach [a, b] X.env = (false, eval a X.env) :: starEach [b] X.env := by rfl) (h2s : starEach [b] X.env = (false, eval b X.env) :: starEach [] X.env := by rfl)
    (hw : swappedStores [.Tuple [.Name x px, .Name y py] kt pt] (.Tuple [a, b] k2 pt2) X.env = pure (some [x, y]) := by rfl)
    (hs : swapsWithSole [.Tuple [.Name x px, .Name y py] kt pt] (.Tuple [a, b] k2 pt2) pos.line X.env = pure false := by rfl) :
    SX X Z (.Assign [.Tuple [.Name x px, .Name y py] kt pt] (.Tuple [a, b] k2 pt2) pos) (sParN i j k l f g) := by
  have key : ∀ {ta tb : TE}, PE X a ta → PE X b tb → PS X (.Assign [.Tuple [.Name x px, .Name y py] kt pt] (.Tuple [a, b] k2 pt2) pos) (tPar i j (tCons ta (tCons tb tNil))) := fun pa pb => ps_par hc hN hi hj hij hx hy (pa_cons pa (pa_cons pb pa_nil h2s) h1s) hw hs
  cases k with
  | false =>
    obtain ⟨ta, pa, h1⟩ := ha
    cases l with
    | false =>
      obtain ⟨tb, pb, h2⟩ := hb
      refine ⟨_, key pa pb, fun G I H σ τ s o D w h q => ?_⟩
      unfold sParN at h
      split at h
      · rename_i u s1 e1
        split at h
        · rename_i v s2 e2
          split at h
          · rename_i hl
            cases h
            refine h1 _ _ _ _ _ _ _ _ _ w e1 fun I1 H1 y1 m1 w1 i1 => h2 _ _ _ _ _ _ _ _ _ w1 e2 fun I2 H2 y2 m2 w2 i2 => ?_
            exact ⟨y1, y2, rfl, q I2 H2 _ (m1.trans m2) ((w2.setIm hl.1 (i1.mono m2)).setIm (by rw [List.length_set]; exact hl.2) i2)⟩
          · cases h
        · cases h
      · cases h
    | true =>
      obtain ⟨tb, pb, h2⟩ := hb
      refine ⟨_, key pa pb, fun G I H σ τ s o D w h q => ?_⟩
      unfold sParN at h
      split at h
      · rename_i u s1 e1
        split at h
        · rename_i v s2 e2
          split at h
          · rename_i hl
            cases h
            refine h1 _ _ _ _ _ _ _ _ _ w e1 fun I1 H1 y1 m1 w1 i1 => h2 _ _ _ _ _ _ _ _ _ w1 e2 fun I2 H2 p2 o2 m2 w2 u2 => ?_
            exact ⟨y1, _, rfl, q I2 H2 _ (m1.trans m2) ((w2.setIm hl.1 (i1.mono m2)).setOw (by rw [List.length_set]; exact hl.2) (u2.setIm (s := s2) w2.len))⟩
          · cases h
        · cases h
      · cases h
  | true =>
    obtain ⟨ta, pa, h1⟩ := ha
    cases l with
    | false =>
      obtain ⟨tb, pb, h2⟩ := hb
      refine ⟨_, key pa pb, fun G I H σ τ s o D w h q => ?_⟩
      unfold sParN at h
      split at h
      · rename_i u s1 e1
        split at h
        · rename_i v s2 e2
          split at h
          · rename_i hl
            cases h
            refine h1 _ _ _ _ _ _ _ _ _ w e1 fun I1 H1 p1 o1 m1 w1 u1 => h2 _ _ _ _ _ _ _ _ _ (w1.guard u1) e2 fun I2 H2 y2 m2 w2 i2 => ?_
            obtain ⟨w3, u3⟩ := u1.later m2 w2
            exact ⟨_, y2, rfl, q I2 H2 _ (m1.trans m2) ((w3.setOw hl.1 u3).setIm (by rw [List.length_set]; exact hl.2) i2)⟩
          · cases h
        · cases h
      · cases h
    | true =>
      obtain ⟨tb, pb, h2⟩ := hb
      refine ⟨_, key pa pb, fun G I H σ τ s o D w h q => ?_⟩
      unfold sParN at h
      split at h
      · rename_i u s1 e1
        split at h
        · rename_i v s2 e2
          split at h
          · rename_i hl
            cases h
            refine h1 _ _ _ _ _ _ _ _ _ w e1 fun I1 H1 p1 o1 m1 w1 u1 => h2 _ _ _ _ _ _ _ _ _ (w1.guard u1) e2 fun I2 H2 p2 o2 m2 w2 u2 => ?_
            obtain ⟨w3, u3⟩ := u1.later m2 w2
            have ne : p1 ≠ p2 := fun z => by
              have := u2.ng
              rw [← z, upd_same] at this
              cases this
            have u4 : Own1 X.K Z G I2 H2 σ τ p2 o2 v := ⟨u2.ni, by have := u2.ng; rw [upd_ne ne.symm] at this; exact this, u2.nf, u2.at_, u2.cn, u2.no⟩
            exact ⟨_, _, rfl, q I2 H2 _ (m1.trans m2) ((w3.setOw hl.1 u3).setOw (by rw [List.length_set]; exact hl.2) (u4.setOw (s := s2) w3.len hl.1 ne))⟩
          · cases h
        · cases h
      · cases h
end
end L2.TL
namespace L2.TL
open PySem PySem.Spec
open PyProof.Rows
section
variable {X : Cx} {Z : Res} {scope : Scope}
theorem gb_two {i j : Nat} {x y : Str} {p1 p2 pos : Pos} {k : Nat} (hN : X.N.Nodup) (hi : X.N[i]? = some x) (hj : X.N[j]? = some y) (hij : i ≠ j) (hx : ∀ (cl : List (Str × Addr)) (C : Addr), Loc (compEnvC scope cl C X.env).scope x) (hf : ∀ (cl : List (Str × Addr)) (C : Addr), (scope.names.lookup x == some .cell) = true ∨ (compEnvC scope cl C X.env).scope.names.lookup x = some .local)
    (hy : ∀ (cl : List (Str × Addr)) (C : Addr), Loc (compEnvC scope cl C X.env).scope y) (hg : ∀ (cl : List (Str × Addr)) (C : Addr), (scope.names.lookup y == some .cell) = true ∨ (compEnvC scope cl C X.env).scope.names.lookup y = some .local)
    (hc : ∀ (s : Shared) (H : Hp) (C : Addr) (cl : List (Str × Addr)) (fp : List Addr), (X.blk s H scope (compEnvC scope cl C X.env) fp).calm = true := by intro _ _ _ _ _; rfl)
    (hn : ∀ (C : Addr) (cl : List (Str × Addr)), (assignEach [.Name x p1, .Name y p2] (compEnvC scope cl C X.env)).length = 2 := by intro _ _; rfl) (hst : ∀ (C : Addr) (cl : List (Str × Addr)), (assignEach [.Name x p1, .Name y p2] (compEnvC scope cl C X.env)).findIdx? (·.1) = none := by intro _ _; rfl)
    (ha : ∀ (C : Addr) (cl : List (Str × Addr)), (assignEach [.Name x p1, .Name y p2] (compEnvC scope cl C X.env)).map (·.2) = assign (.Name x p1) (compEnvC scope cl C X.env) :: (assignEach [.Name y p2] (compEnvC scope cl C X.env)).map (·.2) := by intro _ _; rfl)
    (hb : ∀ (C : Addr) (cl : List (Str × Addr)), (assignEach [.Name y p2] (compEnvC scope cl C X.env)).map (·.2) = assign (.Name y p2) (compEnvC scope cl C X.env) :: (assignEach [] (compEnvC scope cl C X.env)).map (·.2) := by intro _ _; rfl) :
    GB X Z scope [i, j] (.Tuple [.Name x p1, .Name y p2] k pos) (gTupT 2 (gsCons (gSet i) (gsCons (gSet j) gsNil))) := by
  refine ⟨gTup X.K 2 (gCons (gName i) (gCons (gName j) gNil)), fun s H C cl fp => pg_tup (X := X.blk s H scope (compEnvC scope cl C X.env) fp) (hc s H C cl fp) (pgs_cons (pg_name (X := X.blk s H scope (compEnvC scope cl C X.env) fp) hN hi (hx cl C) (hf cl C)) (pgs_cons (pg_name (X := X.blk s H scope (compEnvC scope cl C X.env) fp) hN hj (hy cl C) (hg cl C)) pgs_nil (hb C cl)) (ha C cl)) (hn C cl) (hst C cl), fun G I H σ τ s a v τ2 Q w ia h q => ?_, fun a τ τ2 h l hl => ?_⟩
  · unfold gTupT at h
    split at h
    · rename_i as
      split at h
      · rename_i h2
        obtain ⟨b, xs, rfl, hq, il⟩ := ia
        match as, h2, h, il with
        | [a1, a2], _, h, il =>
          obtain ⟨y1, y2, rfl, i1, i2⟩ := il.two
          by_cases l1 : i < τ.length
          · by_cases l2 : j < τ.length
            · have e1 : gSet i a1 τ = some (τ.set i (.im a1)) := if_pos l1
              have e2 : gSet j a2 (τ.set i (.im a1)) = some ((τ.set i (.im a1)).set j (.im a2)) := if_pos (by rw [List.length_set]; exact l2)
              have e : some ((τ.set i (.im a1)).set j (.im a2)) = some τ2 := by
                rw [← h]
                show _ = (match gSet i a1 τ with
                  | some τ' => gsCons (gSet j) gsNil [a2] τ'
                  | none => none)
                rw [e1]
                show _ = (match gSet j a2 (τ.set i (.im a1)) with
                  | some τ' => gsNil [] τ'
                  | none => none)
                rw [e2]
                rfl
              cases e
              have ws := (w.setIm l1 i1).setIm (i := j) (by rw [List.length_set]; exact l2) i2
              have wz : L2.wipe ((σ.set i (some y1)).set j (some y2)) [i, j] = L2.wipe σ [i, j] := by
                show ((((σ.set i (some y1)).set j (some y2)).set j none).set i none) = (σ.set j none).set i none
                rw [List.set_set, List.set_comm _ _ hij, List.set_set, List.set_comm _ _ hij.symm]
              exact ⟨b, _, rfl, sqt_mono w.sub hq, rfl, y1, _, rfl, y2, _, rfl, rfl, q _ wz ws⟩
            · exfalso
              have e1 : gSet i a1 τ = some (τ.set i (.im a1)) := if_pos l1
              have e2 : gSet j a2 (τ.set i (.im a1)) = none := if_neg (by rw [List.length_set]; exact l2)
              have : (none : Option (List SV)) = some τ2 := by
                rw [← h]
                show _ = (match gSet i a1 τ with
                  | some τ' => gsCons (gSet j) gsNil [a2] τ'
                  | none => none)
                rw [e1]
                show _ = (match gSet j a2 (τ.set i (.im a1)) with
                  | some τ' => gsNil [] τ'
                  | none => none)
                rw [e2]
              cases this
          · exfalso
            have e1 : gSet i a1 τ = none := if_neg l1
            have : (none : Option (List SV)) = some τ2 := by
              rw [← h]
              show _ = (match gSet i a1 τ with
                | some τ' => gsCons (gSet j) gsNil [a2] τ'
                | none => none)
              rw [e1]
            cases this
      · cases h
    · cases h
  · unfold gTupT at h
    split at h
    · rename_i as
      split at h
      · rename_i h2
        match as, h2, h with
        | [a1, a2], _, h =>
          have h : (match gSet i a1 τ with
            | some τ' => gsCons (gSet j) gsNil [a2] τ'
            | none => none) = some τ2 := h
          unfold gSet at h
          split at h
          · rename_i τ1 e1
            split at e1
            · cases e1
              have h : (match (if j < (τ.set i (.im a1)).length then some ((τ.set i (.im a1)).set j (.im a2)) else none) with
                | some τ' => gsNil [] τ'
                | none => none) = some τ2 := h
              split at h
              · rename_i τ3 e3
                split at e3
                · cases e3
                  cases h
                  rw [List.getElem?_set_ne (fun z => hl (by simp [z])), List.getElem?_set_ne (fun z => hl (by simp [z]))]
                · cases e3
              · cases h
            · cases e1
          · cases h
      · cases h
    · cases h
end
end L2.TL
/-! TLv: repr of data with lists and dicts in it: where a list stands does not matter. -/
namespace L2.TL
open PySem PySem.Spec
open PyProof.Rows
section
variable {X : Cx} {pins : List (Addr × Obj)} {σ : St} {H I : Hp} {s : Shared}
theorem shownL_le {ds : List PyData} {z : Nat} (h : (listText (PyData.shownAll ds)).length ≤ z) : ∀ y ∈ PyData.shownAll ds, y.length ≤ z :=
  fun y m => Nat.le_trans (listText_mem_le m) h
theorem shownT_le {ds : List PyData} {z : Nat} (h : (tupleText (PyData.shownAll ds)).length ≤ z) : ∀ y ∈ PyData.shownAll ds, y.length ≤ z :=
  fun y m => Nat.le_trans (tupleText_mem_le m) h
theorem showableL : ∀ {ts : List T}, PyData.showableAll (dL ts) = true → ∀ t ∈ ts, t.d.showable = true
  | [], _, _, m => by cases m
  | a :: r, h, t, m => by
    have h : (a.d.showable && PyData.showableAll (dL r)) = true := by simpa only [dL, PyData.showableAll] using h
    rw [Bool.and_eq_true] at h
    rcases List.mem_cons.mp m with rfl | m
    · exact h.1
    · exact showableL h.2 t m
/-- how the parts of a dict are shown, from what is known of its keys and values -/
theorem dict_parts {bs : List Addr} {ps : List (Key × T)} {es : List DictEntry} (hk : ReadsAll s.heap (es.map (·.key)) ((dP ps).map (·.1)) []) (hs : PyData.showableAll ((dP ps).map (·.1)) = true) (hz : ∀ y ∈ PyData.shownAll ((dP ps).map (·.1)), y.length ≤ sizeLine)
    (hv : ReprAllK X.prog X.w bs s.heap (PyData.depthAll ((dP ps).map (·.2))) (es.map (·.val)) (PyData.shownAll ((dP ps).map (·.2)))) (hb : ReadAtMost s.heap (PyData.depthAll ((dP ps).map (·.2))) bs) :
    ∃ cs, ReadAtMost s.heap (PyData.depthKv (dP ps)) cs ∧ ReprEntriesK X.prog X.w cs s.heap (PyData.depthKv (dP ps)) es (PyData.shownKv (dP ps)) := by
  obtain ⟨ks, hks, kk⟩ := ReprAllK.of_readsAll (prog := X.prog) (w := X.w) hk hs (fun _ m => by cases m) hz
  refine ⟨ks ++ bs, (hks.mono (PyData.depthAll_keys_le _)).append (hb.mono (PyData.depthAll_vals_le _)), ?_⟩
  rw [PyData.shownKv_eq]
  exact ReprEntriesK.of_two es _ _ (kk.more_le (fun _ m => List.mem_append.mpr (.inl m)) (PyData.depthAll_keys_le _)) (hv.more_le (fun _ m => List.mem_append.mpr (.inr m)) (PyData.depthAll_vals_le _))
/-- what stands at a dict that a tree tells -/
theorem dict_at (J : Inv X pins σ H s) (sub : Same I H) {ps : List (Key × T)} {a : Addr} {xs : List (Key × V)} (h1 : I a = some (.dK xs)) (h2 : IsD X.K I ps xs) :
    ∃ (o : Obj) (es : Array DictEntry) (n : Nat), s.heap.get? a = some o ∧ o.cls = .type "dict" ∧ o.data = .dict es n ∧ (a == sysModules) = false ∧ ReadsAll s.heap (es.toList.map (·.key)) ((dP ps).map (·.1)) [] ∧ ∃ vs, Vals vs (es.toList.map (·.val)) ∧ IsL X.K I (ps.map (·.2)) vs := by
  obtain ⟨hz, hS, vs, kv, o, es, ep, ho, hx, hd, _, pr, _⟩ : xs.length ≤ sizeLine ∧ (a == sysModules) = false ∧ ∃ vs, KV xs vs ∧ s.heap.DictOf (mixKind X.prog X.w) a vs := J.hok a _ (sub _ _ h1)
  obtain ⟨rk, rl⟩ := keysReads (h := s.heap) pr
  obtain ⟨kv1, kv2⟩ := kv_snd kv
  obtain ⟨i1, i2⟩ := isD_vals h2
  have e1 : (vs.map fun p => keyD p.1) = (dP ps).map (·.1) := by
    have : (vs.map fun p => keyD p.1) = (vs.map (·.1)).map keyD := by rw [List.map_map]; rfl
    rw [this, ← kv2, i2, dP_keys]
  rw [e1] at rk
  rw [← rl] at kv1
  exact ⟨o, es, ep, ho, hx.1, hd, hS, rk, _, kv1, i1⟩
mutual
theorem Is.shows (J : Inv X pins σ H s) (sub : Same I H) : ∀ (t : T) (v : V) (u : Value), t.plain = true → t.d.showable = true → t.d.shown.length ≤ sizeLine → Is X.K I t v → RelV v u →
    ∃ bs, ReadAtMost s.heap t.d.depth bs ∧ ReprK X.prog X.w bs s.heap t.d.depth u t.d.shown
  | .non, v, u, hp, hs, hz, h, r => by
    obtain ⟨as, rd, _⟩ := Is.reads J sub .non v u hp h r
    exact ReprK.of_reads rd hs (fun z => by cases z) hz
  | .bl b, v, u, hp, hs, hz, h, r => by
    obtain ⟨as, rd, _⟩ := Is.reads J sub (.bl b) v u hp h r
    exact ReprK.of_reads rd hs (fun z => by cases z) hz
  | .int i, v, u, hp, hs, hz, h, r => by
    obtain ⟨as, rd, _⟩ := Is.reads J sub (.int i) v u hp h r
    exact ReprK.of_reads rd hs (fun z => by cases z) hz
  | .str x, v, u, hp, hs, hz, h, r => by
    obtain ⟨as, rd, _⟩ := Is.reads J sub (.str x) v u hp h r
    exact ReprK.of_reads rd hs (fun z => by cases z) hz
  | .lst ts, v, u, hp, hs, hz, h, r => by
    obtain ⟨as, rd, _⟩ := Is.reads J sub (.lst ts) v u hp h r
    obtain ⟨a, xs, rfl, h1, h2⟩ := h
    cases r
    obtain ⟨its, rv, ⟨o, n, ho, hc, _, hd⟩, _⟩ := J.list (.of (sub _ _ h1))
    obtain ⟨bs, hb, hk⟩ := IsL.shows J sub ts xs its (by simpa only [T.plain] using hp) (by simpa only [T.d, PyData.showable] using hs) (shownL_le (by simpa only [T.d, PyData.shown] using hz)) h2 rv
    have deep : PyData.depthAll (dL ts) < (T.d (.lst ts)).depth := by
      simp only [T.d, PyData.depth]
      omega
    refine ⟨a :: bs, hb.cons rd (Nat.le_of_lt deep), ?_⟩
    have away := not_mem_of_deeper rd deep hb
    simp only [T.d, PyData.depth, PyData.shown]
    cases its with
    | nil =>
      have e : PyData.shownAll (dL ts) = [] := List.length_eq_zero_iff.mp (by simpa using hk.length_eq)
      rw [e, listText_nil]
      exact ReprK.listEmpty ho hc hd
    | cons y l => exact ReprK.list ho hc hd away (by simpa using hk.length_eq) fun i z e => hk.item i z (by simpa using e)
  | .tup ts, v, u, hp, hs, hz, h, r => by
    obtain ⟨as, rd, _⟩ := Is.reads J sub (.tup ts) v u hp h r
    obtain ⟨a, xs, rfl, h1, h2⟩ := h
    cases r
    obtain ⟨its, rv, ⟨o, ho, hc, n, hd⟩, _⟩ := J.tuple (sqt_mono sub h1)
    obtain ⟨bs, hb, hk⟩ := IsL.shows J sub ts xs its (by simpa only [T.plain] using hp) (by simpa only [T.d, PyData.showable] using hs) (shownT_le (by simpa only [T.d, PyData.shown] using hz)) h2 rv
    have deep : PyData.depthAll (dL ts) < (T.d (.tup ts)).depth := by
      simp only [T.d, PyData.depth]
      omega
    refine ⟨a :: bs, hb.cons rd (Nat.le_of_lt deep), ?_⟩
    have away := not_mem_of_deeper rd deep hb
    simp only [T.d, PyData.depth, PyData.shown]
    exact ReprK.tuple ho hc hd away (by simpa using hk)
  | .dct ps, v, u, hp, hs, hz, h, r => by
    obtain ⟨as, rd, _⟩ := Is.reads J sub (.dct ps) v u hp h r
    obtain ⟨a, xs, rfl, h1, h2⟩ := h
    cases r
    obtain ⟨o, es, n, ho, hc, hd, off, rk, vs, rv, il⟩ := dict_at J sub h1 h2
    have hz2 : (dictText (PyData.shownKv (dP ps))).length ≤ sizeLine := by simpa only [T.d, PyData.shown] using hz
    obtain ⟨s1, s2⟩ := PyData.showableKv_split (dP ps) (by simpa only [T.d, PyData.showable] using hs)
    obtain ⟨bs, hb, hk⟩ := IsD.shows J sub ps vs _ (by simpa only [T.plain] using hp) (by rw [← dP_vals]; exact s2) (fun y m => by
      rw [← dP_vals] at m
      obtain ⟨q, hq, le⟩ := PyData.shownKv_val_le (dP ps) y m
      exact Nat.le_trans le (Nat.le_trans (dictText_mem_le hq) hz2)) il rv
    rw [← dP_vals] at hb hk
    obtain ⟨cs, hcs, he⟩ := dict_parts rk s1 (fun y m => by
      obtain ⟨q, hq, le⟩ := PyData.shownKv_key_le (dP ps) y m
      exact Nat.le_trans le (Nat.le_trans (dictText_mem_le hq) hz2)) hk hb
    have deep : PyData.depthKv (dP ps) < (T.d (.dct ps)).depth := by
      simp only [T.d, PyData.depth]
      omega
    refine ⟨a :: cs, hcs.cons rd (Nat.le_of_lt deep), ?_⟩
    have away := not_mem_of_deeper rd deep hcs
    simp only [T.d, PyData.depth, PyData.shown]
    exact ReprK.dict ho hc hd off away he
  | .ins _ _, _, _, hp, _, _, _, _ => by cases hp
  | .adr _, _, _, hp, _, _, _, _ => by cases hp
theorem IsL.shows (J : Inv X pins σ H s) (sub : Same I H) : ∀ (ts : List T) (vs : List V) (us : List Value), plainL ts = true → PyData.showableAll (dL ts) = true → (∀ y ∈ PyData.shownAll (dL ts), y.length ≤ sizeLine) → IsL X.K I ts vs → Vals vs us →
    ∃ bs, ReadAtMost s.heap (PyData.depthAll (dL ts)) bs ∧ ReprAllK X.prog X.w bs s.heap (PyData.depthAll (dL ts)) us (PyData.shownAll (dL ts))
  | [], _, _, _, _, _, h, r => by
    have h : _ = [] := h
    subst h
    cases r
    exact ⟨[], (fun _ m => by cases m), .nil⟩
  | t :: ts, _, _, hp, hs, hz, h, r => by
    obtain ⟨x, xr, rfl, h1, h2⟩ := h
    cases r with
    | cons r1 r2 =>
      simp only [plainL, Bool.and_eq_true] at hp
      simp only [dL, PyData.showableAll, Bool.and_eq_true] at hs
      simp only [dL, PyData.shownAll] at hz
      obtain ⟨bs, b1, k1⟩ := Is.shows J sub t x _ hp.1 hs.1 (hz _ List.mem_cons_self) h1 r1
      obtain ⟨cs, b2, k2⟩ := IsL.shows J sub ts xr _ hp.2 hs.2 (fun y m => hz y (List.mem_cons_of_mem _ m)) h2 r2
      have d1 : t.d.depth ≤ PyData.depthAll (dL (t :: ts)) := by
        simp only [dL, PyData.depthAll]
        omega
      have d2 : PyData.depthAll (dL ts) ≤ PyData.depthAll (dL (t :: ts)) := by
        simp only [dL, PyData.depthAll]
        omega
      exact ⟨bs ++ cs, (b1.mono d1).append (b2.mono d2), .cons ((k1.more fun _ m => List.mem_append.mpr (.inl m)).level_le d1) (k2.more_le (fun _ m => List.mem_append.mpr (.inr m)) d2)⟩
theorem IsD.shows (J : Inv X pins σ H s) (sub : Same I H) : ∀ (ps : List (Key × T)) (vs : List V) (us : List Value), plainP ps = true → PyData.showableAll (dL (ps.map (·.2))) = true → (∀ y ∈ PyData.shownAll (dL (ps.map (·.2))), y.length ≤ sizeLine) → IsL X.K I (ps.map (·.2)) vs → Vals vs us →
    ∃ bs, ReadAtMost s.heap (PyData.depthAll (dL (ps.map (·.2)))) bs ∧ ReprAllK X.prog X.w bs s.heap (PyData.depthAll (dL (ps.map (·.2)))) us (PyData.shownAll (dL (ps.map (·.2))))
  | [], _, _, _, _, _, h, r => by
    have h : _ = [] := h
    subst h
    cases r
    exact ⟨[], (fun _ m => by cases m), .nil⟩
  | (k, t) :: ps, _, _, hp, hs, hz, h, r => by
    obtain ⟨x, xr, rfl, h1, h2⟩ := h
    cases r with
    | cons r1 r2 =>
      simp only [plainP, Bool.and_eq_true] at hp
      simp only [List.map_cons, dL, PyData.showableAll, Bool.and_eq_true] at hs
      simp only [List.map_cons, dL, PyData.shownAll] at hz
      obtain ⟨bs, b1, k1⟩ := Is.shows J sub t x _ hp.1 hs.1 (hz _ List.mem_cons_self) h1 r1
      obtain ⟨cs, b2, k2⟩ := IsD.shows J sub ps xr _ hp.2 hs.2 (fun y m => hz y (List.mem_cons_of_mem _ m)) h2 r2
      have d1 : t.d.depth ≤ PyData.depthAll (dL (((k, t) :: ps).map (·.2))) := by
        simp only [List.map_cons, dL, PyData.depthAll]
        omega
      have d2 : PyData.depthAll (dL (ps.map (·.2))) ≤ PyData.depthAll (dL (((k, t) :: ps).map (·.2))) := by
        simp only [List.map_cons, dL, PyData.depthAll]
        omega
      exact ⟨bs ++ cs, (b1.mono d1).append (b2.mono d2), .cons ((k1.more fun _ m => List.mem_append.mpr (.inl m)).level_le d1) (k2.more_le (fun _ m => List.mem_append.mpr (.inr m)) d2)⟩
end
end
/-- what repr shows, wherever the lists stand -/
def showOk2 (t : T) : Bool := t.plain && t.d.showable && decide (t.d.depth ≤ 60) && decide (t.d.shown.length ≤ sizeLine)
def reprT2 : List T → Option T
  | [t] => if showOk2 t = true then some (.str t.show) else none
  | _ => none
section
variable {X : Cx}
def rRepr2 (K : PySem.W.Frag) : List V → Hp → VK → Prop := fun xs H Q => ∃ I t x, Same I H ∧ xs = [x] ∧ Is K I t x ∧ showOk2 t = true ∧ Q (.str t.show) H
theorem call_repr2 (gd : X.A.guards = some []) (hu : X.A.units + 64 < cLine) : CallR X (.builtin "repr") (rRepr2 X.K) := by
  intro pins s σ H xs us Q J r h
  obtain ⟨I, t, x, sub, rfl, ix, ok, q⟩ := h
  obtain ⟨u, rfl, rx⟩ := r.one
  unfold showOk2 at ok
  simp only [Bool.and_eq_true, decide_eq_true_eq] at ok
  obtain ⟨⟨⟨o1, o2⟩, o4⟩, o5⟩ := ok
  have q : Q (.str t.d.shown) H := q
  have fin : ∀ (h' : Heap) (tk : Tok) (n : Nat), (∀ b o, s.heap.get? b = some o → h'.get? b = some o) → EP X pins σ Q (.str t.d.shown tk) { s with heap := h', toks := n } := fun h' tk n hk => ⟨.str _, H, J.kept hk, ⟨tk, rfl⟩, q⟩
  cases t with
  | non =>
    cases (show x = V.non from ix)
    cases rx
    exact PySem.P.repr_of_none (fin s.heap _ _ fun _ _ z => z)
  | bl b =>
    cases (show x = V.bl b from ix)
    cases rx
    refine PySem.P.repr_of_bool ?_
    cases b
    · exact fin s.heap _ _ fun _ _ z => z
    · exact fin s.heap _ _ fun _ _ z => z
  | int i =>
    cases (show x = V.int i from ix)
    obtain ⟨tk, rfl⟩ := rx
    exact PySem.P.repr_of_int (of_decide_eq_true o2) (fin s.heap _ _ fun _ _ z => z)
  | str y =>
    cases (show x = V.str y from ix)
    obtain ⟨tk, rfl⟩ := rx
    exact PySem.P.repr_of_str (fin s.heap _ _ fun _ _ z => z) o5
  | lst ts =>
    obtain ⟨as, rd, _⟩ := Is.reads J sub (.lst ts) x u o1 ix rx
    obtain ⟨a, ys, rfl, h1, h2⟩ := ix
    cases rx
    obtain ⟨its, rv, ⟨o, n, ho, hc, _, hd⟩, _⟩ := J.list (.of (sub _ _ h1))
    have hz : (listText (PyData.shownAll (dL ts))).length ≤ sizeLine := by simpa only [T.d, PyData.shown] using o5
    obtain ⟨bs, hb, hk⟩ := IsL.shows J sub ts ys its (by simpa only [T.plain] using o1) (by simpa only [T.d, PyData.showable] using o2) (shownL_le hz) h2 rv
    have deep : PyData.depthAll (dL ts) < (T.d (.lst ts)).depth := by
      simp only [T.d, PyData.depth]
      omega
    have away := not_mem_of_deeper rd deep hb
    refine call_repr_slot (by omega) ⟨o, ho, hc⟩ F.slot_list_repr.toG ?_
    have fin2 : ∀ (h' : Heap) (tk : Tok) (n : Nat), (∀ b o, s.heap.get? b = some o → h'.get? b = some o) → ∃ y t', Value.str (listText (PyData.shownAll (dL ts))) tk = .str y t' ∧ EP X pins σ Q (.str (listText (PyData.shownAll (dL ts))) tk) { s with heap := h', toks := n } := fun h' tk n k => ⟨_, _, rfl, by simpa only [T.d, PyData.shown] using fin h' tk n k⟩
    have du : X.A.in1.units + (PyData.depthAll (dL ts) + 1) < cLine := by
      have : (T.d (.lst ts)).depth = PyData.depthAll (dL ts) + 1 := by simp only [T.d, PyData.depth]
      show X.A.units + 1 + _ < _
      omega
    cases its with
    | nil =>
      have e : PyData.shownAll (dL ts) = [] := List.length_eq_zero_iff.mp (by simpa using hk.length_eq)
      rw [e, listText_nil] at fin2
      exact call_list_repr_empty ⟨o, ho, hc⟩ ho hd (fin2 s.heap _ _ fun _ _ z => z)
    | cons y l => exact call_list_reprK ho hc hd away (by simpa using hk.length_eq) (fun i z e => hk.item i z (by simpa using e)) gd (fun b _ => Clear.nil b) du (fun _ _ z => z) fin2 hz
  | tup ts =>
    obtain ⟨as, rd, _⟩ := Is.reads J sub (.tup ts) x u o1 ix rx
    obtain ⟨a, ys, rfl, h1, h2⟩ := ix
    cases rx
    obtain ⟨its, rv, ⟨o, ho, hc, n, hd⟩, _⟩ := J.tuple (sqt_mono sub h1)
    have hz : (tupleText (PyData.shownAll (dL ts))).length ≤ sizeLine := by simpa only [T.d, PyData.shown] using o5
    obtain ⟨bs, hb, hk⟩ := IsL.shows J sub ts ys its (by simpa only [T.plain] using o1) (by simpa only [T.d, PyData.showable] using o2) (shownT_le hz) h2 rv
    have deep : PyData.depthAll (dL ts) < (T.d (.tup ts)).depth := by
      simp only [T.d, PyData.depth]
      omega
    have away := not_mem_of_deeper rd deep hb
    refine call_repr_slot (by omega) ⟨o, ho, hc⟩ F.slot_tuple_repr ?_
    have fin2 : ∀ (h' : Heap) (tk : Tok) (n : Nat), (∀ b o, s.heap.get? b = some o → h'.get? b = some o) → ∃ y t', Value.str (tupleText (PyData.shownAll (dL ts))) tk = .str y t' ∧ EP X pins σ Q (.str (tupleText (PyData.shownAll (dL ts))) tk) { s with heap := h', toks := n } := fun h' tk n k => ⟨_, _, rfl, by simpa only [T.d, PyData.shown] using fin h' tk n k⟩
    have du : X.A.in1.units + (PyData.depthAll (dL ts) + 1) < cLine := by
      have : (T.d (.tup ts)).depth = PyData.depthAll (dL ts) + 1 := by simp only [T.d, PyData.depth]
      show X.A.units + 1 + _ < _
      omega
    exact call_tuple_reprK ho hc hd away (by simpa using hk) gd (fun b _ => Clear.nil b) du (fun _ _ z => z) fin2 hz
  | dct ps =>
    obtain ⟨as, rd, _⟩ := Is.reads J sub (.dct ps) x u o1 ix rx
    obtain ⟨a, ys, rfl, h1, h2⟩ := ix
    cases rx
    obtain ⟨o, es, n, ho, hc, hd, off, rk, vs, rv, il⟩ := dict_at J sub h1 h2
    have hz2 : (dictText (PyData.shownKv (dP ps))).length ≤ sizeLine := by simpa only [T.d, PyData.shown] using o5
    obtain ⟨s1, s2⟩ := PyData.showableKv_split (dP ps) (by simpa only [T.d, PyData.showable] using o2)
    obtain ⟨bs, hb, hk⟩ := IsD.shows J sub ps vs _ (by simpa only [T.plain] using o1) (by rw [← dP_vals]; exact s2) (fun y m => by
      rw [← dP_vals] at m
      obtain ⟨q, hq, le⟩ := PyData.shownKv_val_le (dP ps) y m
      exact Nat.le_trans le (Nat.le_trans (dictText_mem_le hq) hz2)) il rv
    rw [← dP_vals] at hb hk
    obtain ⟨cs, hcs, he⟩ := dict_parts rk s1 (fun y m => by
      obtain ⟨q, hq, le⟩ := PyData.shownKv_key_le (dP ps) y m
      exact Nat.le_trans le (Nat.le_trans (dictText_mem_le hq) hz2)) hk hb
    have deep : PyData.depthKv (dP ps) < (T.d (.dct ps)).depth := by
      simp only [T.d, PyData.depth]
      omega
    have away := not_mem_of_deeper rd deep hcs
    refine call_repr_slot (by omega) ⟨o, ho, hc⟩ F.slot_dict_repr ?_
    have fin2 : ∀ (h' : Heap) (tk : Tok) (n : Nat), (∀ b o, s.heap.get? b = some o → h'.get? b = some o) → ∃ y t', Value.str (dictText (PyData.shownKv (dP ps))) tk = .str y t' ∧ EP X pins σ Q (.str (dictText (PyData.shownKv (dP ps))) tk) { s with heap := h', toks := n } := fun h' tk n k => ⟨_, _, rfl, by simpa only [T.d, PyData.shown] using fin h' tk n k⟩
    have du : X.A.in1.units + (PyData.depthKv (dP ps) + 1) < cLine := by
      have : (T.d (.dct ps)).depth = PyData.depthKv (dP ps) + 1 := by simp only [T.d, PyData.depth]
      show X.A.units + 1 + _ < _
      omega
    exact call_dict_reprK ho hc hd off away he gd (fun b _ => Clear.nil b) du (fun _ _ z => z) fin2 hz2
  | ins _ _ => cases o1
  | adr _ => cases o1
theorem op1_repr2 : Op1 X (rRepr2 X.K) reprT2 := by
  intro Z G I H σ τ s as c xs Q w il e q
  unfold reprT2 at e
  split at e
  · rename_i t
    split at e
    · rename_i ok
      cases e
      obtain ⟨x, rfl, ix⟩ := il.one
      exact ⟨I, t, x, w.sub, rfl, ix, ok, q.here w rfl⟩
    · cases e
  · cases e
end
end L2.TL
/-! TLw: dicts of keys and values side by side. -/
namespace L2.TL
open PySem PySem.Spec
open PyProof.Rows
theorem zipKV {w : World} : ∀ {ks : List Key} {ys : List V} {us : List Value}, Vals ys us → KV (ks.zip ys) (ks.zip us)
  | [], _, _, _ => by
    rw [List.zip_nil_left, List.zip_nil_left]
    exact .nil
  | _ :: _, _, _, .nil => by
    rw [List.zip_nil_right, List.zip_nil_right]
    exact .nil
  | k :: ks, _, _, .cons r t => .cons ⟨rfl, r⟩ (zipKV (w := w) t)
def tDictZip (K : PySem.W.Frag) (ta : TA) : TE := fun σ H Q => ta σ H fun vs H1 => ∃ (a b : Addr) (ks : List Key) (ys : List V), vs = [.ref a, .ref b] ∧ SqL K H1 a (ks.map kV) ∧ SqL K H1 b ys ∧ ks.length = ys.length ∧
  ∀ p, H1 p = none → Q (.ref p) (upd H1 p (.dK (mergeK [] (ks.zip ys))))
theorem pe_dictZip {X : Cx} {e1 e2 : Expr} {ta : TA} {p p2 pos pos2 : Pos} (hc : X.calm = true) (hg : Gl X "dict") (hm : X.mg "dict" = none) (hg2 : Gl X "zip") (hm2 : X.mg "zip" = none) (ha : PA X [e1, e2] ta)
    (hs0 : starEach [.Call (.Name "zip" p2) [e1, e2] [] pos2] X.env = (false, eval (.Call (.Name "zip" p2) [e1, e2] [] pos2) X.env) :: starEach [] X.env := by rfl) (hp0 : (backTo pos (starEach [] X.env)).any (·.1) = false := by rfl)
    (hs : starEach [e1, e2] X.env = (false, eval e1 X.env) :: starEach [e2] X.env := by rfl) (hpl : (backTo pos2 (starEach [e2] X.env)).any (·.1) = false := by rfl) :
    PE X (.Call (.Name "dict" p) [.Call (.Name "zip" p2) [e1, e2] [] pos2] [] pos) (tDictZip X.K ta) := by
  refine ⟨fun pins s σ H Q I h => ?_⟩
  refine wpAny_Call_Name_kw (ld_blt I hg hm (by rfl) ?_ (by decide) (by decide))
  refine PyProof.Rows.callWith_type1 ?_ hs0 hp0
  rw [hs0]
  show wpAny _ _ (spliced ((false, eval (.Call (.Name "zip" p2) [e1, e2] [] pos2) X.env) :: backTo pos (starEach [] X.env))) _ _ s
  refine Calls.spliced_cons ?_
  refine Call_ (ld_blt I hg2 hm2 PyProof.Rows.boot_zip (PyProof.Rows.callWith_type1 (thn (ha.run pos2 pins s σ H _ I h) fun us s1 ⟨vs, H1, I1, r1, q1⟩ => ?_) hs hpl))
  obtain ⟨a, b, ks, ys, ex, hqx, hqy, hlen, q⟩ := q1
  subst ex
  cases r1 with
  | cons r rr =>
    cases rr with
    | cons r' rr =>
      cases rr
      cases r
      cases r'
      obtain ⟨its, rv, p1, z1⟩ := I1.list hqx
      obtain ⟨its2, rv2, p3, z2⟩ := I1.list hqy
      have la : a < s1.heap.objs.size := p1.lt
      have lb : b < s1.heap.objs.size := p3.lt
      have n1 : its.length = ks.length := by
        have := rv.length
        rw [List.length_map] at this
        exact this.symm
      have n2 : its2.length = ys.length := rv2.length.symm
      refine call_zip_2 p1.isList p3.isList fun h' hz hTI hTO h1 h2 hsz hk => Calls.spliced_nil ?_
      have D := PySem.W.ktu_apart s1.heap.objs.size a b la lb
      have kvz : (ks.zip its2).length = its.toArray.size := by
        rw [List.length_zip, List.size_toArray]
        omega
      have hmin : min its.toArray.size its2.toArray.size = ks.length := by
        rw [List.size_toArray, List.size_toArray]
        omega
      refine PySem.call_dict_pairs (knd := mixKind X.prog X.w) (kvs := ks.zip its2) (PairArg.zip (prog := X.prog) (w := X.w) _ _ _ _ _ a b D its.toArray its2.toArray) (I1.ok.hd hc)
        ⟨hz, hTI, ⟨_, _, hTO⟩, h1, h2, p1.isList.at fun o e => hk _ _ e, p3.isList.at fun o e => hk _ _ e⟩ ⟨by rw [List.length_zip]; omega, fun i key v ⟨e1, e2⟩ => ?_⟩ (by rw [hmin]; rw [List.length_map] at z1; exact z1) fun h'' tk hd hk2 => ?_
      · have e1' : its[i]? = some key := by simpa using e1
        have e2' : its2[i]? = some v := by simpa using e2
        have hi : i < ks.length := by
          have := (List.getElem?_eq_some_iff.mp e1').1
          omega
        obtain ⟨u, hu, ru⟩ := rv.get (i := i) (x := kV ks[i]) (by rw [List.getElem?_map, List.getElem?_eq_getElem hi]; rfl)
        rw [e1'] at hu
        cases hu
        refine ⟨ks[i], ?_, kV_is (P := X.prog) (w := X.w) ru⟩
        rw [List.getElem?_zip_eq_some]
        exact ⟨List.getElem?_eq_getElem hi, e2'⟩
      · have old : ∀ c o, s1.heap.get? c = some o → h''.get? c = some o := fun c o e => by
          have lc : c < s1.heap.objs.size := Heap.lt_size e
          refine hk2 c o ?_ (hk c o e)
          intro m
          simp only [List.mem_cons, List.not_mem_nil, or_false] at m
          have : s1.heap.objs.size ≤ c := by
            rcases m with m | m | m | m <;> (rw [m]; first | exact Nat.le_refl _ | exact Nat.le_add_right _ _)
          exact absurd lc (Nat.not_lt.mpr this)
        have hle : s1.heap.objs.size ≤ h'.objs.size := by
          rw [hsz]
          exact Nat.le_add_right _ _
        have hm3 : (h'.objs.size == sysModules) = false := beq_eq_false_iff_ne.mpr (Nat.ne_of_gt (Nat.lt_of_lt_of_le I1.big hle))
        have rel : KV (ks.zip ys) (ks.zip its2) := zipKV (w := X.w) rv2
        have hl2 : (mergeK [] (ks.zip ys)).length ≤ sizeLine := by
          refine Nat.le_trans (length_mergeK (ks.zip ys) []) ?_
          rw [List.length_nil, Nat.zero_add, List.length_zip]
          rw [List.length_map] at z1
          omega
        exact ⟨.ref h'.objs.size, upd H1 h'.objs.size (.dK (mergeK [] (ks.zip ys))), I1.laid (t' := tk) old hle (show ObjOk X.prog X.w _ _ _ (.dK (mergeK [] (ks.zip ys))) from ⟨hl2, hm3, merged [] (ks.zip its2), KV.merge rel .nil, hd⟩), rfl, q _ (I1.hok.fresh hle)⟩
end L2.TL
/-! TLx: dicts told by trees; sorted texts. -/
namespace L2.TL
open PySem PySem.Spec
open PyProof.Rows
def getT (ps : List (Key × T)) (k : Key) : Option T := (ps.find? fun kv => decide (kv.1 = k)).map (·.2)
def putT (ps : List (Key × T)) (k : Key) (t : T) : List (Key × T) :=
  if (ps.any fun kv => decide (kv.1 = k)) = true then ps.map (fun kv => if kv.1 = k then (kv.1, t) else kv) else ps ++ [(k, t)]
def mergeT (ps more : List (Key × T)) : List (Key × T) := more.foldl (fun acc kv => putT acc kv.1 kv.2) ps
section
variable {K : PySem.W.Frag} {I : Hp}
theorem IsD.get : ∀ {ps : List (Key × T)} {xs : List (Key × V)} {k : Key} {t : T}, IsD K I ps xs → getT ps k = some t → ∃ x, valV xs k = some x ∧ Is K I t x
  | [], _, _, _, _, e => by cases e
  | (j, u) :: r, _, k, t, h, e => by
    obtain ⟨x, xr, rfl, h1, h2⟩ := h
    by_cases hk : j = k
    · rw [valV_pos (p := (j, x)) hk]
      unfold getT at e
      rw [List.find?_cons_of_pos (by simpa using hk)] at e
      cases e
      exact ⟨x, rfl, h1⟩
    · rw [valV_neg (p := (j, x)) hk]
      unfold getT at e
      rw [List.find?_cons_of_neg (by simpa using hk)] at e
      exact IsD.get h2 e
theorem IsD.getN : ∀ {ps : List (Key × T)} {xs : List (Key × V)} {k : Key}, IsD K I ps xs → getT ps k = none → valV xs k = none
  | [], _, _, h, _ => by
    have h : _ = [] := h
    subst h
    rfl
  | (j, u) :: r, _, k, h, e => by
    obtain ⟨x, xr, rfl, h1, h2⟩ := h
    by_cases hk : j = k
    · unfold getT at e
      rw [List.find?_cons_of_pos (by simpa using hk)] at e
      cases e
    · rw [valV_neg (p := (j, x)) hk]
      unfold getT at e
      rw [List.find?_cons_of_neg (by simpa using hk)] at e
      exact IsD.getN h2 e
theorem IsD.anyK : ∀ {ps : List (Key × T)} {xs : List (Key × V)} {k : Key}, IsD K I ps xs → (ps.any fun kv => decide (kv.1 = k)) = (xs.any fun kv => decide (kv.1 = k))
  | [], _, _, h => by
    have h : _ = [] := h
    subst h
    rfl
  | (j, u) :: r, _, k, h => by
    obtain ⟨x, xr, rfl, h1, h2⟩ := h
    rw [List.any_cons, List.any_cons, IsD.anyK h2]
theorem IsD.mapK : ∀ {ps : List (Key × T)} {xs : List (Key × V)} {k : Key} {t : T} {v : V}, IsD K I ps xs → Is K I t v → IsD K I (ps.map fun kv => if kv.1 = k then (kv.1, t) else kv) (xs.map fun kv => if kv.1 = k then (kv.1, v) else kv)
  | [], _, _, _, _, h, _ => by
    have h : _ = [] := h
    subst h
    rfl
  | (j, u) :: r, _, k, t, v, h, i => by
    obtain ⟨x, xr, rfl, h1, h2⟩ := h
    have ih := IsD.mapK (k := k) h2 i
    rw [List.map_cons, List.map_cons]
    by_cases hk : j = k
    · rw [if_pos hk, if_pos hk]
      exact ⟨v, _, rfl, i, ih⟩
    · rw [if_neg hk, if_neg hk]
      exact ⟨x, _, rfl, h1, ih⟩
theorem IsD.snoc : ∀ {ps : List (Key × T)} {xs : List (Key × V)} {k : Key} {t : T} {v : V}, IsD K I ps xs → Is K I t v → IsD K I (ps ++ [(k, t)]) (xs ++ [(k, v)])
  | [], _, k, _, v, h, i => by
    have h : _ = [] := h
    subst h
    exact ⟨v, [], rfl, i, rfl⟩
  | (j, u) :: r, _, k, t, v, h, i => by
    obtain ⟨x, xr, rfl, h1, h2⟩ := h
    exact ⟨x, _, rfl, h1, IsD.snoc h2 i⟩
theorem IsD.put {ps : List (Key × T)} {xs : List (Key × V)} {k : Key} {t : T} {v : V} (h : IsD K I ps xs) (i : Is K I t v) : IsD K I (putT ps k t) (putK xs k v) := by
  unfold putT putK
  rw [h.anyK]
  split
  · exact h.mapK i
  · exact h.snoc i
theorem IsD.merge : ∀ {ms : List (Key × T)} {ys : List (Key × V)} {ps : List (Key × T)} {xs : List (Key × V)}, IsD K I ps xs → IsD K I ms ys → IsD K I (mergeT ps ms) (mergeK xs ys)
  | [], _, _, _, h, m => by
    have m : _ = [] := m
    subst m
    exact h
  | (j, u) :: r, _, ps, xs, h, m => by
    obtain ⟨y, yr, rfl, h1, h2⟩ := m
    exact IsD.merge (ps := putT ps j u) (xs := putK xs j y) (h.put h1) h2
end
def keyOf : T → Option Key
  | .int i => some (.inl i)
  | .str x => some (.inr x)
  | _ => none
theorem keyOf_is {K : PySem.W.Frag} {I : Hp} {t : T} {k : Key} {v : V} (h : keyOf t = some k) (i : Is K I t v) : v = kV k := by
  cases t with
  | int n => cases h; exact i
  | str x => cases h; exact i
  | _ => cases h
def keysOf : List T → Option (List Key)
  | [] => some []
  | t :: r => match keyOf t, keysOf r with
    | some k, some ks => some (k :: ks)
    | _, _ => none
theorem keysOf_is {K : PySem.W.Frag} {I : Hp} : ∀ {ts : List T} {ks : List Key} {xs : List V}, keysOf ts = some ks → IsL K I ts xs → xs = ks.map kV
  | [], _, _, h, i => by
    cases h
    exact i
  | t :: r, ks, _, h, i => by
    obtain ⟨x, xr, rfl, h1, h2⟩ := i
    have h : (match keyOf t, keysOf r with
      | some k, some ks => some (k :: ks)
      | _, _ => none) = some ks := h
    split at h
    · rename_i k ks' e1 e2
      cases h
      rw [keyOf_is e1 h1, keysOf_is e2 h2]
      rfl
    · cases h
theorem keysOf_len : ∀ {ts : List T} {ks : List Key}, keysOf ts = some ks → ks.length = ts.length
  | [], _, h => by
    cases h
    rfl
  | t :: r, ks, h => by
    have h : (match keyOf t, keysOf r with
      | some k, some ks => some (k :: ks)
      | _, _ => none) = some ks := h
    split at h
    · rename_i k ks' e1 e2
      cases h
      rw [List.length_cons, List.length_cons, keysOf_len e2]
    · cases h
section
variable {X : Cx} {Z : Res} {o i e f e1 e2 : Expr} {fo fi ff : EF Z} {fs : EFs Z} {p p2 pos pos2 apos cpos : Pos}
def dgetT : T → T → Option T
  | .dct ps, k => match keyOf k with
    | some k => getT ps k
    | none => none
  | _, _ => none
theorem ex_dget (hu : X.A.units + 1 < cLine) (ho : EX X Z o fo) (hi : EX X Z i fi) (hs : NoSl i := by exact fun _ _ => rfl) : EX X Z (.Subscript o i pos) (x2 dgetT fo fi) := by
  obtain ⟨to, po, h1⟩ := ho
  obtain ⟨ti, pi, h2⟩ := hi
  refine ⟨_, pe_dget hu po pi hs, fun G I H σ τ s a s' Q w h q => ?_⟩
  unfold x2 at h
  split at h
  · rename_i u s1 e1
    split at h
    · rename_i k s2 e2
      split at h
      · rename_i c ec
        cases h
        refine h1 _ _ _ _ _ _ _ _ _ w e1 fun I1 H1 v m1 w1 i1 => h2 _ _ _ _ _ _ _ _ _ w1 e2 fun I2 H2 y m2 w2 i2 => ?_
        unfold dgetT at ec
        split at ec
        · rename_i ps k'
          split at ec
          · rename_i kk ek
            obtain ⟨ad, xs, rfl, ha, hd⟩ := i1.mono m2
            obtain ⟨x, hx, ix⟩ := hd.get ec
            have ey := keyOf_is ek i2
            exact ⟨ad, x, rfl, .inl ⟨xs, kk, .inl (w2.sub _ _ ha), ey, hx.symm⟩, q I2 H2 x (m1.trans m2) w2 ix⟩
          · cases ec
        · cases ec
      · cases h
    · cases h
  · cases h
/-- d.get(k, x) -/
def xGet2 {Z : Res} (fo fi ff : EF Z) : EF Z := fun τ s => match fo τ s with
  | some (.dct ps, s1) => match fi τ s1 with
    | some (k, s2) => match ff τ s2 with
      | some (d, s3) => match keyOf k with
        | some k => some ((getT ps k).getD d, s3)
        | none => none
      | none => none
    | none => none
  | _ => none
theorem ex_get2 (hu : X.A.units + 1 < cLine) (ho : EX X Z o fo) (he : EX X Z e fi) (hf : EX X Z f ff) (m : M2 X o "get" apos e f cpos) : EX X Z (.Call (.Attribute o "get" apos) [e, f] [] cpos) (xGet2 fo fi ff) := by
  obtain ⟨to, po, h1⟩ := ho
  obtain ⟨ti, pi, h2⟩ := he
  obtain ⟨tf, pf, h3⟩ := hf
  refine ⟨_, pe_dget2 hu po pi pf m, fun G I H σ τ s a s' Q w h q => ?_⟩
  unfold xGet2 at h
  split at h
  · rename_i ps s1 e1
    split at h
    · rename_i k s2 e2
      split at h
      · rename_i d s3 e3
        split at h
        · rename_i kk ek
          cases h
          refine h1 _ _ _ _ _ _ _ _ _ w e1 fun I1 H1 v m1 w1 i1 => ?_
          obtain ⟨ad, xs, rfl, ha, hd⟩ := i1
          refine ⟨ad, rfl, .inl ⟨xs, .inl (w1.sub _ _ ha)⟩, h2 _ _ _ _ _ _ _ _ _ w1 e2 fun I2 H2 y m2 w2 i2 => h3 _ _ _ _ _ _ _ _ _ w2 e3 fun I3 H3 z m3 w3 i3 => ?_⟩
          have ey := keyOf_is ek (i2.mono m3)
          have hd3 := hd.mono (m2.trans m3)
          refine ⟨valV xs kk, .inl ⟨xs, kk, .inl (w3.sub _ _ ((m2.trans m3) _ _ ha)), ey, rfl⟩, q I3 H3 _ ((m1.trans m2).trans m3) w3 ?_⟩
          cases eg : getT ps kk with
          | none =>
            rw [hd3.getN eg]
            exact i3
          | some t =>
            obtain ⟨x, hx, ix⟩ := hd3.get eg
            rw [hx]
            exact ix
        · cases h
      · cases h
    · cases h
  · cases h
/-- dict(zip(a, b)) -/
def xDictZip {Z : Res} (fs : EFs Z) : EF Z := fun τ s => match fs τ s with
  | some ([.lst ks, .lst ts], s') => match keysOf ks with
    | some kk => if kk.length = ts.length then some (.dct (mergeT [] (kk.zip ts)), s') else none
    | none => none
  | _ => none
theorem en_dictZip (hc : X.calm = true) (hg : Gl X "dict") (hm : X.mg "dict" = none) (hg2 : Gl X "zip") (hm2 : X.mg "zip" = none) (ha : EL X Z [e1, e2] fs)
    (hs0 : starEach [.Call (.Name "zip" p2) [e1, e2] [] pos2] X.env = (false, eval (.Call (.Name "zip" p2) [e1, e2] [] pos2) X.env) :: starEach [] X.env := by rfl) (hp0 : (backTo pos (starEach [] X.env)).any (·.1) = false := by rfl)
    (hs : starEach [e1, e2] X.env = (false, eval e1 X.env) :: starEach [e2] X.env := by rfl) (hpl : (backTo pos2 (starEach [e2] X.env)).any (·.1) = false := by rfl) :
    EN X Z (.Call (.Name "dict" p) [.Call (.Name "zip" p2) [e1, e2] [] pos2] [] pos) (xDictZip fs) := by
  obtain ⟨t, pa, h1⟩ := ha
  refine ⟨_, pe_dictZip hc hg hm hg2 hm2 pa hs0 hp0 hs hpl, fun G I H σ τ s a s' Q w h q => ?_⟩
  unfold xDictZip at h
  split at h
  · rename_i ks ts s1 ea
    split at h
    · rename_i kk ek
      split at h
      · rename_i hl
        cases h
        refine h1 _ _ _ _ _ _ _ _ _ w ea fun I1 H1 vs m1 w1 i1 => ?_
        obtain ⟨x, y, rfl, ix, iy⟩ := i1.two
        obtain ⟨ax, xs, rfl, hax, ilx⟩ := ix
        obtain ⟨ay, ys, rfl, hay, ily⟩ := iy
        have ex := keysOf_is ek ilx
        subst ex
        refine ⟨ax, ay, kk, ys, rfl, SqL.of (w1.sub _ _ hax), SqL.of (w1.sub _ _ hay), by rw [ily.len]; exact hl, fun p hp => HandF.new w1 (fun I2 H2 p o m2 => q I2 H2 p o (m1.trans m2)) hp ?_⟩
        exact IsD.merge (show IsD X.K I1 [] [] from rfl) (zip_isD ily)
      · cases h
    · cases h
  · cases h
end
/-! ### sorted texts -/
def leS (x y : Str) : Bool := !sLt y x
def sortS (l : List Str) : List Str := l.mergeSort leS
theorem leS_iff {x y : Str} : leS x y = true ↔ x.cps.toList ≤ y.cps.toList := by
  unfold leS sLt
  rw [Bool.not_eq_true', decide_eq_false_iff_not]
  exact List.not_lt
theorem leS_trans (x y z : Str) (h : leS x y = true) (k : leS y z = true) : leS x z = true := leS_iff.mpr (List.le_trans (leS_iff.mp h) (leS_iff.mp k))
theorem leS_total (x y : Str) : (leS x y || leS y x) = true := by
  rw [Bool.or_eq_true]
  exact (List.le_total x.cps.toList y.cps.toList).imp leS_iff.mpr leS_iff.mpr
theorem leS_anti {x y : Str} (h : leS x y = true) (k : leS y x = true) : x = y := by
  have e := List.le_antisymm (leS_iff.mp h) (leS_iff.mp k)
  cases x
  cases y
  simpa using e
theorem rising_pair : ∀ (l : List Str) (p : Str), risingS p l = true → (∀ y ∈ l, leS p y = true) ∧ l.Pairwise fun a b => leS a b = true
  | [], _, _ => ⟨fun _ m => (by cases m), .nil⟩
  | x :: r, p, h => by
    have h : (!ltCps x.cps.toList p.cps.toList && risingS x r) = true := h
    rw [Bool.and_eq_true] at h
    obtain ⟨h1, h2⟩ := rising_pair r x h.2
    have hp : leS p x = true := by
      unfold leS sLt
      rw [← ltCps_eq]
      exact h.1
    refine ⟨fun y m => ?_, List.pairwise_cons.mpr ⟨h1, h2⟩⟩
    rcases List.mem_cons.mp m with rfl | m
    · exact hp
    · exact leS_trans _ _ _ hp (h1 y m)
theorem sortedS_pair : ∀ l : List Str, sortedS l = true → l.Pairwise fun a b => leS a b = true
  | [], _ => .nil
  | x :: r, h => by
    obtain ⟨h1, h2⟩ := rising_pair r x h
    exact List.pairwise_cons.mpr ⟨h1, h2⟩
theorem sortS_uniq {l m : List Str} (hp : m.Perm l) (h : sortedS m = true) : m = sortS l :=
  List.Perm.eq_of_pairwise (fun _ _ _ _ a b => leS_anti a b) (sortedS_pair m h) (List.pairwise_mergeSort leS_trans leS_total l) (hp.trans (List.mergeSort_perm l leS).symm)
end L2.TL
/-! TLy: sorted tuples that begin with different texts. -/
namespace L2.TL
open PySem PySem.Spec
open PyProof.Rows
section
variable {prog : Program} {w : World} {A : Around} {s : Shared}
theorem eqB_self {E : Value → Shared → Prop} {v : Value} {Q : Bool → Shared → Prop} (h : Q true s) : wpAny (model prog w) A (eqBool v v) Q E s := by
  unfold eqBool
  refine wpAny_holding ?_
  rw [if_pos (by simp)]
  refine wpAny_bind (wpAny_rule ?_)
  exact wpAny_pure h
theorem kat_self {b fin : Bool} {Q : Bool → Shared → Prop} (h : Q fin s) : ∀ (l : List Value) (i : Nat), PySem.W.KatLex prog w A b fin Q (l.zip l) i s
  | [], _ => PySem.W.kat_nil h
  | v :: r, i => PySem.W.kat_cons (eqB_self (PySem.W.kat_yes (kat_self h r (i + 1))))
/-- v is a tuple that begins with the text x -/
def TupS (h : Heap) (v : Value) (x : Str) : Prop := ∃ (a : Addr) (o : Obj) (t : Tok) (rest : List Value) (n : Nat), v = .ref a ∧ h.get? a = some o ∧ o.cls = .type "tuple" ∧ o.data = .seq (Value.str x t :: rest).toArray n
theorem TupS.keeps {h h' : Heap} {v : Value} {x : Str} (p : TupS h v x) (k : ∀ b o, h.get? b = some o → o.cls = .type "tuple" → h'.get? b = some o) : TupS h' v x := by
  obtain ⟨a, o, t, rest, n, e, ho, hc, hd⟩ := p
  exact ⟨a, o, t, rest, n, e, k _ _ ho hc, hc, hd⟩
theorem firsts_cmp {vs : List Value} {k : Value → Str} (hp : ∀ v ∈ vs, TupS s.heap v (k v)) (inj : ∀ v ∈ vs, ∀ u ∈ vs, k v = k u → v = u) : SrtO.Cmp prog w A s (tuples' true) (fun p => p.1 ∈ vs) (SrtO.lt2 fun v u => sLt (k v) (k u)) := by
  intro p q hm hm'
  have h1 := hp _ hm
  have h2 := hp _ hm'
  show wpAny (model prog w) A (keyLt' (tuples' true) p.1 q.1) (fun r s' => s' = s ∧ r = sLt (k p.1) (k q.1)) (fun _ _ => False) s
  by_cases e : k p.1 = k q.1
  · have ev := inj _ hm _ hm' e
    rw [← ev]
    obtain ⟨a, o, t, rest, n, e1, ho, hc, hd⟩ := h1
    have no : sLt (k p.1) (k p.1) = false := decide_eq_false (List.lt_irrefl _)
    rw [no, e1]
    refine PySem.W.kat_lt ho hd ho hd (kat_self ⟨rfl, ?_⟩ _ 0)
    exact decide_eq_false (Nat.lt_irrefl _)
  · obtain ⟨a, o, t, rest, n, e1, ho, hc, hd⟩ := h1
    obtain ⟨a', o', t', rest', n', e1', ho', hc', hd'⟩ := h2
    generalize k p.1 = x at *
    generalize k q.1 = y at *
    rw [e1, e1']
    refine PySem.W.kat_lt ho hd ho' hd' ?_
    show PySem.W.KatLex prog w A true _ _ ((Value.str x t, Value.str y t') :: (rest.zip rest')) 0 s
    refine PySem.W.kat_cons (wpAny_eqBool_str ?_)
    rw [decide_eq_false e]
    refine PySem.W.kat_no ?_
    exact oneLt_str ⟨rfl, rfl⟩
theorem firsts_tups {h : Heap} : ∀ {vs : List Value} {k : Value → Str}, (∀ v ∈ vs, TupS h v (k v)) → ∃ fs, PySem.W.KatTups h vs fs ∧ fs.length = vs.length ∧ ∀ f ∈ fs, ∃ x t, f = Value.str x t
  | [], _, _ => ⟨[], PySem.W.KatTups.nil, rfl, fun _ m => by cases m⟩
  | v :: vs, k, hp => by
    obtain ⟨fs, h1, h2, h3⟩ := firsts_tups (vs := vs) (k := k) fun u m => hp u (List.mem_cons_of_mem _ m)
    obtain ⟨a, o, t, rest, n, rfl, ho, hc, hd⟩ := hp v List.mem_cons_self
    refine ⟨Value.str (k (.ref a)) t :: fs, PySem.W.KatTups.cons ho hc hd (by simp) h1, by simp [h2], fun f m => ?_⟩
    rcases List.mem_cons.mp m with rfl | m
    · exact ⟨_, _, rfl⟩
    · exact h3 f m
theorem swo_sLt {α : Type} (k : α → Str) : SrtO.Swo fun v u => sLt (k v) (k u) := by
  refine ⟨fun x y h => ?_, fun x y z h1 h2 => ?_⟩
  · have h := of_decide_eq_true h
    exact decide_eq_false fun q => List.lt_irrefl _ (List.lt_trans h q)
  · have h1 := of_decide_eq_false h1
    have h2 := of_decide_eq_false h2
    exact decide_eq_false (List.not_lt.mpr (List.le_trans (List.not_lt.mp h1) (List.not_lt.mp h2)))
theorem sorted_firsts {E : Value → Shared → Prop} {l : Addr} {vs : List Value} {k : Value → Str} {Q : Value → Shared → Prop} (hl : s.heap.IsList l vs.toArray) (hz : vs.length ≤ sizeLine) (hp : ∀ v ∈ vs, TupS s.heap v (k v)) (inj : ∀ v ∈ vs, ∀ u ∈ vs, k v = k u → v = u)
    (h : ∀ (h' : Heap) (d : Addr) (out : List Value), SrtO.Srtd (fun v u => sLt (k v) (k u)) out → out.Perm vs → (∀ b o, s.heap.get? b = some o → h'.get? b = some o) → s.heap.objs.size ≤ d → (∃ n, h'.get? d = some (seqObj "list" out.toArray n)) → Q (.ref d) { s with heap := h' }) :
    wpAny (model prog w) A (call (.builtin "sorted") [.ref l]) Q E s := by
  refine SrtO.sorted_ord (swo_sLt k) hl hz (fun h2 h₁ a ha kk => ?_) fun out hs hb => ?_
  · intro h' keep
    have ka : ∀ o, h₁.get? a = some o → o.cls ≠ .type "tuple" := fun o e c => by
      rw [ha] at e
      cases e
      exact absurd (Value.type.inj c) (by decide)
    have hp' : ∀ v ∈ vs, TupS h' v (k v) := fun v m => (hp v m).keeps fun b o e c => keep b o (fun z => by
      subst z
      exact ka o (kk _ _ e).2 c) (kk _ _ e).2
    obtain ⟨fs, h1, h3, h4⟩ := firsts_tups hp'
    refine ⟨tuples' true, fun Q E hq => ?_, firsts_cmp (s := { s with heap := h' }) hp' inj⟩
    refine PySem.W.kat_kind (s := { s with heap := h' }) (T := .type "str") h1 (by omega) (fun f hm => ?_) (by rfl) ?_
    · obtain ⟨x, t, rfl⟩ := h4 f hm
      exact PySem.W.Looks.now
    · have e : (Value.type "str" != Value.type "tuple") = true := by first | decide +kernel | rfl | decide
      rw [e]
      exact hq
  · exact h _ _ out hs hb.perm (fun b o e => sortedAll_old e) (Nat.le_succ _) (sortedAll_at s.heap vs out.toArray)
end
end L2.TL
/-! TLz: sorted, for trees. -/
namespace L2.TL
open PySem PySem.Spec
open PyProof.Rows
theorem TupS.det {h : Heap} {v : Value} {x y : Str} (p : TupS h v x) (q : TupS h v y) : x = y := by
  obtain ⟨a, o, t, rest, n, rfl, ho, _, hd⟩ := p
  obtain ⟨a', o', t', rest', n', e, ho', _, hd'⟩ := q
  cases e
  rw [ho] at ho'
  cases ho'
  rw [hd] at hd'
  injection hd' with e1 _
  have : Value.str x t :: rest = Value.str y t' :: rest' := by simpa using congrArg Array.toList e1
  injection this with e2 _
  injection e2
open Classical in
noncomputable def tupKey (h : Heap) (v : Value) : Str := if q : ∃ x, TupS h v x then Classical.choose q else ""
theorem tupKey_eq {h : Heap} {v : Value} {x : Str} (p : TupS h v x) : tupKey h v = x := by
  unfold tupKey
  rw [dif_pos ⟨x, p⟩]
  exact (Classical.choose_spec (⟨x, p⟩ : ∃ x, TupS h v x)).det p
abbrev leK {α : Type} (a b : Str × α) : Bool := leS a.1 b.1
/-- sorted(xs), each item a tuple that begins with a text, the texts different -/
def rSortedF (K : PySem.W.Frag) : List V → Hp → VK → Prop := fun vs H Q => ∃ (a : Addr) (xs : List V) (ks : List Str), vs = [V.ref a] ∧ SqL K H a xs ∧ Paired (fun x k => ∃ t rest, x = V.ref t ∧ SqT K H t (V.str k :: rest)) xs ks ∧ ks.Nodup ∧
  ∀ (L : List (Str × V)) (p : Addr), L.Perm (ks.zip xs) → L.Pairwise (fun a b => leK a b = true) → H p = none → Q (.ref p) (upd H p (.lst (L.map (·.2))))
section
variable {X : Cx}
theorem tups_of {pins : List (Addr × Obj)} {s : Shared} {σ : St} {H : Hp} (J : Inv X pins σ H s) : ∀ {xs : List V} {ks : List Str} {us : List Value}, Paired (fun x k => ∃ t rest, x = V.ref t ∧ SqT X.K H t (V.str k :: rest)) xs ks → Vals xs us →
    us.map (fun u => (tupKey s.heap u, backV u)) = ks.zip xs ∧ (∀ u ∈ us, TupS s.heap u (tupKey s.heap u) ∧ tupKey s.heap u ∈ ks ∧ u = Value.ref (match u with | .ref a => a | _ => 0))
  | _, _, _, .nil, .nil => ⟨rfl, fun _ m => by cases m⟩
  | _, _, _, .cons (a := x) (b := k) h t, .cons (b := u) r rt => by
    obtain ⟨e1, e2⟩ := tups_of J t rt
    obtain ⟨ta, rest, rfl, hq⟩ := h
    cases r
    obtain ⟨its, rv, ⟨o, ho, hc, n, hd⟩, _⟩ := J.tuple hq
    obtain ⟨y, yr, rfl, ry⟩ : ∃ y yr, its = y :: yr ∧ RelV (V.str k) y := by
      cases rv with
      | cons r1 r2 => exact ⟨_, _, rfl, r1⟩
    obtain ⟨tk, rfl⟩ := ry
    have p : TupS s.heap (.ref ta) k := ⟨ta, o, tk, yr, n, rfl, ho, hc, hd⟩
    have ek := tupKey_eq p
    refine ⟨?_, fun u m => ?_⟩
    · rw [List.map_cons, e1, ek]
      rfl
    · rcases List.mem_cons.mp m with rfl | m
      · rw [ek]
        exact ⟨p, List.mem_cons_self, rfl⟩
      · obtain ⟨q1, q2, q3⟩ := e2 u m
        exact ⟨q1, List.mem_cons_of_mem _ q2, q3⟩
theorem zip_nodup {α : Type} : ∀ {ks : List Str} {xs : List α}, ks.Nodup → ∀ a ∈ ks.zip xs, ∀ b ∈ ks.zip xs, a.1 = b.1 → a = b
  | [], _, _, a, h, _, _, _ => by cases h
  | _ :: _, [], _, a, h, _, _, _ => by cases h
  | k :: ks, x :: xs, hn, a, ha, b, hb, e => by
    obtain ⟨h1, h2⟩ := List.nodup_cons.mp hn
    rw [List.zip_cons_cons] at ha hb
    rcases List.mem_cons.mp ha with rfl | ha
    · rcases List.mem_cons.mp hb with rfl | hb
      · rfl
      · exact absurd ((List.of_mem_zip hb).1) (by rw [← e]; exact h1)
    · rcases List.mem_cons.mp hb with rfl | hb
      · exact absurd ((List.of_mem_zip ha).1) (by rw [e]; exact h1)
      · exact zip_nodup h2 a ha b hb e
theorem cr_sortedF : CallR X (.builtin "sorted") (rSortedF X.K) := by
  intro pins s σ H vs us Q J r h
  obtain ⟨a, xs, ks, rfl, hs, hp, hn, q⟩ := h
  obtain ⟨its, rv, hl, hz⟩ := J.list hs
  rw [Vals.ref1 r]
  obtain ⟨e1, e2⟩ := tups_of J hp rv
  have allref : ∀ u ∈ its, ∃ a, u = Value.ref a := fun u m => ⟨_, (e2 u m).2.2⟩
  refine sorted_firsts (k := tupKey s.heap) hl.isList (by rw [← rv.length]; exact hz) (fun v m => (e2 v m).1) (fun v hv u hu e => ?_) fun h' d out h1 h2 kp hd hnn => ?_
  · have m1 : (tupKey s.heap v, backV v) ∈ ks.zip xs := by
      rw [← e1]
      exact List.mem_map.mpr ⟨v, hv, rfl⟩
    have m2 : (tupKey s.heap u, backV u) ∈ ks.zip xs := by
      rw [← e1]
      exact List.mem_map.mpr ⟨u, hu, rfl⟩
    have := congrArg Prod.snd (zip_nodup hn _ m1 _ m2 e)
    obtain ⟨x, rfl⟩ := allref v hv
    obtain ⟨y, rfl⟩ := allref u hu
    have this : V.ref x = V.ref y := this
    cases this
    rfl
  · obtain ⟨n, hnn⟩ := hnn
    have h3 : ∀ u ∈ out, ∃ a, u = Value.ref a := fun u hu => allref u (h2.mem_iff.mp hu)
    have fin := q (out.map fun u => (tupKey s.heap u, backV u)) d (by rw [← e1]; exact h2.map _) (List.pairwise_map.mpr (h1.imp fun {x y} z => by
      have z : sLt (tupKey s.heap y) (tupKey s.heap x) = false := z
      show (!sLt (tupKey s.heap y) (tupKey s.heap x)) = true
      rw [z]
      rfl)) (J.hok.fresh hd)
    rw [List.map_map] at fin
    refine ⟨.ref d, upd H d (.lst (out.map backV)), J.laid (t' := s.toks) kp hd ⟨?_, out, n, vals_back h3, hnn⟩, rfl, fin⟩
    rw [List.length_map, h2.length_eq, ← rv.length]
    exact hz
end
def fstT : T → Option Str
  | .tup (.str k :: _) => some k
  | _ => none
def fstsT : List T → Option (List Str)
  | [] => some []
  | t :: r => match fstT t, fstsT r with
    | some k, some ks => some (k :: ks)
    | _, _ => none
/-- trees sorted by the texts that they begin with -/
def sortF (ks : List Str) (ts : List T) : List T := ((ks.zip ts).mergeSort leK).map (·.2)
theorem fstT_is {K : PySem.W.Frag} {I : Hp} {t : T} {k : Str} {x : V} (h : fstT t = some k) (i : Is K I t x) : ∃ a rest, x = V.ref a ∧ SqT K I a (V.str k :: rest) := by
  unfold fstT at h
  split at h
  · rename_i k' r
    cases h
    obtain ⟨a, xs, rfl, hq, il⟩ := i
    obtain ⟨y, yr, rfl, hy, _⟩ := il
    obtain rfl : y = V.str k := hy
    exact ⟨a, yr, rfl, hq⟩
  · cases h
theorem fstsT_is {K : PySem.W.Frag} {I H : Hp} (sub : Same I H) : ∀ {ts : List T} {ks : List Str} {xs : List V}, fstsT ts = some ks → IsL K I ts xs → Paired (fun x k => ∃ t rest, x = V.ref t ∧ SqT K H t (V.str k :: rest)) xs ks
  | [], _, _, h, i => by
    cases h
    have i : _ = [] := i
    subst i
    exact .nil
  | t :: r, ks, _, h, i => by
    obtain ⟨x, xr, rfl, h1, h2⟩ := i
    have h : (match fstT t, fstsT r with
      | some k, some ks => some (k :: ks)
      | _, _ => none) = some ks := h
    split at h
    · rename_i k ks' e1 e2
      cases h
      obtain ⟨a, rest, rfl, hq⟩ := fstT_is e1 h1
      exact .cons ⟨a, rest, rfl, sqt_mono sub hq⟩ (fstsT_is sub e2 h2)
    · cases h
theorem leK_trans {α : Type} (a b c : Str × α) (h : leK a b = true) (k : leK b c = true) : leK a c = true := leS_trans _ _ _ h k
theorem leK_total {α : Type} (a b : Str × α) : (leK a b || leK b a) = true := leS_total _ _
theorem zip_isL {K : PySem.W.Frag} {I : Hp} : ∀ {ts : List T} {xs : List V}, IsL K I ts xs → ∀ z ∈ ts.zip xs, Is K I z.1 z.2
  | [], _, _, z, m => by cases m
  | t :: r, _, i, z, m => by
    obtain ⟨x, xr, rfl, h1, h2⟩ := i
    rw [List.zip_cons_cons] at m
    rcases List.mem_cons.mp m with rfl | m
    · exact h1
    · exact zip_isL h2 z m
theorem isL_map {K : PySem.W.Frag} {I : Hp} {α : Type} {f : α → T} {g : α → V} : ∀ {l : List α}, (∀ z ∈ l, Is K I (f z) (g z)) → IsL K I (l.map f) (l.map g)
  | [], _ => rfl
  | z :: r, h => ⟨_, _, rfl, h z List.mem_cons_self, isL_map fun y m => h y (List.mem_cons_of_mem _ m)⟩
theorem sortF_is {K : PySem.W.Frag} {I : Hp} {ks : List Str} {ts : List T} {xs : List V} {L : List (Str × V)} (hn : ks.Nodup) (il : IsL K I ts xs) (hp : L.Perm (ks.zip xs)) (hs : L.Pairwise fun a b => leK a b = true) (hl : ks.length = ts.length) : IsL K I (sortF ks ts) (L.map (·.2)) := by
  have hx : xs.length = ts.length := il.len
  generalize hZ : (ks.zip (ts.zip xs)).mergeSort leK = Z
  have zp : Z.Perm (ks.zip (ts.zip xs)) := by
    rw [← hZ]
    exact List.mergeSort_perm _ _
  have zs : Z.Pairwise fun a b => leK a b = true := by
    rw [← hZ]
    exact List.pairwise_mergeSort leK_trans leK_total _
  have m1 : (ks.zip (ts.zip xs)).map (fun z => (z.1, z.2.2)) = ks.zip xs := by
    have : (fun z : Str × (T × V) => (z.1, z.2.2)) = Prod.map id Prod.snd := by
      funext z
      rfl
    rw [this, ← List.zip_map_right, List.map_snd_zip (by omega)]
  have m2 : (ks.zip (ts.zip xs)).map (fun z => (z.1, z.2.1)) = ks.zip ts := by
    have : (fun z : Str × (T × V) => (z.1, z.2.1)) = Prod.map id Prod.fst := by
      funext z
      rfl
    rw [this, ← List.zip_map_right, List.map_fst_zip (by omega)]
  have eL : L = Z.map fun z => (z.1, z.2.2) := by
    refine List.Perm.eq_of_pairwise (le := fun a b => leK a b = true) (fun a b ha hb h1 h2 => ?_) hs (List.pairwise_map.mpr zs) (hp.trans (by rw [← m1]; exact (zp.map _).symm))
    have ha := hp.mem_iff.mp ha
    have hb : b ∈ ks.zip xs := by
      rw [← m1]
      exact (zp.map _).mem_iff.mp hb
    exact zip_nodup hn a ha b hb (leS_anti h1 h2)
  have eS : (ks.zip ts).mergeSort leK = Z.map fun z => (z.1, z.2.1) := by
    refine List.Perm.eq_of_pairwise (le := fun a b => leK a b = true) (fun a b ha hb h1 h2 => ?_) (List.pairwise_mergeSort leK_trans leK_total _) (List.pairwise_map.mpr zs) ((List.mergeSort_perm _ _).trans (by rw [← m2]; exact (zp.map _).symm))
    have ha := (List.mergeSort_perm (ks.zip ts) leK).mem_iff.mp ha
    have hb : b ∈ ks.zip ts := by
      rw [← m2]
      exact (zp.map _).mem_iff.mp hb
    exact zip_nodup hn a ha b hb (leS_anti h1 h2)
  unfold sortF
  rw [eS, eL, List.map_map, List.map_map]
  exact isL_map fun z m => zip_isL il z.2 ((List.of_mem_zip (a := z.1) (b := z.2) (zp.mem_iff.mp m)).2)
end L2.TL
/-! TLf: calls of sorted, list, dict; f-strings. -/
namespace L2.TL
open PySem PySem.Spec
open PyProof.Rows
def opOr (f g : List T → Option T) : List T → Option T := fun as => match f as with
  | some c => some c
  | none => g as
theorem Op1N.or {X : Cx} {r r' : List V → Hp → VK → Prop} {f g : List T → Option T} (h : Op1N X r f) (h' : Op1N X r' g) : Op1N X (fun xs H Q => r xs H Q ∨ r' xs H Q) (opOr f g) := by
  intro Z G I H σ τ s as c xs Q w il e q
  unfold opOr at e
  split at e
  · rename_i d ed
    cases e
    exact .inl (h Z G I H σ τ s as _ xs Q w il ed q)
  · exact .inr (h' Z G I H σ τ s as c xs Q w il e q)
theorem CallR.either {X : Cx} {v : Value} {r r' : List V → Hp → VK → Prop} (h : CallR X v r) (h' : CallR X v r') : CallR X v (fun xs H Q => r xs H Q ∨ r' xs H Q) :=
  fun pins s σ H xs us Q J rv q => q.elim (h pins s σ H xs us Q J rv) (h' pins s σ H xs us Q J rv)
section
variable {X : Cx}
/-! ### sorted -/
def sortST : List T → Option T
  | [.lst ts] => match strs? ts with
    | some ys => if ys.length < 64 then some (.lst ((sortS ys).map T.str)) else none
    | none => none
  | _ => none
theorem op_sortST : Op1N X (rSortedS X.K) sortST := by
  intro Z G I H σ τ s as c xs Q w il e q
  unfold sortST at e
  split at e
  · rename_i ts
    split at e
    · rename_i ys ey
      split at e
      · rename_i h64
        cases e
        obtain ⟨x, rfl, ix⟩ := il.one
        obtain ⟨a, vs, rfl, ha, iv⟩ := ix
        rw [strs?_eq ey] at iv
        have ev := iv.strs
        subst ev
        refine ⟨a, ys, rfl, SqL.of (w.sub _ _ ha), h64, fun zs p hp hs hn => ?_⟩
        rw [sortS_uniq hp hs]
        exact HandF.new w q hn (show Cn X.K I (.lst ((sortS ys).map T.str)) (.lst ((sortS ys).map V.str)) from IsL.ofStrs _)
      · cases e
    · cases e
  · cases e
def sortFT : List T → Option T
  | [.lst ts] => match fstsT ts with
    | some ks => if ks.Nodup ∧ ks.length = ts.length then some (.lst (sortF ks ts)) else none
    | none => none
  | _ => none
theorem op_sortFT : Op1N X (rSortedF X.K) sortFT := by
  intro Z G I H σ τ s as c xs Q w il e q
  unfold sortFT at e
  split at e
  · rename_i ts
    split at e
    · rename_i ks ek
      split at e
      · rename_i hn
        cases e
        obtain ⟨x, rfl, ix⟩ := il.one
        obtain ⟨a, vs, rfl, ha, iv⟩ := ix
        refine ⟨a, vs, ks, rfl, SqL.of (w.sub _ _ ha), fstsT_is w.sub ek iv, hn.1, fun L p hp hs hf => ?_⟩
        exact HandF.new w q hf (show Cn X.K I (.lst (sortF ks ts)) (.lst (L.map (·.2))) from sortF_is hn.1 iv hp hs hn.2)
      · cases e
    · cases e
  · cases e
def keyStrs : List (Key × T) → Option (List Str)
  | [] => some []
  | (.inr x, _) :: r => match keyStrs r with
    | some ys => some (x :: ys)
    | none => none
  | _ => none
theorem keyStrs_eq : ∀ {ps : List (Key × T)} {ys : List Str}, keyStrs ps = some ys → ps.map (·.1) = ys.map Sum.inr
  | [], _, h => by
    cases h
    rfl
  | (.inl i, _) :: r, _, h => by cases h
  | (.inr x, t) :: r, ys, h => by
    have h : (match keyStrs r with
      | some ys => some (x :: ys)
      | none => none) = some ys := h
    split at h
    · rename_i zs e
      cases h
      rw [List.map_cons, List.map_cons, keyStrs_eq e]
    · cases h
theorem isD_keys {K : PySem.W.Frag} {I : Hp} {ps : List (Key × T)} {xs : List (Key × V)} (h : IsD K I ps xs) : xs.map (·.1) = ps.map (·.1) := (isD_vals h).2
def sortDT : List T → Option T
  | [.dct ps] => match keyStrs ps with
    | some ys => if ys.length < 64 then some (.lst ((sortS ys).map T.str)) else none
    | none => none
  | _ => none
def rSortD : List V → Hp → VK → Prop := fun xs H Q => ∃ (a : Addr) (kvs : List (Key × V)) (ks : List Str), xs = [.ref a] ∧ Rd H a (.dK kvs) ∧ kvs.map (·.1) = ks.map Sum.inr ∧ ks.length < 64 ∧
  ∀ ys p, ys.Perm ks → sortedS ys = true → H p = none → Q (.ref p) (upd H p (.lst (ys.map V.str)))
theorem op_sortDT : Op1N X rSortD sortDT := by
  intro Z G I H σ τ s as c xs Q w il e q
  unfold sortDT at e
  split at e
  · rename_i ps
    split at e
    · rename_i ys ey
      split at e
      · rename_i h64
        cases e
        obtain ⟨x, rfl, ix⟩ := il.one
        obtain ⟨a, vs, rfl, ha, iv⟩ := ix
        refine ⟨a, vs, ys, rfl, .inl (w.sub _ _ ha), by rw [isD_keys iv, keyStrs_eq ey], h64, fun zs p hp hs hn => ?_⟩
        rw [sortS_uniq hp hs]
        exact HandF.new w q hn (show Cn X.K I (.lst ((sortS ys).map T.str)) (.lst ((sortS ys).map V.str)) from IsL.ofStrs _)
      · cases e
    · cases e
  · cases e
def sortedT : List T → Option T := opOr sortST (opOr sortFT sortDT)
def rSortAll (K : PySem.W.Frag) : List V → Hp → VK → Prop := fun xs H Q => rSortedS K xs H Q ∨ (rSortedF K xs H Q ∨ rSortD xs H Q)
theorem call_sorted (hc : X.calm = true) : CallR X (.builtin "sorted") (rSortAll X.K) := CallR.either cr_sortedS (CallR.either cr_sortedF (call_sortedD hc))
theorem op_sorted : Op1N X (rSortAll X.K) sortedT := Op1N.or op_sortST (Op1N.or op_sortFT op_sortDT)
/-! ### list(d) -/
def keyT : Key → T
  | .inl i => .int i
  | .inr x => .str x
theorem keyT_is {K : PySem.W.Frag} {I : Hp} : ∀ ks : List Key, IsL K I (ks.map keyT) (ks.map kV)
  | [] => IsL.nil
  | .inl i :: r => IsL.cons rfl (keyT_is r)
  | .inr x :: r => IsL.cons rfl (keyT_is r)
def listDT : List T → Option T
  | [.dct ps] => some (.lst ((ps.map (·.1)).map keyT))
  | _ => none
def rListDk : List V → Hp → VK → Prop := fun xs H Q => ∃ (a : Addr) (kvs : List (Key × V)), xs = [.ref a] ∧ Rd H a (.dK kvs) ∧ ∀ p, H p = none → Q (.ref p) (upd H p (.lst (kvs.map fun kv => kV kv.1)))
theorem op_listDT : Op1N X rListDk listDT := by
  intro Z G I H σ τ s as c xs Q w il e q
  unfold listDT at e
  split at e
  · rename_i ps
    cases e
    obtain ⟨x, rfl, ix⟩ := il.one
    obtain ⟨a, vs, rfl, ha, iv⟩ := ix
    refine ⟨a, vs, rfl, .inl (w.sub _ _ ha), fun p hn => ?_⟩
    have e : (vs.map fun kv => kV kv.1) = (ps.map (·.1)).map kV := by
      rw [← isD_keys iv, List.map_map]
      rfl
    rw [e]
    exact HandF.new w q hn (show Cn X.K I (.lst ((ps.map (·.1)).map keyT)) (.lst ((ps.map (·.1)).map kV)) from keyT_is _)
  · cases e
/-! ### dict(pairs) -/
def pairsT : List T → Option (List (Key × T))
  | [] => some []
  | .tup [k, t] :: r => match keyOf k, pairsT r with
    | some k, some ps => some ((k, t) :: ps)
    | _, _ => none
  | _ => none
theorem pairsT_is {K : PySem.W.Frag} {I H : Hp} (sub : Same I H) : ∀ {ts : List T} {ps : List (Key × T)} {xs : List V}, pairsT ts = some ps → IsL K I ts xs →
    ∃ (as : List Addr) (kvs : List (Key × V)), xs = as.map V.ref ∧ Paired (fun p kv => SqT K H p [kV kv.1, kv.2]) as kvs ∧ IsD K I ps kvs
  | [], _, _, h, i => by
    cases h
    have i : _ = [] := i
    subst i
    exact ⟨[], [], rfl, .nil, rfl⟩
  | t :: r, ps, _, h, i => by
    obtain ⟨x, xr, rfl, h1, h2⟩ := i
    unfold pairsT at h
    split at h
    · rename_i e0
      cases e0
    · rename_i k u r' e0
      cases e0
      split at h
      · rename_i kk ps' e1 e2
        cases h
        obtain ⟨as, kvs, rfl, hp, hd⟩ := pairsT_is sub e2 h2
        obtain ⟨a, ys, rfl, hq, il⟩ := h1
        obtain ⟨y1, y2, rfl, i1, i2⟩ := il.two
        have := keyOf_is e1 i1
        subst this
        exact ⟨a :: as, (kk, y2) :: kvs, rfl, .cons (sqt_mono sub hq) hp, ⟨y2, kvs, rfl, i2, hd⟩⟩
      · cases h
    · cases h
def dictPT : List T → Option T
  | [.lst ts] => match pairsT ts with
    | some ps => some (.dct (mergeT [] ps))
    | none => none
  | _ => none
def rDictP (K : PySem.W.Frag) : List V → Hp → VK → Prop := fun xs H Q => ∃ (a : Addr) (ps : List Addr) (kvs : List (Key × V)), xs = [.ref a] ∧ SqL K H a (ps.map V.ref) ∧ Paired (fun p kv => SqT K H p [kV kv.1, kv.2]) ps kvs ∧
  ∀ p, H p = none → Q (.ref p) (upd H p (.dK (mergeK [] kvs)))
theorem op_dictPT : Op1N X (rDictP X.K) dictPT := by
  intro Z G I H σ τ s as c xs Q w il e q
  unfold dictPT at e
  split at e
  · rename_i ts
    split at e
    · rename_i ps ep
      cases e
      obtain ⟨x, rfl, ix⟩ := il.one
      obtain ⟨a, vs, rfl, ha, iv⟩ := ix
      obtain ⟨as, kvs, rfl, hp, hd⟩ := pairsT_is w.sub ep iv
      exact ⟨a, as, kvs, rfl, SqL.of (w.sub _ _ ha), hp, fun p hn => HandF.new w q hn (show Cn X.K I (.dct (mergeT [] ps)) (.dK (mergeK [] kvs)) from IsD.merge (show IsD X.K I [] [] from rfl) hd)⟩
    · cases e
  · cases e
/-! ### f-strings -/
def catS : Str → List Str → Str
  | acc, [] => acc
  | acc, y :: r => catS (acc ++ y) r
def fitS : Str → List Str → Prop
  | _, [] => True
  | acc, y :: r => (acc ++ y).length ≤ sizeLine ∧ fitS (acc ++ y) r
theorem catS_len : ∀ (ys : List Str) (acc : Str), (catS acc ys).length = acc.length + (ys.map (·.length)).sum
  | [], acc => rfl
  | y :: r, acc => by
    show (catS (acc ++ y) r).length = _
    rw [catS_len r, Str.length_append, List.map_cons, List.sum_cons]
    omega
theorem fitS_of : ∀ (ys : List Str) (acc : Str), acc.length + (ys.map (·.length)).sum ≤ sizeLine → fitS acc ys
  | [], _, _ => trivial
  | y :: r, acc, h => by
    rw [List.map_cons, List.sum_cons] at h
    refine ⟨by rw [Str.length_append]; omega, fitS_of r _ ?_⟩
    rw [Str.length_append]
    omega
end
section
variable {X : Cx} {Z : Res} {e : Expr} {es : List Expr} {f : EF Z} {fs : EFs Z} {pos : Pos}
def fmtT : T → Option T
  | .str x => if x.length ≤ sizeLine then some (.str x) else none
  | _ => none
theorem ex_fmt (h : EX X Z e f) : EX X Z (.FormattedValue e (-1) none pos) (x1 fmtT f) := by
  obtain ⟨t, p, h1⟩ := h
  refine ⟨_, pe_fmt p, fun G I H σ τ s a s' Q w h q => ?_⟩
  unfold x1 at h
  split at h
  · rename_i b s1 eb
    split at h
    · rename_i c ec
      cases h
      unfold fmtT at ec
      split at ec
      · rename_i x
        split at ec
        · rename_i hz
          cases ec
          refine h1 _ _ _ _ _ _ _ _ _ w eb fun I1 H1 v m1 w1 i1 => .inl ⟨x, i1, hz, q I1 H1 _ m1 w1 rfl⟩
        · cases ec
      · cases ec
    · cases h
  · cases h
/-- the parts of an f-string -/
def EJ (X : Cx) (Z : Res) (es : List Expr) (f : EFs Z) : Prop :=
  ∃ ts, PJ X es ts ∧ ∀ acc G I H σ τ s as s' ys Q, Rep X.K Z G I H σ τ s → f τ s = some (as, s') → strs? as = some ys → fitS acc ys → (∀ I' H', Same I I' → Rep X.K Z G I' H' σ τ s' → Q (catS acc ys) H') → tJs ts acc σ H Q
theorem ej_nil : EJ X Z [] xNil := ⟨[], .nil, fun acc G I H σ τ s as s' ys Q w h hs ft q => by
  cases h
  cases hs
  exact q I H (Same.refl _) w⟩
theorem ej_cons (h : EX X Z e f) (hr : EJ X Z es fs) : EJ X Z (e :: es) (xCons f fs) := by
  obtain ⟨t, p, h1⟩ := h
  obtain ⟨ts, ps, h2⟩ := hr
  refine ⟨t :: ts, .cons p ps, fun acc G I H σ τ s as s' ys Q w h hs ft q => ?_⟩
  unfold xCons at h
  split at h
  · rename_i a s1 ea
    split at h
    · rename_i bs s2 eb
      cases h
      have hs0 := strs?_eq hs
      cases ys with
      | nil => cases hs0
      | cons y r =>
        rw [List.map_cons] at hs0
        obtain ⟨rfl, rfl⟩ := List.cons.inj hs0
        refine h1 _ _ _ _ _ _ _ _ _ w ea fun I1 H1 v m1 w1 i1 => ⟨y, i1, ft.1, ?_⟩
        exact h2 _ _ _ _ _ _ _ _ _ _ _ w1 eb (strs?_map r) ft.2 fun I2 H2 m2 w2 => q I2 H2 (m1.trans m2) w2
    · cases h
  · cases h
def xJoin {Z : Res} (fs : EFs Z) : EF Z := fun τ s => match fs τ s with
  | some (as, s') => match strs? as with
    | some ys => if (ys.map (·.length)).sum ≤ sizeLine then some (.str (catS Str.empty ys), s') else none
    | none => none
  | none => none
theorem ex_joined {v1 v2 : Expr} {rest : List Expr} (h : EJ X Z (v1 :: v2 :: rest) fs) : EX X Z (.JoinedStr (v1 :: v2 :: rest) pos) (xJoin fs) := by
  obtain ⟨ts, p, h1⟩ := h
  refine ⟨_, pe_joined p, fun G I H σ τ s a s' Q w h q => ?_⟩
  unfold xJoin at h
  split at h
  · rename_i as s1 ea
    split at h
    · rename_i ys ey
      split at h
      · rename_i hz
        cases h
        refine h1 _ _ _ _ _ _ _ _ _ _ _ w ea ey (fitS_of ys Str.empty ?_) fun I1 H1 m1 w1 => q I1 H1 _ m1 w1 rfl
        have : Str.empty.length = 0 := rfl
        omega
      · cases h
    · cases h
  · cases h
end
end L2.TL
/-! TLg: a dict of one pair; recursion's ground. -/
namespace L2.TL
open PySem PySem.Spec
open PyProof.Rows
section
variable {X : Cx} {Z : Res} {k v : Expr} {fk fv : EF Z} {pos : Pos}
/-- {k: v} -/
def xDict1 {Z : Res} (fk fv : EF Z) : EF Z := fun τ s => match fk τ s with
  | some (a, s1) => match fv τ s1 with
    | some (b, s2) => match keyOf a with
      | some k => some (.dct [(k, b)], s2)
      | none => none
    | none => none
  | none => none
theorem en_dict1 (hk : EX X Z k fk) (hv : EX X Z v fv) : EN X Z (.Dict [some k] [v] pos) (xDict1 fk fv) := by
  obtain ⟨tk, pk, h1⟩ := hk
  obtain ⟨tv, pv, h2⟩ := hv
  refine ⟨_, pe_disp (pps_cons pk pv pps_nil) rfl rfl (by intro z; cases z) (Nat.le_of_ble_eq_true rfl), fun G I H σ τ s a s' Q w h q => ?_⟩
  unfold xDict1 at h
  split at h
  · rename_i a1 s1 e1
    split at h
    · rename_i b1 s2 e2
      split at h
      · rename_i kk ek
        cases h
        intro D hD
        obtain ⟨w1, u⟩ := w.made (o := .dK []) (a := .dct []) hD (show IsD X.K I [] [] from rfl)
        refine h1 _ _ _ _ _ _ _ _ _ (w1.guard u) e1 fun I1 H1 x m1 wa i1 => h2 _ _ _ _ _ _ _ _ _ wa e2 fun I2 H2 y m2 wb i2 => ?_
        obtain ⟨nI, atD⟩ := wb.fr D (.dK []) upd_same
        have nF : ¬ Z.F D := u.nf
        have ex := keyOf_is ek (i1.mono m2)
        subst ex
        refine ⟨atD, [(kk, y)], rfl, (by decide : 1 ≤ 15), ?_⟩
        have em : mergeK [] [(kk, y)] = [(kk, y)] := rfl
        rw [em]
        have w3 := wb.reguard (o' := .dK [(kk, y)]) nF
        have w4 := w3.frame (G' := G) fun p o e => by
          rw [upd_ne (ne_of_none e u.ng)]
          exact e
        exact q I2 _ D (.dK [(kk, y)]) (m1.trans m2) w4 ⟨nI, u.ng, nF, upd_same, ⟨y, [], rfl, i2, rfl⟩, fun i t e => w.notOwned hD i t e⟩
      · cases h
    · cases h
  · cases h
end
section
variable {P : Program} {w : World} {K : PySem.W.Frag} {mg : Str → Option Value} {base : Heap} {Z : Res} {k : Nat} {f : Addr} {fd : FuncData} {N ps : List Str} {x qual : Str} {st : Stmt}
theorem spS_none {vs : List V} {H : Hp} {Q : VK} {E : XK} (h : spS K Z (fun _ _ => none) vs H Q E) : False := by
  obtain ⟨_, _, _, _, _, _, _, _, _, e, _⟩ := h
  cases e
theorem spP_none {vs : List V} {H : Hp} {Q : VK} {E : XK} (h : spP K (fun _ => none) vs H Q E) : False := by
  obtain ⟨_, _, _, _, _, _, _, _, _, e, _⟩ := h
  cases e
/-- a def of which nothing is promised -/
theorem fn_vac (F : Fun K x qual st f fd) (S : FnScope N ps (defScope st)) : FnOk P w K mg base CX0 (k + 1) f fd ps (spS K Z fun _ _ => none) :=
  F.ok S (fun _ _ _ _ h => (spS_none h).elim) fun _ _ _ _ _ _ _ _ _ h => (spS_none h).elim
theorem fn_vacP (F : Fun K x qual st f fd) (S : FnScope N ps (defScope st)) : FnOk P w K mg base CX0 (k + 1) f fd ps (spP K fun _ => none) :=
  F.ok S (fun _ _ _ _ h => (spP_none h).elim) fun _ _ _ _ _ _ _ _ _ h => (spP_none h).elim
end
end L2.TL
namespace L2.TL
open PySem PySem.Spec
open PyProof.Rows
theorem Own1.newO {K : PySem.W.Frag} {Z : Res} {G I H : Hp} {σ : St} {τ : List SV} {p q : Addr} {o u : HO} {a : T} (w : Own1 K Z G I H σ τ p o a) (hq : H q = none) : Own1 K Z G I (upd H q u) σ τ p o a :=
  ⟨w.ni, w.ng, w.nf, by rw [upd_ne (ne_of_none w.at_ hq)]; exact w.at_, w.cn, w.no⟩
section
variable {X : Cx} {Z : Res} {a b : Expr} {f g : EF Z} {pos : Pos}
/-- .. where a name is a cell: a pair is made, and taken apart -/
theorem sx_asgN {i j : Nat} {x y : Str} {k l : Bool} {px py pt : Pos} {kt k2 : Nat} {pt2 : Pos} (hc : X.calm = true) (hN : X.N.Nodup) (hi : X.N[i]? = some x := by rfl) (hj : X.N[j]? = some y := by rfl) (ha : EA X Z k a f) (hb : EA X Z l b g) (hij : i ≠ j := by decide)
    (hx : Loc X.env.scope x := by first | exact Or.inl rfl | exact Or.inr rfl) (hfx : X.fn x = true ∨ X.env.scope.names.lookup x = some .local := by first | exact .inl rfl | exact .inr rfl | assumption)
    (hy : Loc X.env.scope y := by first | exact Or.inl rfl | exact Or.inr rfl) (hfy : X.fn y = true ∨ X.env.scope.names.lookup y = some .local := by first | exact .inl rfl | exact .inr rfl | assumption)
    (h1s : starEach [a, b] X.env = (false, eval a X.env) :: starEach [b] X.env := by rfl) (h2s : starEach [b] X.env = (false, eval b X.env) :: starEach [] X.env := by rfl)
    (hn : (assignEach [.Name x px, .Name y py] X.env).length = 2 := by rfl) (hst : (assignEach [.Name x px, .Name y py] X.env).findIdx? (·.1) = none := by rfl)
    (hc1 : (assignEach [.Name x px, .Name y py] X.env).map (·.2) = assign (.Name x px) X.env :: (assignEach [.Name y py] X.env).map (·.2) := by rfl) (hc2 : (assignEach [.Name y py] X.env).map (·.2) = assign (.Name y py) X.env :: (assignEach [] X.env).map (·.2) := by rfl)
    (hs : swapsWithSole [.Tuple [.Name x px, .Name y py] kt pt] (.Tuple [a, b] k2 pt2) pos.line X.env = pure false := by rfl) (hw : swappedStores [.Tuple [.Name x px, .Name y py] kt pt] (.Tuple [a, b] k2 pt2) X.env = pure none := by rfl)
    (hm : (assignEach [.Tuple [.Name x px, .Name y py] kt pt] X.env).map (·.2) = [assign (.Tuple [.Name x px, .Name y py] kt pt) X.env] := by rfl) :
    SX X Z (.Assign [.Tuple [.Name x px, .Name y py] kt pt] (.Tuple [a, b] k2 pt2) pos) (sParN i j k l f g) := by
  have key : ∀ {ta tb : TE}, PE X a ta → PE X b tb → PS X (.Assign [.Tuple [.Name x px, .Name y py] kt pt] (.Tuple [a, b] k2 pt2) pos) (tAsg (tTup (tCons ta (tCons tb tNil))) (gTup X.K 2 (gCons (gName i) (gCons (gName j) gNil)))) :=
    fun pa pb => ps_asg (pe_tup (pa_cons pa (pa_cons pb pa_nil h2s) h1s)) (pg_tup hc (pgs_cons (pg_name hN hi hx hfx) (pgs_cons (pg_name hN hj hy hfy) pgs_nil hc2) hc1) hn hst) hs hw hm
  have two : ([V.non, V.non] : List V).length ≤ sizeLine := by
    rw [sizeLine_eq]
    show 2 ≤ 16777216
    decide
  cases k with
  | false =>
    obtain ⟨ta, pa, h1⟩ := ha
    cases l with
    | false =>
      obtain ⟨tb, pb, h2⟩ := hb
      refine ⟨_, key pa pb, fun G I H σ τ s o D w h q => ?_⟩
      unfold sParN at h
      split at h
      · rename_i u s1 e1
        split at h
        · rename_i v s2 e2
          split at h
          · rename_i hl
            cases h
            refine h1 _ _ _ _ _ _ _ _ _ w e1 fun I1 H1 y1 m1 w1 i1 => h2 _ _ _ _ _ _ _ _ _ w1 e2 fun I2 H2 y2 m2 w2 i2 => ⟨two, fun p hp => ?_⟩
            have w3 := w2.newO (o := .tup [y1, y2]) hp
            exact ⟨p, _, rfl, SqT.of upd_same, rfl, y1, _, rfl, y2, _, rfl, rfl, q I2 _ _ (m1.trans m2) ((w3.setIm hl.1 (i1.mono m2)).setIm (by rw [List.length_set]; exact hl.2) i2)⟩
          · cases h
        · cases h
      · cases h
    | true =>
      obtain ⟨tb, pb, h2⟩ := hb
      refine ⟨_, key pa pb, fun G I H σ τ s o D w h q => ?_⟩
      unfold sParN at h
      split at h
      · rename_i u s1 e1
        split at h
        · rename_i v s2 e2
          split at h
          · rename_i hl
            cases h
            refine h1 _ _ _ _ _ _ _ _ _ w e1 fun I1 H1 y1 m1 w1 i1 => h2 _ _ _ _ _ _ _ _ _ w1 e2 fun I2 H2 p2 o2 m2 w2 u2 => ⟨two, fun p hp => ?_⟩
            have w3 := w2.newO (o := .tup [y1, .ref p2]) hp
            exact ⟨p, _, rfl, SqT.of upd_same, rfl, y1, _, rfl, _, _, rfl, rfl, q I2 _ _ (m1.trans m2) ((w3.setIm hl.1 (i1.mono m2)).setOw (by rw [List.length_set]; exact hl.2) ((u2.newO hp).setIm (s := s2) w3.len))⟩
          · cases h
        · cases h
      · cases h
  | true =>
    obtain ⟨ta, pa, h1⟩ := ha
    cases l with
    | false =>
      obtain ⟨tb, pb, h2⟩ := hb
      refine ⟨_, key pa pb, fun G I H σ τ s o D w h q => ?_⟩
      unfold sParN at h
      split at h
      · rename_i u s1 e1
        split at h
        · rename_i v s2 e2
          split at h
          · rename_i hl
            cases h
            refine h1 _ _ _ _ _ _ _ _ _ w e1 fun I1 H1 p1 o1 m1 w1 u1 => h2 _ _ _ _ _ _ _ _ _ (w1.guard u1) e2 fun I2 H2 y2 m2 w2 i2 => ⟨two, fun p hp => ?_⟩
            obtain ⟨w3, u3⟩ := u1.later m2 w2
            have w4 := w3.newO (o := .tup [.ref p1, y2]) hp
            exact ⟨p, _, rfl, SqT.of upd_same, rfl, _, _, rfl, y2, _, rfl, rfl, q I2 _ _ (m1.trans m2) ((w4.setOw hl.1 (u3.newO hp)).setIm (by rw [List.length_set]; exact hl.2) i2)⟩
          · cases h
        · cases h
      · cases h
    | true =>
      obtain ⟨tb, pb, h2⟩ := hb
      refine ⟨_, key pa pb, fun G I H σ τ s o D w h q => ?_⟩
      unfold sParN at h
      split at h
      · rename_i u s1 e1
        split at h
        · rename_i v s2 e2
          split at h
          · rename_i hl
            cases h
            refine h1 _ _ _ _ _ _ _ _ _ w e1 fun I1 H1 p1 o1 m1 w1 u1 => h2 _ _ _ _ _ _ _ _ _ (w1.guard u1) e2 fun I2 H2 p2 o2 m2 w2 u2 => ⟨two, fun p hp => ?_⟩
            obtain ⟨w3, u3⟩ := u1.later m2 w2
            have ne : p1 ≠ p2 := fun z => by
              have := u2.ng
              rw [← z, upd_same] at this
              cases this
            have u4 : Own1 X.K Z G I2 H2 σ τ p2 o2 v := ⟨u2.ni, by have := u2.ng; rw [upd_ne ne.symm] at this; exact this, u2.nf, u2.at_, u2.cn, u2.no⟩
            have w4 := w3.newO (o := .tup [.ref p1, .ref p2]) hp
            exact ⟨p, _, rfl, SqT.of upd_same, rfl, _, _, rfl, _, _, rfl, rfl, q I2 _ _ (m1.trans m2) ((w4.setOw hl.1 (u3.newO hp)).setOw (by rw [List.length_set]; exact hl.2) ((u4.newO hp).setOw (s := s2) w4.len hl.1 ne))⟩
          · cases h
        · cases h
      · cases h
end
end L2.TL
namespace L2.TL
open PySem PySem.Spec
open PyProof.Rows
section
variable {X : Cx} {Z : Res} {k : Nat} {f : Addr} {fd : FuncData} {fp : FP} {pos : Pos}
/-- a call without arguments -/
theorem ex_callP0 {x : Str} {p : Pos} (F : FnOk X.prog X.w X.K X.mg X.base CX0 k f fd [] (spP X.K fp)) (hr : Room k X.A) (hg : Gl X x) (hm : X.mg x = some (.ref f)) (hk : PySem.W.keepIn X.K (.ref f) = true) (hb : Binds X.K fd [] [])
    (hdb : (x == ("__debug__" : Str)) = false := by decide) : EX X Z (.Call (.Name x p) [] [] pos) (xCallP fp xNil) := by
  refine ⟨_, pe_call0 (E := fun _ _ _ => False) F hr hg hm hk hb .nil pass0 hdb, fun G I H σ τ s a s' Q w h q => ?_⟩
  unfold xCallP xNil at h
  dsimp only at h
  split at h
  · rename_i b eb
    cases h
    exact sp_useP (E := fun _ _ _ => False) w IsL.nil eb fun I' H' v m => q I' H' v m
  · cases h
end
end L2.TL
/-! TLn: reckoning with what slots own. -/
namespace L2.TL
open PySem PySem.Spec
open PyProof.Rows
section
variable {Z : Res} {f : EF Z} {fb : EFb Z} {g : EFo Z} {gs : EFos Z} {τ τ1 : List SV} {s s1 : Z.S} {a : T} {ts us : List T} {i : Nat}
theorem ev_pure (h : f τ s = some (a, s1)) : oPure f τ s = some (a, τ, s1) := by
  unfold oPure
  simp only [h]
theorem ev_pop (h : τ[i]? = some (.ow (.lst ts))) (h2 : ts.getLast? = some a) : oPop (Z := Z) i τ s = some (a, τ.set i (.ow (.lst ts.dropLast)), s) := by
  unfold oPop
  simp only [h, h2]
theorem ev_popAt {k : Nat} (h : τ[i]? = some (.ow (.lst ts))) (hf : f τ s = some (.int k, s1)) (h2 : ts[k]? = some a) (hk : k < 2 ^ 63) : oPopAt i f τ s = some (a, τ.set i (.ow (.lst (ts.eraseIdx k))), s1) := by
  unfold oPopAt
  simp only [h, hf]
  have e : ((k : Int)).toNat = k := Int.toNat_natCast k
  rw [e]
  simp only [h2]
  exact if_pos ⟨by omega, by omega⟩
theorem ev_app {ts0 : List T} (h : τ[i]? = some (.ow (.lst ts0))) (hg : g τ s = some (a, τ1, s1)) (h1 : τ1[i]? = some (.ow (.lst ts))) (hz : ts.length < sizeLine) : oApp i g τ s = some (.non, τ1.set i (.ow (.lst (ts ++ [a]))), s1) := by
  unfold oApp
  simp only [h, hg, h1]
  exact if_pos hz
theorem ev_extT (h : τ[i]? = some (.ow (.lst ts))) (hf : f τ s = some (.tup us, s1)) (hz : ts.length + us.length ≤ sizeLine) : oExt i f τ s = some (.non, τ.set i (.ow (.lst (ts ++ us))), s1) := by
  unfold oExt
  simp only [h, hf]
  exact if_pos hz
theorem ev_extL (h : τ[i]? = some (.ow (.lst ts))) (hf : f τ s = some (.lst us, s1)) (hz : ts.length + us.length ≤ sizeLine) : oExt i f τ s = some (.non, τ.set i (.ow (.lst (ts ++ us))), s1) := by
  unfold oExt
  simp only [h, hf]
  exact if_pos hz
theorem ev_setXO (h : g τ s = some (a, τ1, s1)) (hi : i < τ1.length) : sSetXO i g τ s = some (.nx (τ1.set i (.im a)) s1) := by
  unfold sSetXO
  simp only [h]
  exact if_pos hi
theorem ev_dropO (h : g τ s = some (a, τ1, s1)) : sDropO g τ s = some (.nx τ1 s1) := by
  unfold sDropO
  simp only [h]
theorem ev_setO (h : f τ s = some (a, s1)) (hi : i < τ.length) : sSetO i f τ s = some (.nx (τ.set i (.ow a)) s1) := by
  unfold sSetO
  simp only [h]
  exact if_pos hi
theorem ev_freeze {sf : SF Z} {o : Out Z.S} (h : τ[i]? = some (.ow a)) (h2 : sf (τ.set i (.im a)) s = some o) : sFreeze i sf τ s = some o := by
  unfold sFreeze
  simp only [h]
  exact h2
theorem ev_bread {b : Bool} (h : τ[i]? = some (.ow a)) (h2 : fb (readT τ i a) s = some (b, s1)) : bRead i fb τ s = some (b, s1) := by
  unfold bRead
  simp only [h]
  exact h2
theorem ev_read {b : T} (h : τ[i]? = some (.ow a)) (h2 : f (readT τ i a) s = some (b, s1)) (hp : plainS b = true) : xRead i f τ s = some (b, s1) := by
  unfold xRead
  simp only [h, h2]
  exact if_pos hp
theorem ev_while {c : EFb Z} {gb : SF Z} {n : Nat} {o : Out Z.S} (h : sWhileN c gb n τ s = some o) : sWhile c gb τ s = some o := by
  have hx : ∃ n o, sWhileN c gb n τ s = some o := ⟨n, o, h⟩
  unfold sWhile
  rw [dif_pos hx]
  obtain ⟨o', e⟩ := hx.choose_spec
  rcases Nat.le_total hx.choose n with q | q
  · have := sWhileN_le q e
    rw [h] at this
    rw [e, ← this]
  · exact sWhileN_le q h
theorem ev_wN_end {c : EFb Z} {gb : SF Z} {n : Nat} (h : c τ s = some (false, s1)) : sWhileN c gb (n + 1) τ s = some (.nx τ s1) := by
  unfold sWhileN
  simp only [h]
theorem ev_wN_step {c : EFb Z} {gb : SF Z} {n : Nat} {τ2 : List SV} {s2 : Z.S} {o : Out Z.S} (h : c τ s = some (true, s1)) (h2 : gb τ s1 = some (.nx τ2 s2)) (h3 : sWhileN c gb n τ2 s2 = some o) : sWhileN c gb (n + 1) τ s = some o := by
  unfold sWhileN
  simp only [h, h2]
  exact h3
end
end L2.TL
/-! TLk: that a reckoning comes to something, whatever is drawn (from K02e, K02g, K02h). -/
namespace L2.TL
open PySem PySem.Spec
open PyProof.Rows
def We {S α : Type} (r : Option (α × S)) (P : α → S → Prop) : Prop := ∃ a s, r = some (a, s) ∧ P a s
section
variable {Z : Res} {f fa fb : EF Z} {fs : EFs Z} {τ : List SV} {s : Z.S}
theorem we_imp {S α : Type} {r : Option (α × S)} {P Q : α → S → Prop} (h : We r P) (k : ∀ a s, P a s → Q a s) : We r Q := by
  obtain ⟨a, s, e, p⟩ := h
  exact ⟨a, s, e, k a s p⟩
theorem we_name {i : Nat} {t : T} {P : T → Z.S → Prop} (h : τ[i]? = some (.im t)) (p : P t s) : We (xName (Z := Z) i τ s) P := ⟨t, s, ev_name h, p⟩
theorem we_c {t : T} {P : T → Z.S → Prop} (p : P t s) : We (xC (Z := Z) t τ s) P := ⟨t, s, rfl, p⟩
theorem we_nil {P : List T → Z.S → Prop} (p : P [] s) : We (xNil (Z := Z) τ s) P := ⟨[], s, rfl, p⟩
theorem we_cons {P : List T → Z.S → Prop} (h : We (f τ s) fun a s1 => We (fs τ s1) fun as s2 => P (a :: as) s2) : We (xCons f fs τ s) P := by
  obtain ⟨a, s1, e1, as, s2, e2, p⟩ := h
  exact ⟨_, _, ev_cons e1 e2, p⟩
theorem we_x2 {op : T → T → Option T} {P : T → Z.S → Prop} (h : We (fa τ s) fun a s1 => We (fb τ s1) fun b s2 => ∃ c, op a b = some c ∧ P c s2) : We (x2 op fa fb τ s) P := by
  obtain ⟨a, s1, e1, b, s2, e2, c, e3, p⟩ := h
  exact ⟨_, _, ev_x2 e1 e2 e3, p⟩
theorem we_call {op : List T → Option T} {P : T → Z.S → Prop} (h : We (fs τ s) fun as s1 => ∃ c, op as = some c ∧ P c s1) : We (xCall op fs τ s) P := by
  obtain ⟨a, s1, e1, c, e3, p⟩ := h
  exact ⟨_, _, ev_call e1 e3, p⟩
theorem we_callP {fp : FP} {P : T → Z.S → Prop} (h : We (fs τ s) fun as s1 => ∃ c, fp as = some c ∧ P c s1) : We (xCallP fp fs τ s) P := by
  obtain ⟨a, s1, e1, c, e3, p⟩ := h
  exact ⟨_, _, ev_callP e1 e3, p⟩
theorem we_callF {ff : FF Z} {P : T → Z.S → Prop} (h : We (fs τ s) fun as s1 => We (ff as s1) P) : We (xCallF ff fs τ s) P := by
  obtain ⟨a, s1, e1, c, s2, e3, p⟩ := h
  exact ⟨_, _, ev_callF e1 e3, p⟩
theorem we_tup {P : T → Z.S → Prop} (h : We (fs τ s) fun as s1 => as.length ≤ 1000 ∧ P (.tup as) s1) : We (xTup fs τ s) P := by
  obtain ⟨a, s1, e1, z, p⟩ := h
  exact ⟨_, _, ev_tup e1 (Nat.le_trans z (by rw [sizeLine_eq]; decide)), p⟩
theorem we_lst {P : T → Z.S → Prop} (h : We (fs τ s) fun as s1 => as.length ≤ 1000 ∧ P (.lst as) s1) : We (xLst fs τ s) P := by
  obtain ⟨a, s1, e1, z, p⟩ := h
  exact ⟨_, _, ev_lst e1 (Nat.le_trans z (by rw [sizeLine_eq]; decide)), p⟩
theorem we_meth {ty : String} {op : T → List T → Option T} {P : T → Z.S → Prop} (h : We (f τ s) fun a s1 => tyName a = some ty ∧ We (fs τ s1) fun as s2 => ∃ c, op a as = some c ∧ P c s2) : We (xMeth ty op f fs τ s) P := by
  obtain ⟨a, s1, e1, ht, as, s2, e2, c, e3, p⟩ := h
  exact ⟨_, _, ev_meth e1 ht e2 e3, p⟩
/-- statements that go on -/
def Wn {Z : Res} (r : Option (Out Z.S)) (P : List SV → Z.S → Prop) : Prop := ∃ τ s, r = some (.nx τ s) ∧ P τ s
theorem wn_set {i : Nat} {P : List SV → Z.S → Prop} (h : We (f τ s) fun a s1 => i < τ.length ∧ P (τ.set i (.im a)) s1) : Wn (sSet i f τ s) P := by
  obtain ⟨a, s1, e, hi, p⟩ := h
  exact ⟨_, _, ev_set e hi, p⟩
theorem wn_seq {g g' : SF Z} {P : List SV → Z.S → Prop} (h : Wn (g τ s) fun τ1 s1 => Wn (g' τ1 s1) P) : Wn (sSeq g g' τ s) P := by
  obtain ⟨τ1, s1, e, τ2, s2, e2, p⟩ := h
  exact ⟨_, _, ev_seq e e2, p⟩
end
theorem of_we {S α : Type} {r : Option (α × S)} {P : α → S → Prop} (h : We r P) : ∃ a s, r = some (a, s) ∧ P a s := h
def Wr {Z : Res} (r : Option (Out Z.S)) (P : T → Z.S → Prop) : Prop := ∃ a s, r = some (.rt a s) ∧ P a s
section
variable {Z : Res} {f fa fb : EF Z} {fs : EFs Z} {τ : List SV} {s : Z.S}
theorem we_ff {g : SF Z} {n m : Nat} {ts : List T} {P : T → Z.S → Prop} (hn : ts.length = n) (h : Wr (g (ts.map SV.im ++ List.replicate (m - n) SV.un) s) P) : We (bodyF n m g ts s) P := by
  obtain ⟨a, s1, e, p⟩ := h
  exact ⟨a, s1, ev_ff hn e, p⟩
theorem wr_seq {g g' : SF Z} {P : T → Z.S → Prop} (h : Wn (g τ s) fun τ1 s1 => Wr (g' τ1 s1) P) : Wr (sSeq g g' τ s) P := by
  obtain ⟨τ1, s1, e, a, s2, e2, p⟩ := h
  exact ⟨_, _, ev_seq e e2, p⟩
theorem wr_ret {P : T → Z.S → Prop} (h : We (f τ s) P) : Wr (sRet f τ s) P := by
  obtain ⟨a, s1, e, p⟩ := h
  exact ⟨_, _, ev_ret e, p⟩
theorem wn_asg {gt : GF} {P : List SV → Z.S → Prop} (h : We (f τ s) fun a s1 => ∃ τ', gt a τ = some τ' ∧ P τ' s1) : Wn (sAsg f gt τ s) P := by
  obtain ⟨a, s1, e, τ', e2, p⟩ := h
  exact ⟨_, _, ev_asg e e2, p⟩
theorem wn_imp {r : Option (Out Z.S)} {P Q : List SV → Z.S → Prop} (h : Wn r P) (k : ∀ τ s, P τ s → Q τ s) : Wn r Q := by
  obtain ⟨τ, s, e, p⟩ := h
  exact ⟨τ, s, e, k τ s p⟩
theorem wn_if {ft : EFb Z} {g g' : SF Z} {P : List SV → Z.S → Prop} (b : Bool) (h : ft τ s = some (b, s)) (ht : b = true → Wn (g τ s) P) (hf : b = false → Wn (g' τ s) P) : Wn (sIf ft g g' τ s) P := by
  cases b with
  | true =>
    obtain ⟨τ1, s1, e, p⟩ := ht rfl
    exact ⟨τ1, s1, ev_if_t h e, p⟩
  | false =>
    obtain ⟨τ1, s1, e, p⟩ := hf rfl
    exact ⟨τ1, s1, ev_if_f h e, p⟩
theorem wn_skip {P : List SV → Z.S → Prop} (p : P τ s) : Wn (sSkip (Z := Z) τ s) P := ⟨τ, s, rfl, p⟩
end
theorem eq_int (neg : Bool) (x y : Int) : eqX neg (.int x) (.int y) = some (.bl (if neg then !decide (x = y) else decide (x = y))) := by
  unfold eqX orT eqS
  simp only [scV, scal, if_true]
  by_cases h : x = y
  · subst h
    simp
  · have : ¬ V.int x = V.int y := fun e => h (by injection e)
    simp [h]
theorem sFor_inv {Z : Res} {gt : GF} {gb : SF Z} (Inv : List SV → Prop) : ∀ (items : List T), (∀ a ∈ items, ∀ τ s, Inv τ → ∃ τ1, gt a τ = some τ1 ∧ Wn (gb τ1 s) fun τ2 _ => Inv τ2) → ∀ τ s, Inv τ → Wn (sFor gt gb items τ s) fun τ2 _ => Inv τ2
  | [], _, τ, s, i => ⟨τ, s, rfl, i⟩
  | a :: r, h, τ, s, i => by
    obtain ⟨τ1, e1, τ2, s2, e2, i2⟩ := h a (by simp) τ s i
    obtain ⟨τ3, s3, e3, i3⟩ := sFor_inv Inv r (fun b hb => h b (by simp [hb])) τ2 s2 i2
    refine ⟨τ3, s3, ?_, i3⟩
    unfold sFor
    simp only [e1, e2]
    exact e3
end L2.TL
namespace L2.TL
open PySem PySem.Spec
open PyProof.Rows
def topS (i : Nat) : Stmt := PySem.Challenge.pw_circlekeep_k03_pieces_texts_names.main.body.getD i (.Pass ⟨0, 0, 0, 0⟩)
abbrev sDeck : Stmt := topS 13
abbrev sDraw : Stmt := topS 14
abbrev dp : Int := 60107
abbrev dq : Int := 41
structure TxtB (mg : Str → Option Value) : Prop where
  int : mg "int" = none
  list : mg "list" = none
section
variable {P : Program} {w : World} {K : PySem.W.Frag} {mg : Str → Option Value} {base : Heap}
theorem scDraw : FnScope ["_law_deck_here", "_law_many", "_law_figure", "_law_cell"] ["_law_deck_here", "_law_many"] (defScope sDraw) := ⟨rfl, rfl, rfl, by decide +kernel, rfl, by decide +kernel, by decide +kernel⟩
theorem ok_draw {f : Addr} {fd : FuncData} (F : Fun K "_law_draw" "_law_draw" sDraw f fd) (B : TxtB mg) (d c : Addr) : FnOk P w K mg base CX0 1 f fd ["_law_deck_here", "_law_many"] (spS K (deckZ d c) (drawT 60107 41 d c)) := by
  refine F.ok scDraw (fun vs H Q E h => sp_len (n := 2) (fun ts s r h => ?_) h) fun cdv A out z H vs Q E hr h => ?_
  · unfold drawT at h
    split at h
    · rfl
    · cases h
  · have hu := hu_of hr
    have hu64 := hr.units
    obtain ⟨I, ts, s, a, s', sub, rf, r, il, hf, q⟩ := h
    unfold drawT at hf
    split at hf
    case h_2 => cases hf
    rename_i e n
    split at hf
    case isFalse => cases hf
    rename_i hc
    obtain ⟨rfl, n0, n1⟩ := hc
    cases hf
    obtain ⟨x, y, rfl, ix, iy⟩ := il.two
    have ix : x = _ := ix
    have iy : y = _ := iy
    subst ix iy
    have h1 : H e = some (.dK (deckK c s.blend s.draws)) := r.1
    have h2 : H c = some (.lst (s.cells.map V.int)) := r.2
    have nec : c ≠ e := ne_of h2 h1 (by intro z; cases z)
    have h1' : ∀ m, upd H e (.dK (deckK c s.blend m)) e = some (.dK (deckK c s.blend m)) := fun _ => upd_same
    -- the last three rows, from any figure
    obtain ⟨t3, p3, tail⟩ : ∃ t3, PSs (cxOf CX0 P w K mg base ["_law_deck_here", "_law_many", "_law_figure", "_law_cell"] "_law_draw" (defScope sDraw) f cdv A out z H E).nox ((defBody sDraw).drop 3) t3 ∧
        ∀ (fig : Int) (v3 : Option V) (H' : Hp) (s2 : Deck), s2.draws = s.draws + 1 → DeckAt e c s2 H' → (∀ p o, p ≠ e → p ≠ c → H p = some o → H' p = some o) →
        drawF 60107 41 s n = ((((((fig * 40692 + 41) % 2147483647) * ((fig * 40692 + 41) % 2147483647) + 52711 * (s.draws + 1) + 41) % 2147483587 * 39373) % 2147483563 / 64) % n, s2) →
        t3 { nx := fun _ H' => Q .non H', rt := Q } [some (V.ref e), some (V.int n), some (V.int fig), v3] H' := by
      refine ⟨_, pss_cons (ps_set (i := 2) scDraw.nd rfl (.inl rfl) (pe_op op_mod (pe_callTy call_int1 (by rfl) B.int (by decide +kernel) (pa_cons (pe_op op_add (pe_op op_mul (pv 2) pe_int) pe_int) pa_nil)) pe_int))
        (pss_cons (ps_set (i := 2) scDraw.nd rfl (.inl rfl) (pe_op op_mod (pe_callTy call_int1 (by rfl) B.int (by decide +kernel) (pa_cons (pe_op op_add (pe_op op_add (pe_op op_mul (pv 2) (pv 2)) (pe_op op_mul pe_int (pe_dget hu (pv 0) pe_str (fun _ _ => rfl)))) pe_int) pa_nil)) pe_int))
        (pss_one (ps_ret (pe_op op_mod (pe_op op_fdiv (pe_op op_mod (pe_callTy call_int1 (by rfl) B.int (by decide +kernel) (pa_cons (pe_op op_mul (pv 2) pe_int) pa_nil)) pe_int) pe_int) (pv 1))))), ?_⟩
      intro fig v3 H' s2 hd ra st eq
      have g1 : H' e = some (.dK (deckK c s2.blend s2.draws)) := ra.1
      refine ⟨_, rfl, _, _, rfl, rfl, .inr ⟨by decide, by decide⟩, _, _, rfl, rfl, .inl ⟨_, rfl, _, _, rfl, rfl, (by show (0 : Int) < 2147483647; decide), ?_⟩⟩
      have b0 : 0 ≤ (fig * 40692 + 41) % 2147483647 := Int.emod_nonneg _ (by decide)
      have b1 : (fig * 40692 + 41) % 2147483647 < 2147483647 := Int.emod_lt_of_pos _ (by decide)
      refine ⟨_, rfl, _, rfl, _, _, rfl, rfl, .inl ⟨by omega, by omega⟩, _, rfl, e, _, rfl, dg_draws g1, _, _, rfl, rfl, .inl ⟨by decide, by decide⟩, _, _, rfl, rfl, _, _, rfl, rfl, .inl ⟨_, rfl, _, _, rfl, rfl, (by show (0 : Int) < 2147483587; decide), ?_⟩⟩
      refine ⟨_, rfl, _, _, rfl, rfl, .inr ⟨by decide, by decide⟩, .inl ⟨_, rfl, _, _, rfl, rfl, (by show (0 : Int) < 2147483563; decide), _, _, rfl, rfl, ⟨by decide, by decide⟩, _, rfl, _, _, rfl, rfl, n0, ?_⟩⟩
      rw [eq] at q
      refine draw_ends sub rf st ra q ?_
      rw [hd]
    refine ⟨_, pss_cons (ps_dput hu (pv 0) pe_str (pe_op op_add (pe_dget hu (pv 0) pe_str (fun _ _ => rfl)) pe_int) rfl)
      (pss_cons (ps_set (i := 2) scDraw.nd rfl (.inl rfl) (pe_op op_add (pe_dget hu (pv 0) pe_str (fun _ _ => rfl)) (pe_op op_mul pe_int (pe_dget hu (pv 0) pe_str (fun _ _ => rfl)))))
      (pss_cons (ps_if (pt_cmpR (op_neT hu64) (pe_dget hu (pv 0) pe_str (fun _ _ => rfl)) (pe_lst pa_nil) (nomark _))
        (pss_cons (ps_set (i := 3) scDraw.nd rfl (.inl rfl) (pe_callTy call_int1 (by rfl) B.int (by decide +kernel) (pa_cons (pe_bm0 PySem.F.plainAttrs_list PySem.F.slot_list_pop PySem.F.type_list_pop mt_pop (pe_dget hu (pv 0) pe_str (fun _ _ => rfl))) pa_nil)))
        (pss_cons (ps_if (pt_cmpR op_ge (pv 3) (pe_op op_pow pe_int pe_int) (nomark _))
          (pss_cons (ps_expr (pe_bm PySem.F.plainAttrs_list PySem.F.slot_list_append PySem.F.type_list_append mt_append (pe_dget hu (pv 0) pe_str (fun _ _ => rfl)) (pa_cons (pe_op op_fdiv (pv 3) (pv 1)) pa_nil)))
          (pss_one (ps_ret (pe_op op_mod (pe_callTy call_int1 (by rfl) B.int (by decide +kernel) (pa_cons (pv 3) pa_nil)) (pv 1))))) pss_nil)
        (pss_one (ps_set (i := 2) scDraw.nd rfl (.inl rfl) (pe_op op_add (pv 2) (pe_op op_mod (pe_callTy call_int1 (by rfl) B.int (by decide +kernel) (pa_cons (pv 3) pa_nil)) pe_int)))))) pss_nil) p3)), ?_⟩
    refine ⟨_, rfl, e, _, rfl, dg_draws h1, _, _, rfl, rfl, _, rfl, e, _, rfl, dp_draws h1, ?_⟩
    refine ⟨_, rfl, e, _, rfl, dg_blend (h1' _), _, rfl, e, _, rfl, dg_draws (h1' _), _, _, rfl, rfl, .inl ⟨by decide, by decide⟩, _, _, rfl, rfl, ?_⟩
    refine ⟨_, rfl, e, _, rfl, dg_cells (h1' _), Nat.zero_le _, fun p hp => ?_⟩
    have npe : p ≠ e := fun z => by
      rw [z, upd_same] at hp
      cases hp
    have hpH : H p = none := by
      rw [upd_ne npe] at hp
      exact hp
    have npc : c ≠ p := ne_of_none h2 hpH
    have g2 : upd (upd H e (.dK (deckK c s.blend (s.draws + 1)))) p (.lst []) c = some (.lst (s.cells.map V.int)) := by
      rw [upd_ne npc, upd_ne nec]
      exact h2
    have g1 : upd (upd H e (.dK (deckK c s.blend (s.draws + 1)))) p (.lst []) e = some (.dK (deckK c s.blend (s.draws + 1))) := by
      rw [upd_ne npe.symm, upd_same]
    have st0 : ∀ b o, b ≠ e → b ≠ c → H b = some o → upd (upd H e (.dK (deckK c s.blend (s.draws + 1)))) p (.lst []) b = some o := fun b o n1 n2 h => by
      rw [upd_ne (ne_of_none h hpH), upd_ne n1]
      exact h
    refine ne_nil g2 upd_same ⟨_, rfl, ?_⟩
    cases hc : s.cells.getLast? with
    | none =>
      have hn : s.cells = [] := List.getLast?_eq_none_iff.mp hc
      have e0 : (!s.cells.isEmpty) = false := by rw [hn]; rfl
      rw [e0]
      refine iteF (tail _ none _ ⟨s.cells, s.blend, s.draws + 1, s.few⟩ rfl ⟨g1, g2⟩ st0 ?_)
      unfold drawF
      dsimp only
      split
      · rfl
      · rename_i h
        rw [hc] at h
        cases h
    | some cell =>
      have hn : s.cells ≠ [] := fun z => by
        rw [z] at hc
        cases hc
      have hl : 0 < s.cells.length := List.length_pos_iff.mpr hn
      have e0 : (!s.cells.isEmpty) = true := by
        cases h : s.cells with
        | nil => exact absurd h hn
        | cons _ _ => rfl
      rw [e0]
      refine iteT ?_
      have hlast : (s.cells.map V.int)[(s.cells.map V.int).length - 1]? = some (V.int cell) := by
        rw [List.length_map, List.getElem?_map, ← List.getLast?_eq_getElem?, hc]
        rfl
      refine ⟨_, rfl, e, _, rfl, dg_cells g1, .inl ⟨rfl, _, SqL.of g2⟩, c, _, _, rfl, rfl, g2, hlast, .inl ⟨_, rfl, ?_⟩⟩
      have hdl : (s.cells.map V.int).dropLast = s.cells.dropLast.map V.int := by rw [List.map_dropLast]
      rw [hdl]
      have k1 : ∀ o, upd (upd (upd H e (.dK (deckK c s.blend (s.draws + 1)))) p (.lst [])) c o e = some (.dK (deckK c s.blend (s.draws + 1))) := fun o => by
        rw [upd_ne nec.symm]
        exact g1
      have st1 : ∀ o' b o, b ≠ e → b ≠ c → H b = some o → upd (upd (upd H e (.dK (deckK c s.blend (s.draws + 1)))) p (.lst [])) c o' b = some o := fun o' b o n1 n2 h => by
        rw [upd_ne n2]
        exact st0 b o n1 n2 h
      refine ⟨_, rfl, _, _, rfl, rfl, ⟨by decide, by decide, by decide⟩, _, _, rfl, rfl, _, rfl, ?_⟩
      have e10 : (10 : Int) ^ (18 : Int).toNat = 10 ^ 18 := by decide
      rw [e10]
      refine ite2 (fun hge => ?_) (fun hlt => ?_)
      · refine ⟨_, rfl, e, _, rfl, dg_cells (k1 _), .inl ⟨rfl, _, SqL.of upd_same⟩, _, rfl, _, rfl, _, _, rfl, rfl, ⟨n0, n1⟩, c, _, _, rfl, rfl, upd_same, ?_, ?_⟩
        · have := s.few
          rw [List.length_map, List.length_dropLast, sizeLine_eq]
          omega
        refine ⟨_, rfl, .inl ⟨_, rfl, _, rfl, _, _, rfl, rfl, n0, ?_⟩⟩
        have hge' : (10 : Int) ^ 18 ≤ cell := by simpa using hge
        have eq : drawF 60107 41 s n = (cell % n, (drawF 60107 41 s n).2) := by
          unfold drawF
          dsimp only
          split
          · rename_i h
            rw [hc] at h
            cases h
          · rename_i x h
            rw [hc] at h
            cases h
            rw [if_pos hge']
        have eq2 : (drawF 60107 41 s n).2.cells = s.cells.dropLast ++ [cell / n] ∧ (drawF 60107 41 s n).2.blend = s.blend ∧ (drawF 60107 41 s n).2.draws = s.draws + 1 := by
          unfold drawF
          dsimp only
          split
          · rename_i h
            rw [hc] at h
            cases h
          · rename_i x h
            rw [hc] at h
            cases h
            rw [if_pos hge']
            exact ⟨rfl, rfl, rfl⟩
        refine draw_ends sub rf (fun b o n1 n2 h => ?_) ⟨?_, ?_⟩ q (by rw [eq])
        · rw [upd_ne n2]
          exact st1 _ b o n1 n2 h
        · rw [eq2.2.1, eq2.2.2, upd_ne nec.symm]
          exact k1 _
        · rw [eq2.1, upd_same, List.map_append]
          rfl
      · refine ⟨_, rfl, _, rfl, .inl ⟨_, rfl, _, _, rfl, rfl, (by show (0 : Int) < 2147483629; decide), _, _, rfl, rfl, ?_⟩⟩
        have hlt' : ¬ (10 : Int) ^ 18 ≤ cell := by simpa using hlt
        refine tail _ _ _ ⟨s.cells.dropLast, s.blend, s.draws + 1, by have := s.few; rw [List.length_dropLast]; omega⟩ rfl ⟨k1 _, upd_same⟩ (fun b o n1 n2 h => st1 _ b o n1 n2 h) ?_
        unfold drawF
        dsimp only
        split
        · rename_i h
          rw [hc] at h
          cases h
        · rename_i x h
          rw [hc] at h
          cases h
          rw [if_neg hlt']
theorem scDeck : FnScope ["_law_script", "_law_blend", "_law_cell"] ["_law_script"] (defScope sDeck) := ⟨rfl, rfl, rfl, by decide +kernel, rfl, by decide +kernel, by decide +kernel⟩
theorem ok_deck {f : Addr} {fd : FuncData} (F : Fun K "_law_deck" "_law_deck" sDeck f fd) (B : TxtB mg) : FnOk P w K mg base CX0 1 f fd ["_law_script"] (spDeck K) := by
  refine F.ok scDeck (fun vs H Q E h => ?_) fun cdv A out z H vs Q E hr h => ?_
  · obtain ⟨a, ns, rfl, _⟩ := h
    rfl
  · obtain ⟨a, ns, rfl, hS, hl, q⟩ := h
    refine ⟨_, pss_cons (ps_set (i := 1) scDeck.nd rfl (.inl rfl) pe_int)
      (pss_cons (ps_for PassesOwn.never rfl (pi_list (pe_slice sl_list (pv 0) po_none (po_some pe_int))) (pg_name (i := 2) scDeck.nd rfl (Or.inl rfl))
        (pss_one (ps_set (i := 1) scDeck.nd rfl (.inl rfl) (pe_op op_mod (pe_callTy call_int1 (by rfl) B.int (by decide +kernel) (pa_cons (pe_op op_add (pe_op op_add (pe_op op_mul (pv 1) pe_int) (pe_op op_mod (pe_callTy call_int1 (by rfl) B.int (by decide +kernel) (pa_cons (pv 2) pa_nil)) pe_int)) pe_int) pa_nil)) pe_int))))
      (pss_one (ps_ret (pe_disp (pps_cons pe_str (pe_revL (pe_callTy call_list_of (by rfl) B.list (by decide +kernel) (pa_cons (pe_slice sl_list (pv 0) po_none (po_some pe_int)) pa_nil))) (pps_cons pe_str (pv 1) (pps_cons pe_str pe_int pps_nil))) (by rfl) (by rfl) (fun z => by cases z) (by decide))))), ?_⟩
    have cut : cutV (ns.map V.int) none (some 63) = ns.map V.int := by
      unfold cutV
      have e : HT.sIx (ns.map V.int).length (ns.map V.int).length (some 63) = (ns.map V.int).length := by
        show (if (63 : Int) < 0 then ((63 : Int) + ((ns.map V.int).length : Int)).toNat else min (63 : Int).toNat (ns.map V.int).length) = _
        rw [if_neg (by decide), List.length_map]
        exact Nat.min_eq_right hl
      rw [e]
      show ((ns.map V.int).drop 0).take ((ns.map V.int).length - 0) = _
      rw [List.drop_zero, Nat.sub_zero, List.take_length]
    refine ⟨_, rfl, _, rfl, a, _, rfl, hS, fun p hp => ?_⟩
    rw [cut]
    refine ⟨p, rfl, ⟨_, SqL.of upd_same⟩, for_list (K := K) (a := p) (xs := ns.map V.int) (fun i σ H' => ∃ (b : Int) (v : Option V), σ = [some (.ref a), some (.int b), v] ∧ H' = upd H p (.lst (ns.map V.int))) ⟨_, _, rfl, rfl⟩ (fun i σ H' _ ⟨_, _, _, e⟩ => by rw [e]; exact SqL.of upd_same) ?_ ?_⟩
    · rintro i y σ H' hi ⟨b, v, rfl, rfl⟩
      obtain ⟨u, rfl⟩ : ∃ u, y = V.int u := by
        rw [List.getElem?_map] at hi
        cases e : ns[i]? with
        | none =>
          rw [e] at hi
          cases hi
        | some u =>
          rw [e] at hi
          exact ⟨u, (Option.some.inj hi).symm⟩
      refine ⟨_, rfl, _, _, rfl, rfl, .inr ⟨by decide, by decide⟩, _, rfl, .inl ⟨_, rfl, _, _, rfl, rfl, (by show (0 : Int) < 2147483629; decide), _, _, rfl, rfl, _, _, rfl, rfl, .inl ⟨_, rfl, _, _, rfl, rfl, (by show (0 : Int) < 2147483587; decide), ?_⟩⟩⟩
      exact ⟨_, _, rfl, rfl⟩
    · rintro σ H' ⟨b, v, rfl, rfl⟩
      intro d hd
      have s1 : Same H (upd H p (.lst (ns.map V.int))) := fun x o e => by
        rw [upd_ne (ne_of_none e hp)]
        exact e
      refine ⟨_, rfl, _, rfl, a, ns.map V.int, rfl, ?_, fun p2 hp2 => ?_⟩
      · have s2 : Same H (upd (upd H p (.lst (ns.map V.int))) d (.dK [])) := fun x o e => by
          rw [upd_ne (ne_of_none (s1 x o e) hd)]
          exact s1 x o e
        exact s2.seq hS
      rw [cut]
      refine ⟨p2, _, rfl, .inl (SqL.of upd_same), fun p3 hp3 => ?_⟩
      refine ⟨p3, _, rfl, SqL.of upd_same, fun c hc => ?_⟩
      have ndp2 : d ≠ p2 := fun z => by
        rw [← z, upd_same] at hp2
        cases hp2
      have ndp3 : d ≠ p3 := fun z => by
        rw [← z, upd_ne ndp2, upd_same] at hp3
        cases hp3
      have ndc : d ≠ c := fun z => by
        rw [← z, upd_ne ndp3, upd_ne ndp2, upd_same] at hc
        cases hc
      refine ⟨_, rfl, ?_⟩
      refine ⟨by rw [upd_ne ndc, upd_ne ndp3, upd_ne ndp2, upd_same], deckK c b 0, rfl, (by show 3 ≤ 15; decide), ?_⟩
      rw [deck_merge]
      have hpd : H d = none := by
        cases e : H d with
        | none => rfl
        | some o =>
          rw [s1 d o e] at hd
          cases hd
      have free : ∀ {x : Addr} {o : HO}, H x = some o → x ≠ d ∧ x ≠ p2 ∧ x ≠ p3 ∧ x ≠ c := fun {x o} e => by
        have nd : x ≠ d := ne_of_none e hpd
        have e1 := s1 x o e
        have n2 : x ≠ p2 := fun z => by
          rw [← z, upd_ne nd, e1] at hp2
          cases hp2
        have n3 : x ≠ p3 := fun z => by
          rw [← z, upd_ne n2, upd_ne nd, e1] at hp3
          cases hp3
        have n4 : x ≠ c := fun z => by
          rw [← z, upd_ne n3, upd_ne n2, upd_ne nd, e1] at hc
          cases hc
        exact ⟨nd, n2, n3, n4⟩
      refine q _ d c ⟨ns.reverse, b, 0, by rw [List.length_reverse]; exact hl⟩ (fun x o e => ?_) hpd ?_ ⟨upd_same, ?_⟩
      · obtain ⟨n1, n2, n3, n4⟩ := free e
        rw [upd_ne n1, upd_ne n4, upd_ne n3, upd_ne n2, upd_ne n1]
        exact s1 x o e
      · cases e : H c with
        | none => rfl
        | some o => exact absurd rfl (free e).2.2.2
      · rw [upd_ne ndc.symm, upd_same, List.map_reverse]
end
end L2.TL
namespace L2.TL
open PySem PySem.Spec
open PyProof.Rows
abbrev s_is_name : Stmt := topS 2
abbrev s_walk : Stmt := topS 3
abbrev s_texts_of : Stmt := topS 4
abbrev s_text_of : Stmt := topS 5
abbrev s_pieces_among : Stmt := topS 6
abbrev s_pieces_of : Stmt := topS 7
abbrev s_size_of : Stmt := topS 8
abbrev s_names_in : Stmt := topS 9
abbrev s_swapped : Stmt := topS 10
abbrev s_replaced : Stmt := topS 11
abbrev s_law_pick : Stmt := topS 15
abbrev s_law_standard : Stmt := topS 16
abbrev s_law_need : Stmt := topS 17
abbrev s_law_plan : Stmt := topS 18
abbrev s_law_thing : Stmt := topS 19
abbrev s_law_text : Stmt := topS 20
abbrev s_law_in_order : Stmt := topS 21
abbrev s_law_pieces : Stmt := topS 22
abbrev s_law_is_name : Stmt := topS 23
abbrev s_law_put : Stmt := topS 24
abbrev s_law_right : Stmt := topS 25
abbrev s_law_put_right : Stmt := topS 26
abbrev s_law : Stmt := topS 27
structure Txt (K : PySem.W.Frag) (mg : Str → Option Value) where
  b_dict : mg "dict" = none
  b_int : mg "int" = none
  b_isinstance : mg "isinstance" = none
  b_len : mg "len" = none
  b_list : mg "list" = none
  b_range : mg "range" = none
  b_repr : mg "repr" = none
  b_sorted : mg "sorted" = none
  b_str : mg "str" = none
  b_tuple : mg "tuple" = none
  b_zip : mg "zip" = none
  c_LONGEST : ∃ t, mg "LONGEST" = some (.int 8 t)
  d_is_name : DefD K mg "is_name" s_is_name ["thing"]
  d_walk : DefD K mg "walk" s_walk ["thing"]
  d_texts_of : DefD K mg "texts_of" s_texts_of ["pieces"]
  d_text_of : DefD K mg "text_of" s_text_of ["thing"]
  d_pieces_among : DefD K mg "pieces_among" s_pieces_among ["things"]
  d_pieces_of : DefD K mg "pieces_of" s_pieces_of ["thing"]
  d_size_of : DefD K mg "size_of" s_size_of ["thing"]
  d_names_in : DefD K mg "names_in" s_names_in ["thing"]
  d_swapped : DefD K mg "swapped" s_swapped ["thing", "table"]
  d_replaced : DefD K mg "replaced" s_replaced ["thing", "name", "other"]
  d_law_deck : DefD K mg "_law_deck" sDeck ["_law_script"]
  d_law_draw : DefD K mg "_law_draw" sDraw ["_law_deck_here", "_law_many"]
  d_law_pick : DefD K mg "_law_pick" s_law_pick ["_law_deck_here", "_law_some"]
  d_law_standard : DefD K mg "_law_standard" s_law_standard []
  d_law_need : DefD K mg "_law_need" s_law_need ["_law_deck_here", "_law_kinds", "_law_many"]
  d_law_plan : DefD K mg "_law_plan" s_law_plan ["_law_deck_here"]
  d_law_thing : DefD K mg "_law_thing" s_law_thing ["_law_deck_here", "_law_w", "_law_deep"]
  d_law_text : DefD K mg "_law_text" s_law_text ["_law_it"]
  d_law_in_order : DefD K mg "_law_in_order" s_law_in_order ["_law_some"]
  d_law_pieces : DefD K mg "_law_pieces" s_law_pieces ["_law_it"]
  d_law_is_name : DefD K mg "_law_is_name" s_law_is_name ["_law_it"]
  d_law_put : DefD K mg "_law_put" s_law_put ["_law_it", "_law_name", "_law_other"]
  d_law_right : DefD K mg "_law_right" s_law_right ["_law_it"]
  d_law_put_right : DefD K mg "_law_put_right" s_law_put_right ["_law_it", "_law_name", "_law_other"]
noncomputable section
variable {P : Program} {w : World} {K : PySem.W.Frag} {mg : Str → Option Value} {base : Heap}
abbrev n_is_name : List Str := ["thing"]
theorem sc_is_name : FnScope n_is_name ["thing"] (defScope s_is_name) := ⟨rfl, rfl, rfl, by decide +kernel, rfl, by decide +kernel, by decide +kernel⟩
def g_is_name : SF Z0 :=
  sSeq (sIf (xbOr (xbNot (xTru (xIs "str" (xName 0)))) (xbNot (xb (x3 leX leX (xC (T.int 1)) (xCall lenT (xCons (xName 0) (xNil))) (xC (T.int 8)))))) (sRet (xC (T.bl false))) (sSkip))
    (sRet (xAnd (xMeth "str" (strMT (fun a => T.bl (Txt.isascii a))) (xName 0) xNil) (xAnd (xMeth "str" (strMT (fun a => T.bl (Txt.isalnum a))) (xName 0) xNil) (xAnd (xMeth "str" (strMT (fun a => T.bl (Txt.isupper a))) (x2 ixT (xName 0) (xC (T.int 0))) xNil) (x2 (eqX false) (xCut (xName 0) (oSome (xC (T.int 1))) (oNone)) (xMeth "str" (strM (fun a => T.str (Txt.lower a)) 5592405) (xCut (xName 0) (oSome (xC (T.int 1))) (oNone)) xNil))))))
def f_is_name : FP := fpOf (bodyF 1 1 g_is_name)
theorem ok_is_name (T : Txt K mg) : FnOk P w K mg base CX0 1 T.d_is_name.f T.d_is_name.fd ["thing"] (spP K f_is_name) :=
  fn_defP T.d_is_name.F sc_is_name fun cdv A out z H E hr =>
    ss_cons (sx_if (eb_w (ew_or (eb_not (eb_tru (ex_isi (n := "str") (by rfl) T.b_isinstance (ex_name 0) (by rfl) T.b_str))) (ew_or1 (eb_not (eb_chain or_le o2_le or_le o2_le (ex_int) (ex_callB call_len op1_len (by rfl) T.b_len (el_cons (ex_name 0) (el_nil))) (ex_glob (v := .int 8) (by rfl) (T.c_LONGEST).choose_spec ⟨_, rfl⟩ (fun _ => rfl))))))) (ss_one (sx_ret (ex_bl))) (ss_nil))
    (ss_one (sx_ret (ex_and (ex_m0 PySem.F.plainAttrs_str PySem.F.slot_str_isascii PySem.F.type_str_isascii mt_isascii (opm_strT (is_bl Txt.isascii)) (ex_name 0)) (ex_and (ex_m0 PySem.F.plainAttrs_str PySem.F.slot_str_isalnum PySem.F.type_str_isalnum mt_isalnum (opm_strT (is_bl Txt.isalnum)) (ex_name 0)) (ex_and (ex_m0 PySem.F.plainAttrs_str PySem.F.slot_str_isupper PySem.F.type_str_isupper mt_isupper (opm_strT (is_bl Txt.isupper)) (ex_ix ix_seq op2_ix (ex_name 0) (ex_int))) (ex_bop1 (ex_cmp (or_eq hr.units) o2_eq (ex_cut (ex_name 0) (eo_some (ex_int)) (eo_none)) (ex_m0 PySem.F.plainAttrs_str PySem.F.slot_str_lower PySem.F.type_str_lower mt_lower (opm_str (is_str Txt.lower)) (ex_cut (ex_name 0) (eo_some (ex_int)) (eo_none))) (nomark _))))))))
abbrev n_walk : List Str := ["thing", "found", "waiting", "piece"]
theorem sc_walk : FnScope n_walk ["thing"] (defScope s_walk) := ⟨rfl, rfl, rfl, by decide +kernel, rfl, by decide +kernel, by decide +kernel⟩
def g_walk : SF Z0 :=
  sSeq (sSetO 1 (xLst (xNil)))
    (sSeq (sSetO 2 (xLst (xCons (xName 0) (xNil))))
    (sSeq (sWhile (bRead 2 (xTru (xName 2))) (sSeq (sSetXO 3 (oPop 2))
    (sSeq (sDropO (oApp 1 (oPure (xName 3))))
    (sIf (xTru (xIs "tuple" (xName 3))) (sDropO (oExt 2 (xCut (xName 3) (oSome (xC (T.int 1))) (oNone)))) (sSkip)))))
    (sFreeze 1 (sRet (x1 revT (xName 1))))))
def f_walk : FP := fpOf (bodyF 1 4 g_walk)
theorem ok_walk (T : Txt K mg) : FnOk P w K mg base CX0 1 T.d_walk.f T.d_walk.fd ["thing"] (spP K f_walk) :=
  fn_defP T.d_walk.F sc_walk fun cdv A out z H E hr =>
    ss_cons (sx_setO (i := 1) sc_walk.nd rfl (en_lst (el_nil)))
    (ss_cons (sx_setO (i := 2) sc_walk.nd rfl (en_lst (el_cons (ex_name 0) (el_nil))))
    (ss_cons (sx_while PassesOwn.never (eb_read 2 (eb_tru (ex_name 2))) (ss_cons (sx_setXO (i := 3) sc_walk.nd rfl (xo_pop 2))
    (ss_cons (sx_exprO (xo_app 1 (xo_of (ex_name 3))))
    (ss_one (sx_if (eb_tru (ex_isi (n := "tuple") (by rfl) T.b_isinstance (ex_name 3) (by rfl) T.b_tuple)) (ss_one (sx_exprO (xo_ext 2 (ex_cut (ex_name 3) (eo_some (ex_int)) (eo_none))))) (ss_nil))))))
    (ss_freeze 1 (ss_one (sx_ret (ex_rev (ex_name 1)))))))
abbrev n_texts_of : List Str := ["pieces", "told", "built", "piece", "text", "many", "inner"]
theorem sc_texts_of : FnScope n_texts_of ["pieces"] (defScope s_texts_of) := ⟨rfl, rfl, rfl, by decide +kernel, rfl, by decide +kernel, by decide +kernel⟩
def g_texts_of : SF Z0 :=
  sSeq (sSetO 1 (xLst (xNil)))
    (sSeq (sSetO 2 (xLst (xNil)))
    (sSeq (sForE (iSeq (xName 0)) (gSet 3) (sSeq (sIf (xTru (xIs "str" (xName 3))) (sSeq (sSet 4 (xName 3))
    (sDropO (oApp 2 (oPure (xName 4))))) (sSeq (sSet 5 (x2 subI (xCall lenT (xCons (xName 3) (xNil))) (xC (T.int 1))))
    (sFreeze 2 (sSeq (sSet 6 (xMeth "str" joinT (xC (T.str ",")) (xCons (xCut (xName 2) (oSome (x1 negI (xName 5))) (oNone)) (xNil))))
    (sSeq (sSet 4 (xJoin (xCons (x1 fmtT (x2 ixT (xName 3) (xC (T.int 0)))) (xCons (xC (T.str "(")) (xCons (x1 fmtT (xName 6)) (xCons (xC (T.str ")")) (xNil)))))))
    (sSetO 2 (xLst (xStar (xCut (xName 2) (oNone) (oSome (x1 negI (xName 5)))) (xCons (xName 4) (xNil))))))))))
    (sDropO (oApp 1 (oPure (xName 4))))))
    (sFreeze 1 (sRet (xName 1)))))
def f_texts_of : FP := fpOf (bodyF 1 7 g_texts_of)
theorem ok_texts_of (T : Txt K mg) : FnOk P w K mg base CX0 1 T.d_texts_of.f T.d_texts_of.fd ["pieces"] (spP K f_texts_of) :=
  fn_defP T.d_texts_of.F sc_texts_of fun cdv A out z H E hr =>
    ss_cons (sx_setO (i := 1) sc_texts_of.nd rfl (en_lst (el_nil)))
    (ss_cons (sx_setO (i := 2) sc_texts_of.nd rfl (en_lst (el_nil)))
    (ss_cons (sx_for PassesOwn.never rfl (ix_lst (ex_name 0)) (gx_name sc_texts_of.nd) (ss_cons (sx_if (eb_tru (ex_isi (n := "str") (by rfl) T.b_isinstance (ex_name 3) (by rfl) T.b_str)) (ss_cons (sx_set (i := 4) sc_texts_of.nd rfl (ex_name 3))
    (ss_one (sx_exprO (xo_app 2 (xo_of (ex_name 4)))))) (ss_cons (sx_set (i := 5) sc_texts_of.nd rfl (ex_sub (ex_callB call_len op1_len (by rfl) T.b_len (el_cons (ex_name 3) (el_nil))) (ex_int)))
    (ss_freeze 2 (ss_cons (sx_set (i := 6) sc_texts_of.nd rfl (ex_m PySem.F.plainAttrs_str PySem.F.slot_str_join PySem.F.type_str_join mt_join opm_join (ex_str) (el_cons (ex_cut (ex_name 2) (eo_some (ex_neg (ex_name 5))) (eo_none)) (el_nil))))
    (ss_cons (sx_set (i := 4) sc_texts_of.nd rfl (ex_joined (ej_cons (ex_fmt (ex_ix ix_seq op2_ix (ex_name 3) (ex_int))) (ej_cons (ex_str) (ej_cons (ex_fmt (ex_name 6)) (ej_cons (ex_str) (ej_nil)))))))
    (ss_one (sx_setO (i := 2) sc_texts_of.nd rfl (en_lst (el_star (ex_cut (ex_name 2) (eo_none) (eo_some (ex_neg (ex_name 5)))) (el_cons (ex_name 4) (el_nil)))))))))))
    (ss_one (sx_exprO (xo_app 1 (xo_of (ex_name 4)))))))
    (ss_freeze 1 (ss_one (sx_ret (ex_name 1))))))
abbrev n_text_of : List Str := ["thing"]
theorem sc_text_of : FnScope n_text_of ["thing"] (defScope s_text_of) := ⟨rfl, rfl, rfl, by decide +kernel, rfl, by decide +kernel, by decide +kernel⟩
def g_text_of : SF Z0 :=
  sRet (x2 ixT (xCallP (f_texts_of) (xCons (xCallP (f_walk) (xCons (xName 0) (xNil))) (xNil))) (x1 negI (xC (T.int 1))))
def f_text_of : FP := fpOf (bodyF 1 1 g_text_of)
theorem ok_text_of (T : Txt K mg) : FnOk P w K mg base CX0 2 T.d_text_of.f T.d_text_of.fd ["thing"] (spP K f_text_of) :=
  fn_defP T.d_text_of.F sc_text_of fun cdv A out z H E hr =>
    ss_one (sx_ret (ex_ix ix_seq op2_ix (ex_callP (ok_texts_of T) (hr.mono (by decide)) (by rfl) T.d_texts_of.m T.d_texts_of.F.kp T.d_texts_of.b (el_cons (ex_callP (ok_walk T) (hr.mono (by decide)) (by rfl) T.d_walk.m T.d_walk.F.kp T.d_walk.b (el_cons (ex_name 0) (el_nil))) (el_nil))) (ex_neg ex_int)))
abbrev n_pieces_among : List Str := ["things", "texts", "pieces", "thing", "walked", "by_text", "text"]
theorem sc_pieces_among : FnScope n_pieces_among ["things"] (defScope s_pieces_among) := ⟨rfl, rfl, rfl, by decide +kernel, rfl, by decide +kernel, by decide +kernel⟩
def g_pieces_among : SF Z0 :=
  sSeq (sSetO 1 (xLst (xNil)))
    (sSeq (sSetO 2 (xLst (xNil)))
    (sSeq (sForE (iTupl (xName 0)) (gSet 3) (sSeq (sSet 4 (xCallP (f_walk) (xCons (xName 3) (xNil))))
    (sSeq (sDropO (oExt 2 (xName 4)))
    (sDropO (oExt 1 (xCallP (f_texts_of) (xCons (xName 4) (xNil))))))))
    (sFreeze 2 (sFreeze 1 (sSeq (sSet 5 (xDictZip (xCons (xName 1) (xCons (xName 2) (xNil)))))
    (sRet (xCall tupleT (xCons (xLc [6] (iSeq (xCall sortedT (xCons (xCall listDT (xCons (xName 5) (xNil))) (xNil)))) (gSet 6) (xYes) (x2 dgetT (xName 5) (xName 6))) (xNil)))))))))
def f_pieces_among : FP := fpOf (bodyF 1 7 g_pieces_among)
theorem ok_pieces_among (T : Txt K mg) : FnOk P w K mg base CX0 2 T.d_pieces_among.f T.d_pieces_among.fd ["things"] (spP K f_pieces_among) :=
  fn_defP T.d_pieces_among.F sc_pieces_among fun cdv A out z H E hr =>
    ss_cons (sx_setO (i := 1) sc_pieces_among.nd rfl (en_lst (el_nil)))
    (ss_cons (sx_setO (i := 2) sc_pieces_among.nd rfl (en_lst (el_nil)))
    (ss_cons (sx_for PassesOwn.never rfl (ix_tupl (ex_name 0)) (gx_name sc_pieces_among.nd) (ss_cons (sx_set (i := 4) sc_pieces_among.nd rfl (ex_callP (ok_walk T) (hr.mono (by decide)) (by rfl) T.d_walk.m T.d_walk.F.kp T.d_walk.b (el_cons (ex_name 3) (el_nil))))
    (ss_cons (sx_exprO (xo_ext 2 (ex_name 4)))
    (ss_one (sx_exprO (xo_ext 1 (ex_callP (ok_texts_of T) (hr.mono (by decide)) (by rfl) T.d_texts_of.m T.d_texts_of.F.kp T.d_texts_of.b (el_cons (ex_name 4) (el_nil)))))))))
    (ss_freeze 2 (ss_freeze 1 (ss_cons (sx_set (i := 5) sc_pieces_among.nd rfl (ex_of_new (en_dictZip rfl (by rfl) T.b_dict (by rfl) T.b_zip (el_cons (ex_name 1) (el_cons (ex_name 2) (el_nil))))))
    (ss_one (sx_ret (ex_callTy call_tuple_of op1_tuple (by rfl) T.b_tuple (el_cons (ex_of_new (en_lc (own := [("text", 6)]) rfl sc_pieces_among.nd (ix_lst (ex_of_new (en_callB (call_sorted rfl) op_sorted (by rfl) T.b_sorted (el_cons (ex_of_new (en_callTy (call_listD rfl) op_listDT (by rfl) T.b_list (el_cons (ex_name 5) (el_nil)))) (el_nil))))) (blkOk_by (own := [("text", 6)]) (N := n_pieces_among) (sc := defScope s_pieces_among) (by decide +kernel)) (gb_name sc_pieces_among.nd rfl (fun _ _ => by first | exact Or.inl rfl | exact Or.inr rfl) (fun _ _ => by first | exact Or.inr rfl | exact Or.inl rfl)) rfl (fun _ _ _ _ _ => ets_nil) (fun _ _ _ _ _ => ex_dget (hu_of hr) (ex_name 5) (ex_name 6)))) (el_nil))))))))))
abbrev n_pieces_of : List Str := ["thing"]
theorem sc_pieces_of : FnScope n_pieces_of ["thing"] (defScope s_pieces_of) := ⟨rfl, rfl, rfl, by decide +kernel, rfl, by decide +kernel, by decide +kernel⟩
def g_pieces_of : SF Z0 :=
  sRet (xCallP (f_pieces_among) (xCons (xTup (xCons (xName 0) (xNil))) (xNil)))
def f_pieces_of : FP := fpOf (bodyF 1 1 g_pieces_of)
theorem ok_pieces_of (T : Txt K mg) : FnOk P w K mg base CX0 3 T.d_pieces_of.f T.d_pieces_of.fd ["thing"] (spP K f_pieces_of) :=
  fn_defP T.d_pieces_of.F sc_pieces_of fun cdv A out z H E hr =>
    ss_one (sx_ret (ex_callP (ok_pieces_among T) (hr.mono (by decide)) (by rfl) T.d_pieces_among.m T.d_pieces_among.F.kp T.d_pieces_among.b (el_cons (ex_tup (el_cons (ex_name 0) (el_nil))) (el_nil))))
abbrev n_size_of : List Str := ["thing"]
theorem sc_size_of : FnScope n_size_of ["thing"] (defScope s_size_of) := ⟨rfl, rfl, rfl, by decide +kernel, rfl, by decide +kernel, by decide +kernel⟩
def g_size_of : SF Z0 :=
  sRet (xCall lenT (xCons (xCallP (f_walk) (xCons (xName 0) (xNil))) (xNil)))
def f_size_of : FP := fpOf (bodyF 1 1 g_size_of)
theorem ok_size_of (T : Txt K mg) : FnOk P w K mg base CX0 2 T.d_size_of.f T.d_size_of.fd ["thing"] (spP K f_size_of) :=
  fn_defP T.d_size_of.F sc_size_of fun cdv A out z H E hr =>
    ss_one (sx_ret (ex_callB call_len op1_len (by rfl) T.b_len (el_cons (ex_callP (ok_walk T) (hr.mono (by decide)) (by rfl) T.d_walk.m T.d_walk.F.kp T.d_walk.b (el_cons (ex_name 0) (el_nil))) (el_nil))))
abbrev n_names_in : List Str := ["thing", "piece"]
theorem sc_names_in : FnScope n_names_in ["thing"] (defScope s_names_in) := ⟨rfl, rfl, rfl, by decide +kernel, rfl, by decide +kernel, by decide +kernel⟩
def g_names_in : SF Z0 :=
  sRet (xCall tupleT (xCons (xLc [1] (iTupl (xCallP (f_pieces_of) (xCons (xName 0) (xNil)))) (gSet 1) (xTru (xCallP (f_is_name) (xCons (xName 1) (xNil)))) (xName 1)) (xNil)))
def f_names_in : FP := fpOf (bodyF 1 2 g_names_in)
theorem ok_names_in (T : Txt K mg) : FnOk P w K mg base CX0 4 T.d_names_in.f T.d_names_in.fd ["thing"] (spP K f_names_in) :=
  fn_defP T.d_names_in.F sc_names_in fun cdv A out z H E hr =>
    ss_one (sx_ret (ex_callTy call_tuple_of op1_tuple (by rfl) T.b_tuple (el_cons (ex_of_new (en_lc (own := [("piece", 1)]) rfl sc_names_in.nd (ix_tupl (ex_callP (ok_pieces_of T) (hr.mono (by decide)) (by rfl) T.d_pieces_of.m T.d_pieces_of.F.kp T.d_pieces_of.b (el_cons (ex_name 0) (el_nil)))) (blkOk_by (own := [("piece", 1)]) (N := n_names_in) (sc := defScope s_names_in) (by decide +kernel)) (gb_name sc_names_in.nd rfl (fun _ _ => by first | exact Or.inl rfl | exact Or.inr rfl) (fun _ _ => by first | exact Or.inr rfl | exact Or.inl rfl)) rfl (fun _ _ _ _ _ => ets_one (eb_tru (ex_callP (ok_is_name T) (hr.mono (by decide)) (by rfl) T.d_is_name.m T.d_is_name.F.kp T.d_is_name.b (el_cons (ex_name 1) (el_nil))))) (fun _ _ _ _ _ => ex_name 1))) (el_nil))))
abbrev n_swapped : List Str := ["thing", "table", "built", "piece", "many", "whole"]
theorem sc_swapped : FnScope n_swapped ["thing", "table"] (defScope s_swapped) := ⟨rfl, rfl, rfl, by decide +kernel, rfl, by decide +kernel, by decide +kernel⟩
def g_swapped : SF Z0 :=
  sSeq (sSetO 2 (xLst (xNil)))
    (sSeq (sForE (iSeq (xCallP (f_walk) (xCons (xName 0) (xNil)))) (gSet 3) (sIf (xTru (xIs "str" (xName 3))) (sDropO (oApp 2 (oPure (xGet2 (xName 1) (xName 3) (xName 3))))) (sSeq (sSet 4 (x2 subI (xCall lenT (xCons (xName 3) (xNil))) (xC (T.int 1))))
    (sFreeze 2 (sSeq (sSet 5 (xTup (xCons (x2 ixT (xName 3) (xC (T.int 0))) (xStar (xCut (xName 2) (oSome (x1 negI (xName 4))) (oNone)) (xNil)))))
    (sSetO 2 (xLst (xStar (xCut (xName 2) (oNone) (oSome (x1 negI (xName 4)))) (xCons (xName 5) (xNil))))))))))
    (sFreeze 2 (sRet (x2 ixT (xName 2) (xC (T.int 0))))))
def f_swapped : FP := fpOf (bodyF 2 6 g_swapped)
theorem ok_swapped (T : Txt K mg) : FnOk P w K mg base CX0 2 T.d_swapped.f T.d_swapped.fd ["thing", "table"] (spP K f_swapped) :=
  fn_defP T.d_swapped.F sc_swapped fun cdv A out z H E hr =>
    ss_cons (sx_setO (i := 2) sc_swapped.nd rfl (en_lst (el_nil)))
    (ss_cons (sx_for PassesOwn.never rfl (ix_lst (ex_callP (ok_walk T) (hr.mono (by decide)) (by rfl) T.d_walk.m T.d_walk.F.kp T.d_walk.b (el_cons (ex_name 0) (el_nil)))) (gx_name sc_swapped.nd) (ss_one (sx_if (eb_tru (ex_isi (n := "str") (by rfl) T.b_isinstance (ex_name 3) (by rfl) T.b_str)) (ss_one (sx_exprO (xo_app 2 (xo_of (ex_get2 (hu_of hr) (ex_name 1) (ex_name 3) (ex_name 3) ⟨rfl, rfl, rfl, rfl⟩))))) (ss_cons (sx_set (i := 4) sc_swapped.nd rfl (ex_sub (ex_callB call_len op1_len (by rfl) T.b_len (el_cons (ex_name 3) (el_nil))) (ex_int)))
    (ss_freeze 2 (ss_cons (sx_set (i := 5) sc_swapped.nd rfl (ex_tup (el_cons (ex_ix ix_seq op2_ix (ex_name 3) (ex_int)) (el_star (ex_cut (ex_name 2) (eo_some (ex_neg (ex_name 4))) (eo_none)) (el_nil)))))
    (ss_one (sx_setO (i := 2) sc_swapped.nd rfl (en_lst (el_star (ex_cut (ex_name 2) (eo_none) (eo_some (ex_neg (ex_name 4)))) (el_cons (ex_name 5) (el_nil))))))))))))
    (ss_freeze 2 (ss_one (sx_ret (ex_ix ix_seq op2_ix (ex_name 2) (ex_int))))))
abbrev n_replaced : List Str := ["thing", "name", "other"]
theorem sc_replaced : FnScope n_replaced ["thing", "name", "other"] (defScope s_replaced) := ⟨rfl, rfl, rfl, by decide +kernel, rfl, by decide +kernel, by decide +kernel⟩
def g_replaced : SF Z0 :=
  sRet (xCallP (f_swapped) (xCons (xName 0) (xCons (xDict1 (xName 1) (xName 2)) (xNil))))
def f_replaced : FP := fpOf (bodyF 3 3 g_replaced)
theorem ok_replaced (T : Txt K mg) : FnOk P w K mg base CX0 3 T.d_replaced.f T.d_replaced.fd ["thing", "name", "other"] (spP K f_replaced) :=
  fn_defP T.d_replaced.F sc_replaced fun cdv A out z H E hr =>
    ss_one (sx_ret (ex_callP (ok_swapped T) (hr.mono (by decide)) (by rfl) T.d_swapped.m T.d_swapped.F.kp T.d_swapped.b (el_cons (ex_name 0) (el_cons (ex_of_new (en_dict1 (ex_name 1) (ex_name 2))) (el_nil)))))
abbrev n_law_pick : List Str := ["_law_deck_here", "_law_some"]
theorem sc_law_pick : FnScope n_law_pick ["_law_deck_here", "_law_some"] (defScope s_law_pick) := ⟨rfl, rfl, rfl, by decide +kernel, rfl, by decide +kernel, by decide +kernel⟩
def g_law_pick (d c : Addr) : SF (deckZ d c) :=
  sRet (x2 ixT (xName 1) (xCallF (drawT dp dq d c) (xCons (xName 0) (xCons (xCall lenT (xCons (xName 1) (xNil))) (xNil)))))
def f_law_pick (d c : Addr) : FF (deckZ d c) := bodyF 2 2 (g_law_pick d c)
theorem ok_law_pick (T : Txt K mg) (d c : Addr) : FnOk P w K mg base CX0 2 T.d_law_pick.f T.d_law_pick.fd ["_law_deck_here", "_law_some"] (spS K (deckZ d c) (f_law_pick d c)) :=
  fn_def T.d_law_pick.F sc_law_pick fun cdv A out z H E hr =>
    ss_one (sx_ret (ex_ix ix_seq op2_ix (ex_name 1) (ex_call (ok_draw T.d_law_draw.F ⟨T.b_int, T.b_list⟩ d c) (hr.mono (by decide)) (by rfl) T.d_law_draw.m T.d_law_draw.F.kp T.d_law_draw.b (el_cons (ex_name 0) (el_cons (ex_callB call_len op1_len (by rfl) T.b_len (el_cons (ex_name 1) (el_nil))) (el_nil))))))
abbrev n_law_standard : List Str := ["_law_kinds", "_law_some"]
theorem sc_law_standard : FnScope n_law_standard [] (defScope s_law_standard) := ⟨rfl, rfl, rfl, by decide +kernel, rfl, by decide +kernel, by decide +kernel⟩
def g_law_standard : SF Z0 :=
  sSeq (sSet 0 (xTup (xCons (xTup (xCons (xC (T.str "half")) (xCons (xC (T.int 1)) (xNil)))) (xCons (xTup (xCons (xC (T.str "lock")) (xCons (xC (T.int 2)) (xNil)))) (xCons (xTup (xCons (xC (T.str "mark")) (xCons (xC (T.int 1)) (xNil)))) (xCons (xTup (xCons (xC (T.str "pair")) (xCons (xC (T.int 2)) (xNil)))) (xCons (xTup (xCons (xC (T.str "seal")) (xCons (xC (T.int 2)) (xNil)))) (xCons (xTup (xCons (xC (T.str "sign")) (xCons (xC (T.int 2)) (xNil)))) (xNil)))))))))
    (sSeq (sSet 1 (xTup (xCons (xTup (xCons (xC (T.str "first")) (xCons (xC (T.str "pair")) (xCons (xC (T.int 0)) (xCons (xTup (xNil)) (xNil)))))) (xCons (xTup (xCons (xC (T.str "open")) (xCons (xC (T.str "lock")) (xCons (xC (T.int 0)) (xCons (xTup (xCons (xTup (xCons (xC (T.str "part")) (xCons (xC (T.int 1)) (xNil)))) (xNil))) (xNil)))))) (xCons (xTup (xCons (xC (T.str "second")) (xCons (xC (T.str "pair")) (xCons (xC (T.int 1)) (xCons (xTup (xNil)) (xNil)))))) (xNil))))))
    (sSeq (sSet 1 (x2 addX (xName 1) (xTup (xCons (xTup (xCons (xC (T.str "shown")) (xCons (xC (T.str "sign")) (xCons (xC (T.int 0)) (xCons (xTup (xNil)) (xNil)))))) (xCons (xTup (xCons (xC (T.str "signed")) (xCons (xC (T.str "sign")) (xCons (xC (T.int 0)) (xCons (xTup (xCons (xTup (xCons (xC (T.str "around")) (xCons (xC (T.str "half")) (xCons (xC (T.int 1)) (xNil))))) (xNil))) (xNil)))))) (xNil))))))
    (sRet (xDict [Sum.inr "kinds", Sum.inr "openings"] (xCons (xName 0) (xCons (x2 addX (xName 1) (xTup (xCons (xTup (xCons (xC (T.str "unseal")) (xCons (xC (T.str "seal")) (xCons (xC (T.int 0)) (xCons (xTup (xCons (xTup (xCons (xC (T.str "inside")) (xCons (xC (T.int 1)) (xCons (xC (T.str "half")) (xNil))))) (xNil))) (xNil)))))) (xNil)))) (xNil)))))))
def f_law_standard : FP := fpOf (bodyF 0 2 g_law_standard)
theorem ok_law_standard (T : Txt K mg) : FnOk P w K mg base CX0 1 T.d_law_standard.f T.d_law_standard.fd [] (spP K f_law_standard) :=
  fn_defP T.d_law_standard.F sc_law_standard fun cdv A out z H E hr =>
    ss_cons (sx_set (i := 0) sc_law_standard.nd rfl (ex_tup (el_cons (ex_tup (el_cons (ex_str) (el_cons (ex_int) (el_nil)))) (el_cons (ex_tup (el_cons (ex_str) (el_cons (ex_int) (el_nil)))) (el_cons (ex_tup (el_cons (ex_str) (el_cons (ex_int) (el_nil)))) (el_cons (ex_tup (el_cons (ex_str) (el_cons (ex_int) (el_nil)))) (el_cons (ex_tup (el_cons (ex_str) (el_cons (ex_int) (el_nil)))) (el_cons (ex_tup (el_cons (ex_str) (el_cons (ex_int) (el_nil)))) (el_nil)))))))))
    (ss_cons (sx_set (i := 1) sc_law_standard.nd rfl (ex_tup (el_cons (ex_tup (el_cons (ex_str) (el_cons (ex_str) (el_cons (ex_int) (el_cons (ex_tup (el_nil)) (el_nil)))))) (el_cons (ex_tup (el_cons (ex_str) (el_cons (ex_str) (el_cons (ex_int) (el_cons (ex_tup (el_cons (ex_tup (el_cons (ex_str) (el_cons (ex_int) (el_nil)))) (el_nil))) (el_nil)))))) (el_cons (ex_tup (el_cons (ex_str) (el_cons (ex_str) (el_cons (ex_int) (el_cons (ex_tup (el_nil)) (el_nil)))))) (el_nil))))))
    (ss_cons (sx_set (i := 1) sc_law_standard.nd rfl (ex_add (ex_name 1) (ex_tup (el_cons (ex_tup (el_cons (ex_str) (el_cons (ex_str) (el_cons (ex_int) (el_cons (ex_tup (el_nil)) (el_nil)))))) (el_cons (ex_tup (el_cons (ex_str) (el_cons (ex_str) (el_cons (ex_int) (el_cons (ex_tup (el_cons (ex_tup (el_cons (ex_str) (el_cons (ex_str) (el_cons (ex_int) (el_nil))))) (el_nil))) (el_nil)))))) (el_nil))))))
    (ss_one (sx_ret (ex_of_new (en_dict (ed_cons (ex_name 0) (ed_cons (ex_add (ex_name 1) (ex_tup (el_cons (ex_tup (el_cons (ex_str) (el_cons (ex_str) (el_cons (ex_int) (el_cons (ex_tup (el_cons (ex_tup (el_cons (ex_str) (el_cons (ex_int) (el_cons (ex_str) (el_nil))))) (el_nil))) (el_nil)))))) (el_nil)))) (ed_nil)))))))))
abbrev n_law_need : List Str := ["_law_deck_here", "_law_kinds", "_law_many", "_law_ones", "_law_spot", "_law_kind", "_law_number", "_law_way"]
theorem sc_law_need : FnScope n_law_need ["_law_deck_here", "_law_kinds", "_law_many"] (defScope s_law_need) := ⟨rfl, rfl, rfl, by decide +kernel, rfl, by decide +kernel, by decide +kernel⟩
def g_law_need (d c : Addr) : SF (deckZ d c) :=
  sSeq (sPar 3 4 (xCons (xLc [5, 6] (iTupl (xName 1)) (gTupT 2 (gsCons (gSet 5) (gsCons (gSet 6) gsNil))) (xb (x2 (eqX false) (xName 6) (xC (T.int 1)))) (xName 5)) (xCons (xCallF (drawT dp dq d c) (xCons (xName 0) (xCons (xName 2) (xNil)))) (xNil))))
    (sSeq (sSet 7 (xIf (xb (x2 (eqX true) (xName 3) (xLst (xNil)))) (xCallF (drawT dp dq d c) (xCons (xName 0) (xCons (xC (T.int 3)) (xNil)))) (xC (T.int 0))))
    (sSeq (sIf (xb (x2 (eqX false) (xName 7) (xC (T.int 0)))) (sRet (xTup (xCons (xC (T.str "part")) (xCons (xName 4) (xNil))))) (sSkip))
    (sRet (xIf (xb (x2 (eqX false) (xName 7) (xC (T.int 1)))) (xTup (xCons (xC (T.str "around")) (xCons (xCallF (f_law_pick d c) (xCons (xName 0) (xCons (xName 3) (xNil)))) (xCons (xName 4) (xNil))))) (xTup (xCons (xC (T.str "inside")) (xCons (xName 4) (xCons (xCallF (f_law_pick d c) (xCons (xName 0) (xCons (xName 3) (xNil)))) (xNil)))))))))
def f_law_need (d c : Addr) : FF (deckZ d c) := bodyF 3 8 (g_law_need d c)
theorem ok_law_need (T : Txt K mg) (d c : Addr) : FnOk P w K mg base CX0 3 T.d_law_need.f T.d_law_need.fd ["_law_deck_here", "_law_kinds", "_law_many"] (spS K (deckZ d c) (f_law_need d c)) :=
  fn_def T.d_law_need.F sc_law_need fun cdv A out z H E hr =>
    ss_cons (sx_par (i := 3) (j := 4) rfl sc_law_need.nd rfl rfl (el_cons (ex_of_new (en_lc (own := [("_law_kind", 5), ("_law_number", 6)]) rfl sc_law_need.nd (ix_tupl (ex_name 1)) (blkOk_by (own := [("_law_kind", 5), ("_law_number", 6)]) (N := n_law_need) (sc := defScope s_law_need) (by decide +kernel)) (gb_two sc_law_need.nd rfl rfl (by decide) (fun _ _ => by first | exact Or.inl rfl | exact Or.inr rfl) (fun _ _ => by first | exact Or.inr rfl | exact Or.inl rfl) (fun _ _ => by first | exact Or.inl rfl | exact Or.inr rfl) (fun _ _ => by first | exact Or.inr rfl | exact Or.inl rfl)) rfl (fun _ _ _ _ _ => ets_one (eb_cmp (or_eq hr.units) o2_eq (ex_name 6) (ex_int) (nomark _))) (fun _ _ _ _ _ => ex_name 5))) (el_cons (ex_call (ok_draw T.d_law_draw.F ⟨T.b_int, T.b_list⟩ d c) (hr.mono (by decide)) (by rfl) T.d_law_draw.m T.d_law_draw.F.kp T.d_law_draw.b (el_cons (ex_name 0) (el_cons (ex_name 2) (el_nil)))) (el_nil))))
    (ss_cons (sx_set (i := 7) sc_law_need.nd rfl (ex_if (eb_cmp (or_ne hr.units) o2_eq (ex_name 3) (ex_of_new (en_lst (el_nil))) (nomark _)) (ex_call (ok_draw T.d_law_draw.F ⟨T.b_int, T.b_list⟩ d c) (hr.mono (by decide)) (by rfl) T.d_law_draw.m T.d_law_draw.F.kp T.d_law_draw.b (el_cons (ex_name 0) (el_cons (ex_int) (el_nil)))) (ex_int)))
    (ss_cons (sx_if (eb_cmp (or_eq hr.units) o2_eq (ex_name 7) (ex_int) (nomark _)) (ss_one (sx_ret (ex_tup (el_cons (ex_str) (el_cons (ex_name 4) (el_nil)))))) (ss_nil))
    (ss_one (sx_ret (ex_if (eb_cmp (or_eq hr.units) o2_eq (ex_name 7) (ex_int) (nomark _)) (ex_tup (el_cons (ex_str) (el_cons (ex_call (ok_law_pick T d c) (hr.mono (by decide)) (by rfl) T.d_law_pick.m T.d_law_pick.F.kp T.d_law_pick.b (el_cons (ex_name 0) (el_cons (ex_name 3) (el_nil)))) (el_cons (ex_name 4) (el_nil))))) (ex_tup (el_cons (ex_str) (el_cons (ex_name 4) (el_cons (ex_call (ok_law_pick T d c) (hr.mono (by decide)) (by rfl) T.d_law_pick.m T.d_law_pick.F.kp T.d_law_pick.b (el_cons (ex_name 0) (el_cons (ex_name 3) (el_nil)))) (el_nil))))))))))
abbrev n_law_plan : List Str := ["_law_deck_here", "_law_pool", "_law_kinds", "_law_k", "_law_some", "_law_kind", "_law_many", "_law_needs", "_law_j"]
theorem sc_law_plan : FnScope n_law_plan ["_law_deck_here"] (defScope s_law_plan) := ⟨rfl, rfl, rfl, by decide +kernel, rfl, by decide +kernel, by decide +kernel⟩
def g_law_plan (d c : Addr) : SF (deckZ d c) :=
  sSeq (sIf (xb (x2 (eqX false) (xCallF (drawT dp dq d c) (xCons (xName 0) (xCons (xC (T.int 3)) (xNil)))) (xC (T.int 0)))) (sRet (xCallP (f_law_standard) xNil)) (sSkip))
    (sSeq (sParN 1 2 true true (xLst (xCons (xC (T.str "box")) (xCons (xC (T.str "half")) (xCons (xC (T.str "k")) (xCons (xC (T.str "lock")) (xCons (xC (T.str "open")) (xCons (xC (T.str "pair")) (xCons (xC (T.str "zzzzzzzz")) (xNil))))))))) (xLst (xNil)))
    (sSeq (sForE (iRng (x2 addX (xC (T.int 1)) (xCallF (drawT dp dq d c) (xCons (xName 0) (xCons (xC (T.int 4)) (xNil)))))) (gSet 3) (sDropO (oApp 2 (oTup (oCons (oPopAt 1 (xCallF (drawT dp dq d c) (xCons (xName 0) (xCons (xRead 1 (xCall lenT (xCons (xName 1) (xNil)))) (xNil))))) (oCons (oPure (x2 addX (xC (T.int 1)) (xCallF (drawT dp dq d c) (xCons (xName 0) (xCons (xC (T.int 3)) (xNil)))))) (oNil)))))))
    (sFreeze 2 (sSeq (sParN 2 4 false true (xCall tupleT (xCons (xCall sortedT (xCons (xName 2) (xNil))) (xNil))) (xLst (xNil)))
    (sSeq (sForE (iRng (xCallF (drawT dp dq d c) (xCons (xName 0) (xCons (xC (T.int 5)) (xNil))))) (gSet 3) (sSeq (sAsg (xCallF (f_law_pick d c) (xCons (xName 0) (xCons (xName 2) (xNil)))) (gTupT 2 (gsCons (gSet 5) (gsCons (gSet 6) (gsNil)))))
    (sSeq (sSetO 7 (xLc [8] (iRng (xCallF (f_law_pick d c) (xCons (xName 0) (xCons (xLst (xCons (xC (T.int 0)) (xCons (xC (T.int 1)) (xCons (xC (T.int 1)) (xCons (xC (T.int 2)) (xNil)))))) (xNil))))) (gSet 8) (xYes) (xCallF (f_law_need d c) (xCons (xName 0) (xCons (xName 2) (xCons (xName 6) (xNil)))))))
    (sFreeze 7 (sDropO (oApp 4 (oPure (xTup (xCons (x2 ixT (xLst (xCons (xC (T.str "y")) (xCons (xC (T.str "first")) (xCons (xC (T.str "get")) (xCons (xC (T.str "untie")) (xNil)))))) (xName 3)) (xCons (xName 5) (xCons (xCallF (drawT dp dq d c) (xCons (xName 0) (xCons (xName 6) (xNil)))) (xCons (xCall tupleT (xCons (xName 7) (xNil))) (xNil)))))))))))))
    (sFreeze 4 (sRet (xDict [Sum.inr "kinds", Sum.inr "openings"] (xCons (xName 2) (xCons (xCall tupleT (xCons (xCall sortedT (xCons (xName 4) (xNil))) (xNil))) (xNil)))))))))))
def f_law_plan (d c : Addr) : FF (deckZ d c) := bodyF 1 9 (g_law_plan d c)
theorem ok_law_plan (T : Txt K mg) (d c : Addr) : FnOk P w K mg base CX0 4 T.d_law_plan.f T.d_law_plan.fd ["_law_deck_here"] (spS K (deckZ d c) (f_law_plan d c)) :=
  fn_def T.d_law_plan.F sc_law_plan fun cdv A out z H E hr =>
    ss_cons (sx_if (eb_cmp (or_eq hr.units) o2_eq (ex_call (ok_draw T.d_law_draw.F ⟨T.b_int, T.b_list⟩ d c) (hr.mono (by decide)) (by rfl) T.d_law_draw.m T.d_law_draw.F.kp T.d_law_draw.b (el_cons (ex_name 0) (el_cons (ex_int) (el_nil)))) (ex_int) (nomark _)) (ss_one (sx_ret (ex_callP0 (ok_law_standard T) (hr.mono (by decide)) (by rfl) T.d_law_standard.m T.d_law_standard.F.kp T.d_law_standard.b))) (ss_nil))
    (ss_cons (sx_asgN (i := 1) (j := 2) (k := true) (l := true) rfl sc_law_plan.nd rfl rfl (en_lst (el_cons (ex_str) (el_cons (ex_str) (el_cons (ex_str) (el_cons (ex_str) (el_cons (ex_str) (el_cons (ex_str) (el_cons (ex_str) (el_nil))))))))) (en_lst (el_nil)))
    (ss_cons (sx_for PassesOwn.never rfl (ix_rng (by rfl) T.b_range (ex_add (ex_int) (ex_call (ok_draw T.d_law_draw.F ⟨T.b_int, T.b_list⟩ d c) (hr.mono (by decide)) (by rfl) T.d_law_draw.m T.d_law_draw.F.kp T.d_law_draw.b (el_cons (ex_name 0) (el_cons (ex_int) (el_nil)))))) (gx_name sc_law_plan.nd) (ss_one (sx_exprO (xo_app 2 (xo_tup (elo_cons (xo_popAt 1 (ex_call (ok_draw T.d_law_draw.F ⟨T.b_int, T.b_list⟩ d c) (hr.mono (by decide)) (by rfl) T.d_law_draw.m T.d_law_draw.F.kp T.d_law_draw.b (el_cons (ex_name 0) (el_cons (ex_read 1 (ex_callB call_len op1_len (by rfl) T.b_len (el_cons (ex_name 1) (el_nil)))) (el_nil))))) (elo_cons (xo_of (ex_add (ex_int) (ex_call (ok_draw T.d_law_draw.F ⟨T.b_int, T.b_list⟩ d c) (hr.mono (by decide)) (by rfl) T.d_law_draw.m T.d_law_draw.F.kp T.d_law_draw.b (el_cons (ex_name 0) (el_cons (ex_int) (el_nil)))))) (elo_nil))))))))
    (ss_freeze 2 (ss_cons (sx_asgN (i := 2) (j := 4) (k := false) (l := true) rfl sc_law_plan.nd rfl rfl (ex_callTy call_tuple_of op1_tuple (by rfl) T.b_tuple (el_cons (ex_of_new (en_callB (call_sorted rfl) op_sorted (by rfl) T.b_sorted (el_cons (ex_name 2) (el_nil)))) (el_nil))) (en_lst (el_nil)))
    (ss_cons (sx_for PassesOwn.never rfl (ix_rng (by rfl) T.b_range (ex_call (ok_draw T.d_law_draw.F ⟨T.b_int, T.b_list⟩ d c) (hr.mono (by decide)) (by rfl) T.d_law_draw.m T.d_law_draw.F.kp T.d_law_draw.b (el_cons (ex_name 0) (el_cons (ex_int) (el_nil))))) (gx_name sc_law_plan.nd) (ss_cons (sx_asg (ex_call (ok_law_pick T d c) (hr.mono (by decide)) (by rfl) T.d_law_pick.m T.d_law_pick.F.kp T.d_law_pick.b (el_cons (ex_name 0) (el_cons (ex_name 2) (el_nil)))) (gx_tup rfl (gxs_cons (gx_name sc_law_plan.nd) (gxs_cons (gx_name sc_law_plan.nd) (gxs_nil)))))
    (ss_cons (sx_setLc (own := [("_law_j", 8)]) (i := 7) rfl sc_law_plan.nd rfl rfl rfl (ix_rng (by rfl) T.b_range (ex_call (ok_law_pick T d c) (hr.mono (by decide)) (by rfl) T.d_law_pick.m T.d_law_pick.F.kp T.d_law_pick.b (el_cons (ex_name 0) (el_cons (ex_of_new (en_lst (el_cons (ex_int) (el_cons (ex_int) (el_cons (ex_int) (el_cons (ex_int) (el_nil))))))) (el_nil))))) (blkOk_by (own := [("_law_j", 8)]) (N := n_law_plan) (sc := defScope s_law_plan) (by decide +kernel)) (gb_name sc_law_plan.nd rfl (fun _ _ => by first | exact Or.inl rfl | exact Or.inr rfl) (fun _ _ => by first | exact Or.inr rfl | exact Or.inl rfl)) rfl (fun _ _ _ _ _ => ets_nil) (fun _ _ _ _ _ => ex_call (ok_law_need T d c) (hr.mono (by decide)) (by rfl) T.d_law_need.m T.d_law_need.F.kp T.d_law_need.b (el_cons (ex_name 0) (el_cons (ex_name 2) (el_cons (ex_name 6) (el_nil))))))
    (ss_freeze 7 (ss_one (sx_exprO (xo_app 4 (xo_of (ex_tup (el_cons (ex_ix ix_seq op2_ix (ex_of_new (en_lst (el_cons (ex_str) (el_cons (ex_str) (el_cons (ex_str) (el_cons (ex_str) (el_nil))))))) (ex_name 3)) (el_cons (ex_name 5) (el_cons (ex_call (ok_draw T.d_law_draw.F ⟨T.b_int, T.b_list⟩ d c) (hr.mono (by decide)) (by rfl) T.d_law_draw.m T.d_law_draw.F.kp T.d_law_draw.b (el_cons (ex_name 0) (el_cons (ex_name 6) (el_nil)))) (el_cons (ex_callTy call_tuple_of op1_tuple (by rfl) T.b_tuple (el_cons (ex_name 7) (el_nil))) (el_nil))))))))))))))
    (ss_freeze 4 (ss_one (sx_ret (ex_of_new (en_dict (ed_cons (ex_name 2) (ed_cons (ex_callTy call_tuple_of op1_tuple (by rfl) T.b_tuple (el_cons (ex_of_new (en_callB (call_sorted rfl) op_sorted (by rfl) T.b_sorted (el_cons (ex_name 4) (el_nil)))) (el_nil))) (ed_nil)))))))))))))
abbrev n_law_thing : List Str := ["_law_deck_here", "_law_w", "_law_deep", "_law_kind", "_law_many", "_law_k"]
theorem sc_law_thing : FnScope n_law_thing ["_law_deck_here", "_law_w", "_law_deep"] (defScope s_law_thing) := ⟨rfl, rfl, rfl, by decide +kernel, rfl, by decide +kernel, by decide +kernel⟩
def g_law_thing (d c : Addr) (fr : FF (deckZ d c)) : SF (deckZ d c) :=
  sSeq (sIf (xbOr (xb (x2 (eqX false) (xName 2) (xC (T.int 0)))) (xb (x2 (eqX false) (xCallF (drawT dp dq d c) (xCons (xName 0) (xCons (xC (T.int 4)) (xNil)))) (xC (T.int 0))))) (sRet (xCallF (f_law_pick d c) (xCons (xName 0) (xCons (xLst (xCons (xC (T.str "a")) (xCons (xC (T.str "b")) (xCons (x2 ixT (x2 ixT (x2 dgetT (xName 1) (xC (T.str "kinds"))) (xC (T.int 0))) (xC (T.int 0))) (xCons (xC (T.str "zzzzzzzz")) (xCons (xC (T.str "K")) (xCons (xC (T.str "K")) (xCons (xC (T.str "L")) (xCons (xC (T.str "K0")) (xCons (xC (T.str "Zabcdef7")) (xCons (xC (T.str "A")) (xNil)))))))))))) (xNil))))) (sSkip))
    (sSeq (sAsg (xCallF (f_law_pick d c) (xCons (xName 0) (xCons (x2 dgetT (xName 1) (xC (T.str "kinds"))) (xNil)))) (gTupT 2 (gsCons (gSet 3) (gsCons (gSet 4) (gsNil)))))
    (sRet (x2 addX (xTup (xCons (xName 3) (xNil))) (xCall tupleT (xCons (xLc [5] (iRng (xName 4)) (gSet 5) (xYes) (xCallF (fr) (xCons (xName 0) (xCons (xName 1) (xCons (x2 subI (xName 2) (xC (T.int 1))) (xNil)))))) (xNil))))))
def f_law_thing (d c : Addr) : Nat → FF (deckZ d c)
  | 0 => fun _ _ => none
  | n + 1 => bodyF 3 6 (g_law_thing d c (f_law_thing d c n))
theorem ok_law_thing (T : Txt K mg) (d c : Addr) : ∀ n : Nat, FnOk P w K mg base CX0 (3 + n) T.d_law_thing.f T.d_law_thing.fd ["_law_deck_here", "_law_w", "_law_deep"] (spS K (deckZ d c) (f_law_thing d c n))
  | 0 => fn_vac T.d_law_thing.F sc_law_thing
  | n + 1 => fn_def T.d_law_thing.F sc_law_thing fun cdv A out z H E hr =>
    ss_cons (sx_if (eb_w (ew_or (eb_cmp (or_eq hr.units) o2_eq (ex_name 2) (ex_int) (nomark _)) (ew_or1 (eb_cmp (or_eq hr.units) o2_eq (ex_call (ok_draw T.d_law_draw.F ⟨T.b_int, T.b_list⟩ d c) (hr.mono (Nat.le_trans (by decide : 1 ≤ 3) (Nat.le_add_right 3 n))) (by rfl) T.d_law_draw.m T.d_law_draw.F.kp T.d_law_draw.b (el_cons (ex_name 0) (el_cons (ex_int) (el_nil)))) (ex_int) (nomark _))))) (ss_one (sx_ret (ex_call (ok_law_pick T d c) (hr.mono (Nat.le_trans (by decide : 2 ≤ 3) (Nat.le_add_right 3 n))) (by rfl) T.d_law_pick.m T.d_law_pick.F.kp T.d_law_pick.b (el_cons (ex_name 0) (el_cons (ex_of_new (en_lst (el_cons (ex_str) (el_cons (ex_str) (el_cons (ex_ix ix_seq op2_ix (ex_ix ix_seq op2_ix (ex_dget (hu_of hr) (ex_name 1) (ex_str)) (ex_int)) (ex_int)) (el_cons (ex_str) (el_cons (ex_str) (el_cons (ex_str) (el_cons (ex_str) (el_cons (ex_str) (el_cons (ex_str) (el_cons (ex_str) (el_nil))))))))))))) (el_nil)))))) (ss_nil))
    (ss_cons (sx_asg (ex_call (ok_law_pick T d c) (hr.mono (Nat.le_trans (by decide : 2 ≤ 3) (Nat.le_add_right 3 n))) (by rfl) T.d_law_pick.m T.d_law_pick.F.kp T.d_law_pick.b (el_cons (ex_name 0) (el_cons (ex_dget (hu_of hr) (ex_name 1) (ex_str)) (el_nil)))) (gx_tup rfl (gxs_cons (gx_name sc_law_thing.nd) (gxs_cons (gx_name sc_law_thing.nd) (gxs_nil)))))
    (ss_one (sx_ret (ex_add (ex_tup (el_cons (ex_name 3) (el_nil))) (ex_callTy call_tuple_of op1_tuple (by rfl) T.b_tuple (el_cons (ex_of_new (en_lc (own := [("_law_k", 5)]) rfl sc_law_thing.nd (ix_rng (by rfl) T.b_range (ex_name 4)) (blkOk_by (own := [("_law_k", 5)]) (N := n_law_thing) (sc := defScope s_law_thing) (by decide +kernel)) (gb_name sc_law_thing.nd rfl (fun _ _ => by first | exact Or.inl rfl | exact Or.inr rfl) (fun _ _ => by first | exact Or.inr rfl | exact Or.inl rfl)) rfl (fun _ _ _ _ _ => ets_nil) (fun _ _ _ _ _ => ex_call (ok_law_thing T d c n) (hr.mono (Nat.le_refl _)) (by rfl) T.d_law_thing.m T.d_law_thing.F.kp T.d_law_thing.b (el_cons (ex_name 0) (el_cons (ex_name 1) (el_cons (ex_sub (ex_name 2) (ex_int)) (el_nil))))))) (el_nil)))))))
abbrev n_law_text : List Str := ["_law_it", "_law_part"]
theorem sc_law_text : FnScope n_law_text ["_law_it"] (defScope s_law_text) := ⟨rfl, rfl, rfl, by decide +kernel, rfl, by decide +kernel, by decide +kernel⟩
def g_law_text (fr : FP) : SF Z0 :=
  sSeq (sIf (xTru (xIs "str" (xName 0))) (sRet (xName 0)) (sSkip))
    (sRet (x2 addX (x2 addX (x2 addX (x2 ixT (xName 0) (xC (T.int 0))) (xC (T.str "("))) (xMeth "str" joinT (xC (T.str ",")) (xCons (xLc [1] (iTupl (xCut (xName 0) (oSome (xC (T.int 1))) (oNone))) (gSet 1) (xYes) (xCallP (fr) (xCons (xName 1) (xNil)))) (xNil)))) (xC (T.str ")"))))
def f_law_text : Nat → FP
  | 0 => fun _ => none
  | n + 1 => fpOf (bodyF 1 2 (g_law_text (f_law_text n)))
theorem ok_law_text (T : Txt K mg) : ∀ n : Nat, FnOk P w K mg base CX0 (1 + n) T.d_law_text.f T.d_law_text.fd ["_law_it"] (spP K (f_law_text n))
  | 0 => fn_vacP T.d_law_text.F sc_law_text
  | n + 1 => fn_defP T.d_law_text.F sc_law_text fun cdv A out z H E hr =>
    ss_cons (sx_if (eb_tru (ex_isi (n := "str") (by rfl) T.b_isinstance (ex_name 0) (by rfl) T.b_str)) (ss_one (sx_ret (ex_name 0))) (ss_nil))
    (ss_one (sx_ret (ex_add (ex_add (ex_add (ex_ix ix_seq op2_ix (ex_name 0) (ex_int)) (ex_str)) (ex_m PySem.F.plainAttrs_str PySem.F.slot_str_join PySem.F.type_str_join mt_join opm_join (ex_str) (el_cons (ex_of_new (en_lc (own := [("_law_part", 1)]) rfl sc_law_text.nd (ix_tupl (ex_cut (ex_name 0) (eo_some (ex_int)) (eo_none))) (blkOk_by (own := [("_law_part", 1)]) (N := n_law_text) (sc := defScope s_law_text) (by decide +kernel)) (gb_name sc_law_text.nd rfl (fun _ _ => by first | exact Or.inl rfl | exact Or.inr rfl) (fun _ _ => by first | exact Or.inr rfl | exact Or.inl rfl)) rfl (fun _ _ _ _ _ => ets_nil) (fun _ _ _ _ _ => ex_callP (ok_law_text T n) (hr.mono (Nat.le_refl _)) (by rfl) T.d_law_text.m T.d_law_text.F.kp T.d_law_text.b (el_cons (ex_name 1) (el_nil))))) (el_nil)))) (ex_str))))
abbrev n_law_in_order : List Str := ["_law_some", "_law_known", "_law_it", "_law_text_here"]
theorem sc_law_in_order : FnScope n_law_in_order ["_law_some"] (defScope s_law_in_order) := ⟨rfl, rfl, rfl, by decide +kernel, rfl, by decide +kernel, by decide +kernel⟩
def g_law_in_order : SF Z0 :=
  sSeq (sSet 1 (xCall dictPT (xCons (xLc [2] (iSeq (xName 0)) (gSet 2) (xYes) (xTup (xCons (xCallP (f_law_text 5) (xCons (xName 2) (xNil))) (xCons (xName 2) (xNil))))) (xNil))))
    (sRet (xCall tupleT (xCons (xLc [3] (iSeq (xCall sortedT (xCons (xName 1) (xNil)))) (gSet 3) (xYes) (x2 dgetT (xName 1) (xName 3))) (xNil))))
def f_law_in_order : FP := fpOf (bodyF 1 4 g_law_in_order)
theorem ok_law_in_order (T : Txt K mg) : FnOk P w K mg base CX0 7 T.d_law_in_order.f T.d_law_in_order.fd ["_law_some"] (spP K f_law_in_order) :=
  fn_defP T.d_law_in_order.F sc_law_in_order fun cdv A out z H E hr =>
    ss_cons (sx_set (i := 1) sc_law_in_order.nd rfl (ex_of_new (en_callTy (call_dictP rfl) op_dictPT (by rfl) T.b_dict (el_cons (ex_of_new (en_lc (own := [("_law_it", 2)]) rfl sc_law_in_order.nd (ix_lst (ex_name 0)) (blkOk_by (own := [("_law_it", 2)]) (N := n_law_in_order) (sc := defScope s_law_in_order) (by decide +kernel)) (gb_name sc_law_in_order.nd rfl (fun _ _ => by first | exact Or.inl rfl | exact Or.inr rfl) (fun _ _ => by first | exact Or.inr rfl | exact Or.inl rfl)) rfl (fun _ _ _ _ _ => ets_nil) (fun _ _ _ _ _ => ex_tup (el_cons (ex_callP (ok_law_text T 5) (hr.mono (by decide)) (by rfl) T.d_law_text.m T.d_law_text.F.kp T.d_law_text.b (el_cons (ex_name 2) (el_nil))) (el_cons (ex_name 2) (el_nil)))))) (el_nil)))))
    (ss_one (sx_ret (ex_callTy call_tuple_of op1_tuple (by rfl) T.b_tuple (el_cons (ex_of_new (en_lc (own := [("_law_text_here", 3)]) rfl sc_law_in_order.nd (ix_lst (ex_of_new (en_callB (call_sorted rfl) op_sorted (by rfl) T.b_sorted (el_cons (ex_name 1) (el_nil))))) (blkOk_by (own := [("_law_text_here", 3)]) (N := n_law_in_order) (sc := defScope s_law_in_order) (by decide +kernel)) (gb_name sc_law_in_order.nd rfl (fun _ _ => by first | exact Or.inl rfl | exact Or.inr rfl) (fun _ _ => by first | exact Or.inr rfl | exact Or.inl rfl)) rfl (fun _ _ _ _ _ => ets_nil) (fun _ _ _ _ _ => ex_dget (hu_of hr) (ex_name 1) (ex_name 3)))) (el_nil)))))
abbrev n_law_pieces : List Str := ["_law_it", "_law_found", "_law_part"]
theorem sc_law_pieces : FnScope n_law_pieces ["_law_it"] (defScope s_law_pieces) := ⟨rfl, rfl, rfl, by decide +kernel, rfl, by decide +kernel, by decide +kernel⟩
def g_law_pieces (fr : FP) : SF Z0 :=
  sSeq (sSet 1 (xLst (xCons (xName 0) (xNil))))
    (sSeq (sIf (xbNot (xTru (xIs "str" (xName 0)))) (sForE (iTupl (xCut (xName 0) (oSome (xC (T.int 1))) (oNone))) (gSet 2) (sSet 1 (x2 addX (xName 1) (xCallP (fr) (xCons (xName 2) (xNil)))))) (sSkip))
    (sRet (xName 1)))
def f_law_pieces : Nat → FP
  | 0 => fun _ => none
  | n + 1 => fpOf (bodyF 1 3 (g_law_pieces (f_law_pieces n)))
theorem ok_law_pieces (T : Txt K mg) : ∀ n : Nat, FnOk P w K mg base CX0 (1 + n) T.d_law_pieces.f T.d_law_pieces.fd ["_law_it"] (spP K (f_law_pieces n))
  | 0 => fn_vacP T.d_law_pieces.F sc_law_pieces
  | n + 1 => fn_defP T.d_law_pieces.F sc_law_pieces fun cdv A out z H E hr =>
    ss_cons (sx_set (i := 1) sc_law_pieces.nd rfl (ex_of_new (en_lst (el_cons (ex_name 0) (el_nil)))))
    (ss_cons (sx_if (eb_not (eb_tru (ex_isi (n := "str") (by rfl) T.b_isinstance (ex_name 0) (by rfl) T.b_str))) (ss_one (sx_for PassesOwn.never rfl (ix_tupl (ex_cut (ex_name 0) (eo_some (ex_int)) (eo_none))) (gx_name sc_law_pieces.nd) (ss_one (sx_set (i := 1) sc_law_pieces.nd rfl (ex_add (ex_name 1) (ex_callP (ok_law_pieces T n) (hr.mono (Nat.le_refl _)) (by rfl) T.d_law_pieces.m T.d_law_pieces.F.kp T.d_law_pieces.b (el_cons (ex_name 2) (el_nil)))))))) (ss_nil))
    (ss_one (sx_ret (ex_name 1))))
abbrev n_law_is_name : List Str := ["_law_it", "_law_signs", "_law_sign"]
theorem sc_law_is_name : FnScope n_law_is_name ["_law_it"] (defScope s_law_is_name) := ⟨rfl, rfl, rfl, by decide +kernel, rfl, by decide +kernel, by decide +kernel⟩
def g_law_is_name : SF Z0 :=
  sSeq (sSet 1 (xC (T.str "abcdefghijklmnopqrstuvwxyz0123456789")))
    (sSeq (sIf (xbOr (xbNot (xTru (xIs "str" (xName 0)))) (xbOr (xbNot (xb (x3 ltX ltX (xC (T.int 0)) (xCall lenT (xCons (xName 0) (xNil))) (xC (T.int 9))))) (xb (x2 (inS true) (x2 ixT (xName 0) (xC (T.int 0))) (xC (T.str "ABCDEFGHIJKLMNOPQRSTUVWXYZ")))))) (sRet (xC (T.bl false))) (sSkip))
    (sRet (x2 (eqX false) (xLc [2] (iStr (xCut (xName 0) (oSome (xC (T.int 1))) (oNone))) (gSet 2) (xb (x2 (inS true) (xName 2) (xName 1))) (xName 2)) (xLst (xNil)))))
def f_law_is_name : FP := fpOf (bodyF 1 3 g_law_is_name)
theorem ok_law_is_name (T : Txt K mg) : FnOk P w K mg base CX0 1 T.d_law_is_name.f T.d_law_is_name.fd ["_law_it"] (spP K f_law_is_name) :=
  fn_defP T.d_law_is_name.F sc_law_is_name fun cdv A out z H E hr =>
    ss_cons (sx_set (i := 1) sc_law_is_name.nd rfl (ex_str))
    (ss_cons (sx_if (eb_w (ew_or (eb_not (eb_tru (ex_isi (n := "str") (by rfl) T.b_isinstance (ex_name 0) (by rfl) T.b_str))) (ew_or (eb_not (eb_chain or_lt o2_lt or_lt o2_lt (ex_int) (ex_callB call_len op1_len (by rfl) T.b_len (el_cons (ex_name 0) (el_nil))) (ex_int))) (ew_or1 (eb_cmp or_ni op2_inS (ex_ix ix_seq op2_ix (ex_name 0) (ex_int)) (ex_str) (by rfl)))))) (ss_one (sx_ret (ex_bl))) (ss_nil))
    (ss_one (sx_ret (ex_cmp (or_eq hr.units) o2_eq (ex_of_new (en_lc (own := [("_law_sign", 2)]) rfl sc_law_is_name.nd (ix_str' (ex_cut (ex_name 0) (eo_some (ex_int)) (eo_none))) (blkOk_by (own := [("_law_sign", 2)]) (N := n_law_is_name) (sc := defScope s_law_is_name) (by decide +kernel)) (gb_name sc_law_is_name.nd rfl (fun _ _ => by first | exact Or.inl rfl | exact Or.inr rfl) (fun _ _ => by first | exact Or.inr rfl | exact Or.inl rfl)) rfl (fun _ _ _ _ _ => ets_one (eb_cmp or_ni op2_inS (ex_name 2) (ex_name 1) (by rfl))) (fun _ _ _ _ _ => ex_name 2))) (ex_of_new (en_lst (el_nil))) (nomark _)))))
abbrev n_law_put : List Str := ["_law_it", "_law_name", "_law_other", "_law_part"]
theorem sc_law_put : FnScope n_law_put ["_law_it", "_law_name", "_law_other"] (defScope s_law_put) := ⟨rfl, rfl, rfl, by decide +kernel, rfl, by decide +kernel, by decide +kernel⟩
def g_law_put (fr : FP) : SF Z0 :=
  sSeq (sIf (xTru (xIs "str" (xName 0))) (sRet (xIf (xb (x2 (eqX false) (xName 0) (xName 1))) (xName 2) (xName 0))) (sSkip))
    (sRet (x2 addX (xCut (xName 0) (oNone) (oSome (xC (T.int 1)))) (xCall tupleT (xCons (xLc [3] (iTupl (xCut (xName 0) (oSome (xC (T.int 1))) (oNone))) (gSet 3) (xYes) (xCallP (fr) (xCons (xName 3) (xCons (xName 1) (xCons (xName 2) (xNil)))))) (xNil)))))
def f_law_put : Nat → FP
  | 0 => fun _ => none
  | n + 1 => fpOf (bodyF 3 4 (g_law_put (f_law_put n)))
theorem ok_law_put (T : Txt K mg) : ∀ n : Nat, FnOk P w K mg base CX0 (1 + n) T.d_law_put.f T.d_law_put.fd ["_law_it", "_law_name", "_law_other"] (spP K (f_law_put n))
  | 0 => fn_vacP T.d_law_put.F sc_law_put
  | n + 1 => fn_defP T.d_law_put.F sc_law_put fun cdv A out z H E hr =>
    ss_cons (sx_if (eb_tru (ex_isi (n := "str") (by rfl) T.b_isinstance (ex_name 0) (by rfl) T.b_str)) (ss_one (sx_ret (ex_if (eb_cmp (or_eq hr.units) o2_eq (ex_name 0) (ex_name 1) (nomark _)) (ex_name 2) (ex_name 0)))) (ss_nil))
    (ss_one (sx_ret (ex_add (ex_cut (ex_name 0) (eo_none) (eo_some (ex_int))) (ex_callTy call_tuple_of op1_tuple (by rfl) T.b_tuple (el_cons (ex_of_new (en_lc (own := [("_law_part", 3)]) rfl sc_law_put.nd (ix_tupl (ex_cut (ex_name 0) (eo_some (ex_int)) (eo_none))) (blkOk_by (own := [("_law_part", 3)]) (N := n_law_put) (sc := defScope s_law_put) (by decide +kernel)) (gb_name sc_law_put.nd rfl (fun _ _ => by first | exact Or.inl rfl | exact Or.inr rfl) (fun _ _ => by first | exact Or.inr rfl | exact Or.inl rfl)) rfl (fun _ _ _ _ _ => ets_nil) (fun _ _ _ _ _ => ex_callP (ok_law_put T n) (hr.mono (Nat.le_refl _)) (by rfl) T.d_law_put.m T.d_law_put.F.kp T.d_law_put.b (el_cons (ex_name 3) (el_cons (ex_name 1) (el_cons (ex_name 2) (el_nil))))))) (el_nil))))))
abbrev n_law_right : List Str := ["_law_it", "_law_was", "_law_every", "_law_names", "_law_piece", "_law_due"]
theorem sc_law_right : FnScope n_law_right ["_law_it"] (defScope s_law_right) := ⟨rfl, rfl, rfl, by decide +kernel, rfl, by decide +kernel, by decide +kernel⟩
def g_law_right : SF Z0 :=
  sSeq (sPar 1 2 (xCons (xCall reprT2 (xCons (xName 0) (xNil))) (xCons (xCallP (f_law_pieces 5) (xCons (xName 0) (xNil))) (xNil))))
    (sSeq (sSet 3 (xCallP (f_law_in_order) (xCons (xLc [4] (iSeq (xName 2)) (gSet 4) (xbAnd (xTru (xIs "str" (xName 4))) (xTru (xCallP (f_law_is_name) (xCons (xName 4) (xNil))))) (xName 4)) (xNil))))
    (sSeq (sSet 5 (xLst (xCons (xCallP (f_law_text 5) (xCons (xName 0) (xNil))) (xCons (xCallP (f_law_in_order) (xCons (xName 2) (xNil))) (xCons (xCall lenT (xCons (xName 2) (xNil))) (xCons (xName 3) (xNil)))))))
    (sSeq (sIf (xb (x2 (eqX true) (xCall reprT2 (xCons (xLst (xCons (xCallP (f_text_of) (xCons (xName 0) (xNil))) (xCons (xCallP (f_pieces_of) (xCons (xName 0) (xNil))) (xCons (xCallP (f_size_of) (xCons (xName 0) (xNil))) (xCons (xCallP (f_names_in) (xCons (xName 0) (xNil))) (xNil)))))) (xNil))) (xCall reprT2 (xCons (xName 5) (xNil))))) (sRet (xC (T.bl false))) (sSkip))
    (sSeq (sIf (xb (x2 (eqX true) (xCall reprT2 (xCons (xLst (xCons (xCallP (f_text_of) (xOrd 1 [0] (xCons (xName 0) (xNil)))) (xCons (xCallP (f_pieces_of) (xOrd 1 [0] (xCons (xName 0) (xNil)))) (xCons (xCallP (f_size_of) (xOrd 1 [0] (xCons (xName 0) (xNil)))) (xCons (xCallP (f_names_in) (xOrd 1 [0] (xCons (xName 0) (xNil)))) (xNil)))))) (xNil))) (xCall reprT2 (xCons (xName 5) (xNil))))) (sRet (xC (T.bl false))) (sSkip))
    (sRet (x2 (eqX false) (xCall reprT2 (xCons (xName 0) (xNil))) (xName 1)))))))
def f_law_right : FP := fpOf (bodyF 1 6 g_law_right)
theorem ok_law_right (T : Txt K mg) : FnG P w K mg base 8 T.d_law_right.f T.d_law_right.fd ["_law_it"] (spP K f_law_right) :=
  fn_defGP T.d_law_right.F sc_law_right fun cdv A out z H E gd hr =>
    ss_cons (sx_par (i := 1) (j := 2) rfl sc_law_right.nd rfl rfl (el_cons (ex_callB (call_repr2 gd hr.units) op1_repr2 (by rfl) T.b_repr (el_cons (ex_name 0) (el_nil))) (el_cons (ex_callP (ok_law_pieces T 5) (hr.mono (by decide)) (by rfl) T.d_law_pieces.m T.d_law_pieces.F.kp T.d_law_pieces.b (el_cons (ex_name 0) (el_nil))) (el_nil))))
    (ss_cons (sx_set (i := 3) sc_law_right.nd rfl (ex_callP (ok_law_in_order T) (hr.mono (by decide)) (by rfl) T.d_law_in_order.m T.d_law_in_order.F.kp T.d_law_in_order.b (el_cons (ex_of_new (en_lc (own := [("_law_piece", 4)]) rfl sc_law_right.nd (ix_lst (ex_name 2)) (blkOk_by (own := [("_law_piece", 4)]) (N := n_law_right) (sc := defScope s_law_right) (by decide +kernel)) (gb_name sc_law_right.nd rfl (fun _ _ => by first | exact Or.inl rfl | exact Or.inr rfl) (fun _ _ => by first | exact Or.inr rfl | exact Or.inl rfl)) rfl (fun _ _ _ _ _ => ets_one (eb_w (ew_and (eb_tru (ex_isi (n := "str") (by rfl) T.b_isinstance (ex_name 4) (by rfl) T.b_str)) (ew_and1 (eb_tru (ex_callP (ok_law_is_name T) (hr.mono (by decide)) (by rfl) T.d_law_is_name.m T.d_law_is_name.F.kp T.d_law_is_name.b (el_cons (ex_name 4) (el_nil)))))))) (fun _ _ _ _ _ => ex_name 4))) (el_nil))))
    (ss_cons (sx_set (i := 5) sc_law_right.nd rfl (ex_of_new (en_lst (el_cons (ex_callP (ok_law_text T 5) (hr.mono (by decide)) (by rfl) T.d_law_text.m T.d_law_text.F.kp T.d_law_text.b (el_cons (ex_name 0) (el_nil))) (el_cons (ex_callP (ok_law_in_order T) (hr.mono (by decide)) (by rfl) T.d_law_in_order.m T.d_law_in_order.F.kp T.d_law_in_order.b (el_cons (ex_name 2) (el_nil))) (el_cons (ex_callB call_len op1_len (by rfl) T.b_len (el_cons (ex_name 2) (el_nil))) (el_cons (ex_name 3) (el_nil))))))))
    (ss_cons (sx_if (eb_cmp (or_ne hr.units) o2_eq (ex_callB (call_repr2 gd hr.units) op1_repr2 (by rfl) T.b_repr (el_cons (ex_of_new (en_lst (el_cons (ex_callP (ok_text_of T) (hr.mono (by decide)) (by rfl) T.d_text_of.m T.d_text_of.F.kp T.d_text_of.b (el_cons (ex_name 0) (el_nil))) (el_cons (ex_callP (ok_pieces_of T) (hr.mono (by decide)) (by rfl) T.d_pieces_of.m T.d_pieces_of.F.kp T.d_pieces_of.b (el_cons (ex_name 0) (el_nil))) (el_cons (ex_callP (ok_size_of T) (hr.mono (by decide)) (by rfl) T.d_size_of.m T.d_size_of.F.kp T.d_size_of.b (el_cons (ex_name 0) (el_nil))) (el_cons (ex_callP (ok_names_in T) (hr.mono (by decide)) (by rfl) T.d_names_in.m T.d_names_in.F.kp T.d_names_in.b (el_cons (ex_name 0) (el_nil))) (el_nil))))))) (el_nil))) (ex_callB (call_repr2 gd hr.units) op1_repr2 (by rfl) T.b_repr (el_cons (ex_name 5) (el_nil))) (nomark _)) (ss_one (sx_ret (ex_bl))) (ss_nil))
    (ss_cons (sx_if (eb_cmp (or_ne hr.units) o2_eq (ex_callB (call_repr2 gd hr.units) op1_repr2 (by rfl) T.b_repr (el_cons (ex_of_new (en_lst (el_cons (ex_callKP (ok_text_of T) (hr.mono (by decide)) (by rfl) T.d_text_of.m T.d_text_of.F.kp (kord (ps := ["thing"]) (ks := ["thing"]) (ix := [0]) T.d_text_of.F (fun _ _ _ _ _ _ us hl => match us, hl with | [_], _ => ⟨rfl, rfl⟩)) (elk_cons (ex_name 0) (elk_nil))) (el_cons (ex_callKP (ok_pieces_of T) (hr.mono (by decide)) (by rfl) T.d_pieces_of.m T.d_pieces_of.F.kp (kord (ps := ["thing"]) (ks := ["thing"]) (ix := [0]) T.d_pieces_of.F (fun _ _ _ _ _ _ us hl => match us, hl with | [_], _ => ⟨rfl, rfl⟩)) (elk_cons (ex_name 0) (elk_nil))) (el_cons (ex_callKP (ok_size_of T) (hr.mono (by decide)) (by rfl) T.d_size_of.m T.d_size_of.F.kp (kord (ps := ["thing"]) (ks := ["thing"]) (ix := [0]) T.d_size_of.F (fun _ _ _ _ _ _ us hl => match us, hl with | [_], _ => ⟨rfl, rfl⟩)) (elk_cons (ex_name 0) (elk_nil))) (el_cons (ex_callKP (ok_names_in T) (hr.mono (by decide)) (by rfl) T.d_names_in.m T.d_names_in.F.kp (kord (ps := ["thing"]) (ks := ["thing"]) (ix := [0]) T.d_names_in.F (fun _ _ _ _ _ _ us hl => match us, hl with | [_], _ => ⟨rfl, rfl⟩)) (elk_cons (ex_name 0) (elk_nil))) (el_nil))))))) (el_nil))) (ex_callB (call_repr2 gd hr.units) op1_repr2 (by rfl) T.b_repr (el_cons (ex_name 5) (el_nil))) (nomark _)) (ss_one (sx_ret (ex_bl))) (ss_nil))
    (ss_one (sx_ret (ex_cmp (or_eq hr.units) o2_eq (ex_callB (call_repr2 gd hr.units) op1_repr2 (by rfl) T.b_repr (el_cons (ex_name 0) (el_nil))) (ex_name 1) (nomark _))))))))
abbrev n_law_put_right : List Str := ["_law_it", "_law_name", "_law_other", "_law_was", "_law_due", "_law_told"]
theorem sc_law_put_right : FnScope n_law_put_right ["_law_it", "_law_name", "_law_other"] (defScope s_law_put_right) := ⟨rfl, rfl, rfl, by decide +kernel, rfl, by decide +kernel, by decide +kernel⟩
def g_law_put_right : SF Z0 :=
  sSeq (sPar 3 4 (xCons (xCall reprT2 (xCons (xLst (xCons (xName 0) (xCons (xName 2) (xNil)))) (xNil))) (xCons (xCallP (f_law_put 5) (xCons (xName 0) (xCons (xName 1) (xCons (xName 2) (xNil))))) (xNil))))
    (sSeq (sSet 5 (xLst (xCons (xCallP (f_replaced) (xCons (xName 0) (xCons (xName 1) (xCons (xName 2) (xNil))))) (xCons (xCallP (f_replaced) (xOrd 3 [2, 1, 0] (xCons (xName 2) (xCons (xName 1) (xCons (xName 0) (xNil)))))) (xNil)))))
    (sRet (xAnd (x2 (eqX false) (xCall reprT2 (xCons (xName 5) (xNil))) (xCall reprT2 (xCons (xLst (xCons (xName 4) (xCons (xName 4) (xNil)))) (xNil)))) (x2 (eqX false) (xCall reprT2 (xCons (xLst (xCons (xName 0) (xCons (xName 2) (xNil)))) (xNil))) (xName 3)))))
def f_law_put_right : FP := fpOf (bodyF 3 6 g_law_put_right)
theorem ok_law_put_right (T : Txt K mg) : FnG P w K mg base 7 T.d_law_put_right.f T.d_law_put_right.fd ["_law_it", "_law_name", "_law_other"] (spP K f_law_put_right) :=
  fn_defGP T.d_law_put_right.F sc_law_put_right fun cdv A out z H E gd hr =>
    ss_cons (sx_par (i := 3) (j := 4) rfl sc_law_put_right.nd rfl rfl (el_cons (ex_callB (call_repr2 gd hr.units) op1_repr2 (by rfl) T.b_repr (el_cons (ex_of_new (en_lst (el_cons (ex_name 0) (el_cons (ex_name 2) (el_nil))))) (el_nil))) (el_cons (ex_callP (ok_law_put T 5) (hr.mono (by decide)) (by rfl) T.d_law_put.m T.d_law_put.F.kp T.d_law_put.b (el_cons (ex_name 0) (el_cons (ex_name 1) (el_cons (ex_name 2) (el_nil))))) (el_nil))))
    (ss_cons (sx_set (i := 5) sc_law_put_right.nd rfl (ex_of_new (en_lst (el_cons (ex_callP (ok_replaced T) (hr.mono (by decide)) (by rfl) T.d_replaced.m T.d_replaced.F.kp T.d_replaced.b (el_cons (ex_name 0) (el_cons (ex_name 1) (el_cons (ex_name 2) (el_nil))))) (el_cons (ex_callKP (ok_replaced T) (hr.mono (by decide)) (by rfl) T.d_replaced.m T.d_replaced.F.kp (kord (ps := ["thing", "name", "other"]) (ks := ["other", "name", "thing"]) (ix := [2, 1, 0]) T.d_replaced.F (fun _ _ _ _ _ _ us hl => match us, hl with | [_, _, _], _ => ⟨rfl, rfl⟩)) (elk_cons (ex_name 2) (elk_cons (ex_name 1) (elk_cons (ex_name 0) (elk_nil))))) (el_nil))))))
    (ss_one (sx_ret (ex_and (ex_cmp (or_eq hr.units) o2_eq (ex_callB (call_repr2 gd hr.units) op1_repr2 (by rfl) T.b_repr (el_cons (ex_name 5) (el_nil))) (ex_callB (call_repr2 gd hr.units) op1_repr2 (by rfl) T.b_repr (el_cons (ex_of_new (en_lst (el_cons (ex_name 4) (el_cons (ex_name 4) (el_nil))))) (el_nil))) (nomark _)) (ex_bop1 (ex_cmp (or_eq hr.units) o2_eq (ex_callB (call_repr2 gd hr.units) op1_repr2 (by rfl) T.b_repr (el_cons (ex_of_new (en_lst (el_cons (ex_name 0) (el_cons (ex_name 2) (el_nil))))) (el_nil))) (ex_name 3) (nomark _)))))))
abbrev n_law : List Str := ["_law_script", "_law_deck_here", "_law_turn", "_law_w", "_law_go", "_law_it", "_law_other", "_law_name", "_law_told", "_law_due"]
theorem sc_law : FnScope n_law ["_law_script"] (defScope s_law) := ⟨rfl, rfl, rfl, by decide +kernel, rfl, by decide +kernel, by decide +kernel⟩
def g_law (d c : Addr) : SF (deckZ d c) :=
  sSeq (sForE (iRng (xC (T.int 3))) (gSet 2) (sSeq (sSet 3 (xCallF (f_law_plan d c) (xCons (xName 1) (xNil))))
    (sForE (iRng (xC (T.int 4))) (gSet 4) (sSeq (sPar 5 6 (xCons (xCallF (f_law_thing d c 4) (xCons (xName 1) (xCons (xName 3) (xCons (xC (T.int 3)) (xNil))))) (xCons (xCallF (f_law_thing d c 4) (xCons (xName 1) (xCons (xName 3) (xCons (xC (T.int 1)) (xNil))))) (xNil))))
    (sSeq (sSet 7 (xCallF (f_law_pick d c) (xCons (xName 1) (xCons (xLst (xCons (xC (T.str "K")) (xCons (xC (T.str "K")) (xCons (xC (T.str "L")) (xCons (xC (T.str "K0")) (xCons (xC (T.str "Q")) (xNil))))))) (xNil)))))
    (sIf (xbOr (xbNot (xTru (xCallP (f_law_right) (xCons (xName 5) (xNil))))) (xbNot (xTru (xCallP (f_law_put_right) (xCons (xName 5) (xCons (xName 7) (xCons (xName 6) (xNil)))))))) (sRet (xC (T.bl false))) (sSkip)))))))
    (sSeq (sSet 5 (xTup (xCons (xC (T.str "pair")) (xCons (xTup (xCons (xC (T.str "lock")) (xCons (xC (T.str "k")) (xCons (xC (T.str "K")) (xNil))))) (xCons (xTup (xCons (xC (T.str "pair")) (xCons (xC (T.str "K")) (xCons (xC (T.str "K0")) (xNil))))) (xNil))))))
    (sSeq (sSet 8 (xLst (xCons (xCallP (f_replaced) (xCons (xName 5) (xCons (xC (T.str "K")) (xCons (xTup (xCons (xC (T.str "lock")) (xCons (xC (T.str "K")) (xCons (xC (T.str "K0")) (xNil))))) (xNil))))) (xCons (xCallP (f_size_of) (xCons (xName 5) (xNil))) (xCons (xCallP (f_text_of) (xCons (xName 5) (xNil))) (xCons (xCallP (f_names_in) (xCons (xName 5) (xNil))) (xNil)))))))
    (sSeq (sSet 9 (xTup (xCons (xC (T.str "pair")) (xCons (xTup (xCons (xC (T.str "lock")) (xCons (xC (T.str "k")) (xCons (xTup (xCons (xC (T.str "lock")) (xCons (xC (T.str "K")) (xCons (xC (T.str "K0")) (xNil))))) (xNil))))) (xCons (xTup (xCons (xC (T.str "pair")) (xCons (xTup (xCons (xC (T.str "lock")) (xCons (xC (T.str "K")) (xCons (xC (T.str "K0")) (xNil))))) (xCons (xC (T.str "K0")) (xNil))))) (xNil))))))
    (sRet (x2 (eqX false) (xName 8) (xLst (xCons (xName 9) (xCons (xC (T.int 7)) (xCons (xC (T.str "pair(lock(k,K),pair(K,K0))")) (xCons (xTup (xCons (xC (T.str "K")) (xCons (xC (T.str "K0")) (xNil)))) (xNil)))))))))))
theorem rest_law (T : Txt K mg) (d c f : Addr) (cdv : Value) (A : Around) (out : List Env) (z : Shared) (H : Hp) (E : XK) (gd : A.guards = some []) (hr : Room 8 (A.deeper (envOfC "law" (defScope s_law) z.heap.objs.size f cdv))) :
    SS (cxOf CX0 P w K mg base n_law "law" (defScope s_law) f cdv A out z H E).nox (deckZ d c) ((defBody s_law).drop 1) (g_law d c) :=
    ss_cons (sx_for PassesOwn.never rfl (ix_rng (by rfl) T.b_range (ex_int)) (gx_name sc_law.nd) (ss_cons (sx_set (i := 3) sc_law.nd rfl (ex_call (ok_law_plan T d c) (hr.mono (by decide)) (by rfl) T.d_law_plan.m T.d_law_plan.F.kp T.d_law_plan.b (el_cons (ex_name 1) (el_nil))))
    (ss_one (sx_for PassesOwn.never rfl (ix_rng (by rfl) T.b_range (ex_int)) (gx_name sc_law.nd) (ss_cons (sx_par (i := 5) (j := 6) rfl sc_law.nd rfl rfl (el_cons (ex_call (ok_law_thing T d c 4) (hr.mono (by decide)) (by rfl) T.d_law_thing.m T.d_law_thing.F.kp T.d_law_thing.b (el_cons (ex_name 1) (el_cons (ex_name 3) (el_cons (ex_int) (el_nil))))) (el_cons (ex_call (ok_law_thing T d c 4) (hr.mono (by decide)) (by rfl) T.d_law_thing.m T.d_law_thing.F.kp T.d_law_thing.b (el_cons (ex_name 1) (el_cons (ex_name 3) (el_cons (ex_int) (el_nil))))) (el_nil))))
    (ss_cons (sx_set (i := 7) sc_law.nd rfl (ex_call (ok_law_pick T d c) (hr.mono (by decide)) (by rfl) T.d_law_pick.m T.d_law_pick.F.kp T.d_law_pick.b (el_cons (ex_name 1) (el_cons (ex_of_new (en_lst (el_cons (ex_str) (el_cons (ex_str) (el_cons (ex_str) (el_cons (ex_str) (el_cons (ex_str) (el_nil)))))))) (el_nil)))))
    (ss_one (sx_if (eb_w (ew_or (eb_not (eb_tru (ex_callGP (ok_law_right T) gd (hr.mono (by decide)) (by rfl) T.d_law_right.m T.d_law_right.F.kp T.d_law_right.b (el_cons (ex_name 5) (el_nil))))) (ew_or1 (eb_not (eb_tru (ex_callGP (ok_law_put_right T) gd (hr.mono (by decide)) (by rfl) T.d_law_put_right.m T.d_law_put_right.F.kp T.d_law_put_right.b (el_cons (ex_name 5) (el_cons (ex_name 7) (el_cons (ex_name 6) (el_nil)))))))))) (ss_one (sx_ret (ex_bl))) (ss_nil)))))))))
    (ss_cons (sx_set (i := 5) sc_law.nd rfl (ex_tup (el_cons (ex_str) (el_cons (ex_tup (el_cons (ex_str) (el_cons (ex_str) (el_cons (ex_str) (el_nil))))) (el_cons (ex_tup (el_cons (ex_str) (el_cons (ex_str) (el_cons (ex_str) (el_nil))))) (el_nil))))))
    (ss_cons (sx_set (i := 8) sc_law.nd rfl (ex_of_new (en_lst (el_cons (ex_callP (ok_replaced T) (hr.mono (by decide)) (by rfl) T.d_replaced.m T.d_replaced.F.kp T.d_replaced.b (el_cons (ex_name 5) (el_cons (ex_str) (el_cons (ex_tup (el_cons (ex_str) (el_cons (ex_str) (el_cons (ex_str) (el_nil))))) (el_nil))))) (el_cons (ex_callP (ok_size_of T) (hr.mono (by decide)) (by rfl) T.d_size_of.m T.d_size_of.F.kp T.d_size_of.b (el_cons (ex_name 5) (el_nil))) (el_cons (ex_callP (ok_text_of T) (hr.mono (by decide)) (by rfl) T.d_text_of.m T.d_text_of.F.kp T.d_text_of.b (el_cons (ex_name 5) (el_nil))) (el_cons (ex_callP (ok_names_in T) (hr.mono (by decide)) (by rfl) T.d_names_in.m T.d_names_in.F.kp T.d_names_in.b (el_cons (ex_name 5) (el_nil))) (el_nil))))))))
    (ss_cons (sx_set (i := 9) sc_law.nd rfl (ex_tup (el_cons (ex_str) (el_cons (ex_tup (el_cons (ex_str) (el_cons (ex_str) (el_cons (ex_tup (el_cons (ex_str) (el_cons (ex_str) (el_cons (ex_str) (el_nil))))) (el_nil))))) (el_cons (ex_tup (el_cons (ex_str) (el_cons (ex_tup (el_cons (ex_str) (el_cons (ex_str) (el_cons (ex_str) (el_nil))))) (el_cons (ex_str) (el_nil))))) (el_nil))))))
    (ss_one (sx_ret (ex_cmp (or_eq hr.units) o2_eq (ex_name 8) (ex_of_new (en_lst (el_cons (ex_name 9) (el_cons (ex_int) (el_cons (ex_str) (el_cons (ex_tup (el_cons (ex_str) (el_cons (ex_str) (el_nil)))) (el_nil))))))) (nomark _)))))))
end
end L2.TL
-- builtins ['dict', 'int', 'isinstance', 'len', 'list', 'range', 'repr', 'sorted', 'str', 'tuple', 'zip'] consts ['LONGEST']
-- G ['_law_put_right', '_law_right', 'law']
-- levels {'is_name': 1, 'walk': 1, 'texts_of': 1, 'text_of': 2, 'pieces_among': 2, 'pieces_of': 3, 'size_of': 2, 'names_in': 4, 'swapped': 2, 'replaced': 3, '_law_deck': 1, '_law_draw': 1, '_law_pick': 2, '_law_standard': 1, '_law_need': 3, '_law_plan': 4, '_law_thing': 7, '_law_text': 6, '_law_in_order': 7, '_law_pieces': 6, '_law_is_name': 1, '_law_put': 6, '_law_right': 8, '_law_put_right': 7, 'law': 9}
namespace L2.TL
open PySem PySem.Spec
open PyProof.Rows
/-- things: a word or name, or a kind's word with parts -/
inductive Th where
  | a (x : Str)
  | n (k : Str) (l : List Th)
mutual
def Th.t : Th → T
  | .a x => .str x
  | .n k l => .tup (.str k :: tL l)
def tL : List Th → List T
  | [] => []
  | c :: r => c.t :: tL r
end
mutual
/-- itself, then its parts from the last to the first -/
def Th.pre : Th → List Th
  | .a x => [.a x]
  | .n k l => .n k l :: preR l
def preR : List Th → List Th
  | [] => []
  | c :: r => preR r ++ c.pre
end
mutual
/-- its parts in order, then itself -/
def Th.post : Th → List Th
  | .a x => [.a x]
  | .n k l => postL l ++ [.n k l]
def postL : List Th → List Th
  | [] => []
  | c :: r => c.post ++ postL r
end
mutual
theorem pre_rev : ∀ t : Th, t.pre.reverse = t.post
  | .a x => rfl
  | .n k l => by
    simp only [Th.pre, Th.post, List.reverse_cons, preR_rev l]
theorem preR_rev : ∀ l : List Th, (preR l).reverse = postL l
  | [] => rfl
  | c :: r => by
    simp only [preR, postL, List.reverse_append, pre_rev c, preR_rev r]
end
theorem tL_app : ∀ l m : List Th, tL (l ++ m) = tL l ++ tL m
  | [], _ => rfl
  | c :: r, m => by
    simp only [List.cons_append, tL, tL_app r m]
theorem tL_map : ∀ l : List Th, tL l = l.map Th.t
  | [] => rfl
  | c :: r => by
    simp only [tL, List.map_cons, tL_map r]
theorem tL_len (l : List Th) : (tL l).length = l.length := by rw [tL_map, List.length_map]
theorem preR_app : ∀ l m : List Th, preR (l ++ m) = preR m ++ preR l
  | [], m => by simp [preR]
  | c :: r, m => by
    simp only [List.cons_append, preR, preR_app r m, List.append_assoc]
theorem pre_pos (t : Th) : 1 ≤ t.pre.length := by
  cases t <;> simp [Th.pre]
theorem preR_le : ∀ l : List Th, l.length ≤ (preR l).length
  | [] => Nat.le_refl _
  | c :: r => by
    have h1 := preR_le r
    have h2 := pre_pos c
    simp only [preR, List.length_append, List.length_cons]
    omega
theorem sz {n : Nat} (h : n ≤ 100000) : n ≤ sizeLine := by
  rw [sizeLine_eq]
  omega
abbrev walkC : EFb Z0 := bRead 2 (xTru (xName 2))
abbrev walkB : SF Z0 := sSeq (sSetXO 3 (oPop 2))
    (sSeq (sDropO (oApp 1 (oPure (xName 3))))
    (sIf (xTru (xIs "tuple" (xName 3))) (sDropO (oExt 2 (xCut (xName 3) (oSome (xC (T.int 1))) (oNone)))) (sSkip)))
theorem cut1 (k : Str) (l : List T) : cutT (.tup (.str k :: l)) (some 1) none = some (.tup l) := by
  unfold cutT cutL
  have e1 : HT.sIx (T.str k :: l).length 0 (some 1) = 1 := by
    show (if (1 : Int) < 0 then ((1 : Int) + ((l.length + 1 : Nat) : Int)).toNat else min (1 : Int).toNat (l.length + 1)) = 1
    rw [if_neg (by decide)]
    have : (1 : Int).toNat = 1 := rfl
    rw [this]
    omega
  have e2 : HT.sIx (T.str k :: l).length (T.str k :: l).length none = l.length + 1 := rfl
  show some (T.tup (((T.str k :: l).drop (HT.sIx (T.str k :: l).length 0 (some 1))).take (HT.sIx (T.str k :: l).length (T.str k :: l).length none - HT.sIx (T.str k :: l).length 0 (some 1)))) = _
  rw [e1, e2]
  simp
theorem walk_loop (t0 : T) : ∀ (n : Nat) (F : List T) (ws : List Th) (x3 : SV), (preR ws).length = n → F.length + n ≤ 1000 →
    ∃ x3', sWhileN walkC walkB (n + 1) [.im t0, .ow (.lst F), .ow (.lst (tL ws)), x3] () = some (.nx [.im t0, .ow (.lst (F ++ tL (preR ws))), .ow (.lst []), x3'] ())
  | n, F, ws, x3, hn, hz => by
    rcases List.eq_nil_or_concat ws with rfl | ⟨ws', c, rfl⟩
    · refine ⟨x3, ?_⟩
      have e : F ++ tL (preR []) = F := by simp [preR, tL]
      rw [e]
      have e0 : walkC [.im t0, .ow (.lst F), .ow (.lst (tL [])), x3] () = some (false, ()) := rfl
      exact ev_wN_end e0
    · rw [List.concat_eq_append] at hn
      simp only [List.concat_eq_append]
      have hc : (preR (ws' ++ [c])).length = c.pre.length + (preR ws').length := by
        rw [preR_app]
        simp [preR]
      have hW : tL (ws' ++ [c]) = tL ws' ++ [c.t] := by rw [tL_app]; rfl
      have hp := pre_pos c
      have hl := preR_le ws'
      obtain ⟨m, rfl⟩ : ∃ m, n = m + 1 := ⟨n - 1, by omega⟩
      have tst : walkC [.im t0, .ow (.lst F), .ow (.lst (tL (ws' ++ [c]))), x3] () = some (true, ()) := by
        rw [hW]
        refine ev_bread rfl (ev_tru (a := .lst (tL ws' ++ [c.t])) (ev_name rfl) ?_)
        show some (!(tL ws' ++ [c.t]).isEmpty) = some true
        simp
      have last : (tL (ws' ++ [c])).getLast? = some c.t := by rw [hW]; simp
      have drop : (tL (ws' ++ [c])).dropLast = tL ws' := by rw [hW]; simp
      have hF : F.length < sizeLine := Nat.lt_of_lt_of_le (show F.length < 100000 by omega) (sz (Nat.le_refl _))
      cases c with
      | a x =>
        have b : walkB [.im t0, .ow (.lst F), .ow (.lst (tL (ws' ++ [.a x]))), x3] () = some (.nx [.im t0, .ow (.lst (F ++ [T.str x])), .ow (.lst (tL ws')), .im (.str x)] ()) := by
          refine ev_seq (ev_setXO (ev_pop rfl last) (by simp)) ?_
          rw [drop]
          refine ev_seq (ev_dropO (ev_app (ts0 := F) rfl (ev_pure (ev_name rfl)) rfl hF)) ?_
          exact ev_if_f (ev_tru (k := false) (ev_is (k := false) (ev_name rfl) rfl) rfl) rfl
        obtain ⟨x3', ih⟩ := walk_loop t0 m (F ++ [T.str x]) ws' (.im (.str x)) (by simp [Th.pre] at hc; omega) (by simp; omega)
        refine ⟨x3', ev_wN_step tst b ?_⟩
        have e : F ++ tL (preR (ws' ++ [.a x])) = (F ++ [T.str x]) ++ tL (preR ws') := by
          rw [preR_app]
          simp [preR, Th.pre, tL, Th.t]
        rw [e]
        exact ih
      | n k l =>
        have hpl : (preR l).length + 1 = (Th.n k l).pre.length := by simp [Th.pre]
        have hll := preR_le l
        have b : walkB [.im t0, .ow (.lst F), .ow (.lst (tL (ws' ++ [.n k l]))), x3] () = some (.nx [.im t0, .ow (.lst (F ++ [(Th.n k l).t])), .ow (.lst (tL ws' ++ tL l)), .im (Th.n k l).t] ()) := by
          refine ev_seq (ev_setXO (ev_pop rfl last) (by simp)) ?_
          rw [drop]
          refine ev_seq (ev_dropO (ev_app (ts0 := F) rfl (ev_pure (ev_name rfl)) rfl hF)) ?_
          refine ev_if_t (ev_tru (k := true) (ev_is (k := true) (a := (Th.n k l).t) (ev_name rfl) rfl) rfl) (ev_dropO (ev_extT (us := tL l) rfl (ev_cut (a := (Th.n k l).t) (ev_name rfl) (ev_oSome rfl) rfl (cut1 k (tL l))) ?_))
          rw [tL_len, tL_len]
          exact sz (by omega)
        obtain ⟨x3', ih⟩ := walk_loop t0 m (F ++ [(Th.n k l).t]) (ws' ++ l) (.im (Th.n k l).t) (by rw [preR_app, List.length_append]; omega) (by simp; omega)
        rw [tL_app ws' l] at ih
        refine ⟨x3', ev_wN_step tst b ?_⟩
        have e : F ++ tL (preR (ws' ++ [.n k l])) = (F ++ [(Th.n k l).t]) ++ tL (preR (ws' ++ l)) := by
          rw [preR_app, preR_app]
          simp [preR, Th.pre, tL, tL_app]
        rw [e]
        exact ih
theorem walk_eq (t : Th) (h : t.pre.length ≤ 900) : f_walk [t.t] = some (.lst (tL t.post)) := by
  have hp : (preR [t]).length = t.pre.length := by simp [preR]
  obtain ⟨x3', w⟩ := walk_loop t.t t.pre.length [] [t] .un hp (by simp; omega)
  refine ev_fp rfl (ev_seq (ev_setO (ev_lst rfl (sz (by decide))) (by simp)) (ev_seq (ev_setO (ev_lst (ev_cons (ev_name rfl) rfl) (sz (by simp))) (by simp)) (ev_seq (ev_while w) (ev_freeze rfl (ev_ret (ev_x1 (ev_name rfl) ?_))))))
  show some (T.lst ([] ++ tL (preR [t])).reverse) = _
  have : (preR [t]) = t.pre := by simp [preR]
  rw [List.nil_append, this, tL_map, ← List.map_reverse, pre_rev, ← tL_map]
end L2.TL
namespace L2.TL
open PySem PySem.Spec
open PyProof.Rows
mutual
def Th.text : Th → Str
  | .a x => x
  | .n k l => catS Str.empty [k, "(", Txt.join "," (textL l), ")"]
def textL : List Th → List Str
  | [] => []
  | c :: r => c.text :: textL r
end
theorem textL_map : ∀ l : List Th, textL l = l.map Th.text
  | [] => rfl
  | c :: r => by simp only [textL, List.map_cons, textL_map r]
theorem textL_len (l : List Th) : (textL l).length = l.length := by rw [textL_map, List.length_map]
mutual
/-- words are short, kinds have parts -/
def Th.ok : Th → Prop
  | .a x => x.length ≤ 100
  | .n k l => k.length ≤ 100 ∧ l ≠ [] ∧ okL l
def okL : List Th → Prop
  | [] => True
  | c :: r => c.ok ∧ okL r
end
theorem join_len (sep : Str) : ∀ ys : List Str, (Txt.join sep ys).length ≤ (ys.map (·.length)).sum + ys.length * sep.length := by
  intro ys
  rw [_root_.TL.join_eq]
  induction ys with
  | nil => exact Nat.zero_le _
  | cons y r ih =>
    cases r with
    | nil =>
      show y.length ≤ _
      simp
    | cons z r =>
      show (y ++ sep ++ Str.join sep (z :: r)).length ≤ _
      rw [Str.length_append, Str.length_append]
      simp only [List.map_cons, List.sum_cons, List.length_cons] at ih ⊢
      have : (r.length + 1 + 1) * sep.length = (r.length + 1) * sep.length + sep.length := by rw [Nat.add_mul _ 1, Nat.one_mul]
      omega
theorem one1 : ("(" : Str).length = 1 := by decide +kernel
theorem one2 : (")" : Str).length = 1 := by decide +kernel
theorem one3 : ("," : Str).length = 1 := by decide +kernel
theorem len0 : Str.empty.length = 0 := rfl
theorem cat4_len (k j : Str) : (catS Str.empty [k, "(", j, ")"]).length = k.length + j.length + 2 := by
  rw [catS_len]
  simp only [List.map_cons, List.map_nil, List.sum_cons, List.sum_nil, one1, one2, len0]
  omega
mutual
theorem text_len : ∀ t : Th, t.ok → t.text.length + 1 ≤ 103 * t.pre.length
  | .a x, h => by
    have h : x.length ≤ 100 := h
    show x.length + 1 ≤ 103 * 1
    omega
  | .n k l, h => by
    obtain ⟨h1, h2, h3⟩ := h
    have i := textL_sum l h3
    have j := join_len "," (textL l)
    have e : (Th.n k l).pre.length = (preR l).length + 1 := by simp [Th.pre]
    show (catS Str.empty [k, "(", Txt.join "," (textL l), ")"]).length + 1 ≤ _
    rw [cat4_len, e]
    rw [textL_len, one3] at j
    omega
theorem textL_sum : ∀ l : List Th, okL l → ((textL l).map (·.length)).sum + l.length ≤ 103 * (preR l).length
  | [], _ => Nat.zero_le _
  | c :: r, h => by
    have i1 := text_len c h.1
    have i2 := textL_sum r h.2
    have hp := pre_pos c
    simp only [textL, List.map_cons, List.sum_cons, preR, List.length_append, List.length_cons]
    omega
end
/-! ### texts_of: a machine with a stack over the post-order -/
theorem for_step {Z : Res} {gt : GF} {gb : SF Z} {a : T} {r : List T} {τ τ1 τ2 : List SV} {s s2 : Z.S} (h1 : gt a τ = some τ1) (h2 : gb τ1 s = some (.nx τ2 s2)) : sFor gt gb (a :: r) τ s = sFor gt gb r τ2 s2 := by
  conv => lhs; unfold sFor
  simp only [h1, h2]
theorem ev_join {Z : Res} {fs : EFs Z} {τ : List SV} {s s1 : Z.S} {as : List T} {ys : List Str} (h : fs τ s = some (as, s1)) (e : strs? as = some ys) (hz : (ys.map (·.length)).sum ≤ sizeLine) : xJoin fs τ s = some (.str (catS Str.empty ys), s1) := by
  unfold xJoin
  simp only [h, e]
  exact if_pos hz
theorem ev_star {Z : Res} {f : EF Z} {fs : EFs Z} {τ : List SV} {s s1 s2 : Z.S} {as bs : List T} (h : f τ s = some (.lst as, s1)) (h2 : fs τ s1 = some (bs, s2)) : xStar f fs τ s = some (as ++ bs, s2) := by
  unfold xStar
  simp only [h, h2]
theorem cut_last (B S : List T) (h : S ≠ []) : cutT (.lst (B ++ S)) (some (-(S.length : Int))) none = some (.lst S) := by
  have hp := List.length_pos_iff.mpr h
  have e1 : HT.sIx (B ++ S).length 0 (some (-(S.length : Int))) = B.length := by
    show (if (-(S.length : Int)) < 0 then ((-(S.length : Int)) + ((B ++ S).length : Int)).toNat else min (-(S.length : Int)).toNat (B ++ S).length) = _
    rw [if_pos (by omega), List.length_append]
    omega
  have e2 : HT.sIx (B ++ S).length (B ++ S).length none = (B ++ S).length := rfl
  unfold cutT cutL
  show some (T.lst (((B ++ S).drop (HT.sIx (B ++ S).length 0 (some (-(S.length : Int))))).take (HT.sIx (B ++ S).length (B ++ S).length none - HT.sIx (B ++ S).length 0 (some (-(S.length : Int)))))) = _
  rw [e1, e2, List.drop_left, List.length_append, Nat.add_sub_cancel_left, List.take_length]
theorem cut_first (B S : List T) (h : S ≠ []) : cutT (.lst (B ++ S)) none (some (-(S.length : Int))) = some (.lst B) := by
  have hp := List.length_pos_iff.mpr h
  have e1 : HT.sIx (B ++ S).length (B ++ S).length (some (-(S.length : Int))) = B.length := by
    show (if (-(S.length : Int)) < 0 then ((-(S.length : Int)) + ((B ++ S).length : Int)).toNat else min (-(S.length : Int)).toNat (B ++ S).length) = _
    rw [if_pos (by omega), List.length_append]
    omega
  have e2 : HT.sIx (B ++ S).length 0 none = 0 := rfl
  unfold cutT cutL
  show some (T.lst (((B ++ S).drop (HT.sIx (B ++ S).length 0 none)).take (HT.sIx (B ++ S).length (B ++ S).length (some (-(S.length : Int))) - HT.sIx (B ++ S).length 0 none))) = _
  rw [e1, e2, List.drop_zero, Nat.sub_zero, List.take_left]
abbrev tx (l : List Th) : List T := l.map fun t => T.str t.text
theorem tx_textL (l : List Th) : tx l = (textL l).map T.str := by
  rw [textL_map, List.map_map]
  rfl
abbrev textsE : SF Z0 := sSeq (sSet 5 (x2 subI (xCall lenT (xCons (xName 3) (xNil))) (xC (T.int 1))))
    (sFreeze 2 (sSeq (sSet 6 (xMeth "str" joinT (xC (T.str ",")) (xCons (xCut (xName 2) (oSome (x1 negI (xName 5))) (oNone)) (xNil))))
    (sSeq (sSet 4 (xJoin (xCons (x1 fmtT (x2 ixT (xName 3) (xC (T.int 0)))) (xCons (xC (T.str "(")) (xCons (x1 fmtT (xName 6)) (xCons (xC (T.str ")")) (xNil)))))))
    (sSetO 2 (xLst (xStar (xCut (xName 2) (oNone) (oSome (x1 negI (xName 5)))) (xCons (xName 4) (xNil))))))))
abbrev textsB : SF Z0 := sSeq (sIf (xTru (xIs "str" (xName 3))) (sSeq (sSet 4 (xName 3))
    (sDropO (oApp 2 (oPure (xName 4))))) textsE)
    (sDropO (oApp 1 (oPure (xName 4))))
theorem lt_sz {n : Nat} (h : n < 100000) : n < sizeLine := Nat.lt_of_lt_of_le h (sz (Nat.le_refl _))
mutual
theorem texts_post (P : SV) : ∀ t : Th, t.ok → ∀ (O B rest : List T) (v3 v4 v5 v6 : SV), O.length + t.pre.length ≤ 950 → B.length + t.pre.length ≤ 950 → ∃ w3 w4 w5 w6 : SV,
    sFor (gSet 3) textsB (tL t.post ++ rest) [P, .ow (.lst O), .ow (.lst B), v3, v4, v5, v6] () = sFor (gSet 3) textsB rest [P, .ow (.lst (O ++ tx t.post)), .ow (.lst (B ++ [T.str t.text])), w3, w4, w5, w6] ()
  | .a x, h, O, B, rest, v3, v4, v5, v6, h1, h2 => by
    have hp : (Th.a x).pre.length = 1 := rfl
    have b : textsB [P, .ow (.lst O), .ow (.lst B), .im (.str x), v4, v5, v6] () = some (.nx [P, .ow (.lst (O ++ [T.str x])), .ow (.lst (B ++ [T.str x])), .im (.str x), .im (.str x), v5, v6] ()) := by
      refine ev_seq (ev_if_t (ev_tru (k := true) (ev_is (k := true) (ev_name rfl) rfl) rfl) (ev_seq (ev_set (ev_name rfl) (by simp)) (ev_dropO (ev_app (ts0 := B) rfl (ev_pure (ev_name rfl)) rfl (lt_sz (by omega)))))) ?_
      exact ev_dropO (ev_app (ts0 := O) rfl (ev_pure (ev_name rfl)) rfl (lt_sz (by omega)))
    exact ⟨_, _, _, _, for_step (a := T.str x) (r := rest) (if_pos (by simp)) b⟩
  | .n k l, h, O, B, rest, v3, v4, v5, v6, h1, h2 => by
    obtain ⟨hk, hl, ho⟩ := h
    have hp : (Th.n k l).pre.length = (preR l).length + 1 := by simp [Th.pre]
    have hll := preR_le l
    obtain ⟨w3, w4, w5, w6, e1⟩ := texts_postL P l ho O B (tL [Th.n k l] ++ rest) v3 v4 v5 v6 (by omega) (by omega)
    have hpost : tL (Th.n k l).post ++ rest = tL (postL l) ++ (tL [Th.n k l] ++ rest) := by
      simp only [Th.post, tL_app, List.append_assoc]
    have S : tx l ≠ [] := by
      intro z
      exact hl (List.map_eq_nil_iff.mp z)
    have lS : (tx l).length = l.length := List.length_map _
    have hsum := textL_sum l ho
    have hpo : (postL l).length = (preR l).length := by rw [← preR_rev, List.length_reverse]
    have ji : joinT (.str ",") [.lst (tx l)] = some (.str (Txt.join "," (textL l))) := by
      unfold joinT
      rw [tx_textL]
      simp only [strs?_map]
      rw [one3, textL_len]
      exact if_pos (by omega)
    have jl := join_len "," (textL l)
    rw [one3, textL_len] at jl
    have nm : x2 (Z := Z0) subI (xCall lenT (xCons (xName 3) (xNil))) (xC (T.int 1)) [P, .ow (.lst (O ++ tx (postL l))), .ow (.lst (B ++ tx l)), .im (Th.n k l).t, w4, w5, w6] () = some (.int ((tx l).length : Int), ()) := by
      refine ev_x2 (ev_call (ev_cons (ev_name rfl) ev_nil) rfl) rfl ?_
      show some (T.int (((tL l).length + 1 : Nat) - 1 : Int)) = _
      rw [tL_len, lS]
      congr 2
      omega
    have fk : fmtT (.str k) = some (.str k) := if_pos (sz (by omega))
    have fj : fmtT (.str (Txt.join "," (textL l))) = some (.str (Txt.join "," (textL l))) := if_pos (sz (by omega))
    have ik : ixT (Th.n k l).t (.int 0) = some (.str k) := by
      show atI (T.str k :: tL l) ((0 : Nat) : Int) = _
      rw [atI_nat' (by simp)]
      rfl
    have bE : textsE [P, .ow (.lst (O ++ tx (postL l))), .ow (.lst (B ++ tx l)), .im (Th.n k l).t, w4, w5, w6] () =
        some (.nx [P, .ow (.lst (O ++ tx (postL l))), .ow (.lst (B ++ [T.str (Th.n k l).text])), .im (Th.n k l).t, .im (.str (Th.n k l).text), .im (.int ((tx l).length : Int)), .im (.str (Txt.join "," (textL l)))] ()) := by
      refine ev_seq (ev_set nm (by simp)) (ev_freeze (a := .lst (B ++ tx l)) rfl ?_)
      refine ev_seq (ev_set (ev_meth (a := .str ",") rfl rfl (ev_cons (ev_cut (ev_name rfl) (ev_oSome (ev_x1 (ev_name rfl) rfl)) rfl (cut_last B (tx l) S)) ev_nil) ji) (by simp)) ?_
      refine ev_seq (ev_set (ev_join (ys := [k, "(", Txt.join "," (textL l), ")"]) (ev_cons (ev_x1 (ev_x2 (a := (Th.n k l).t) (ev_name rfl) rfl ik) fk) (ev_cons rfl (ev_cons (ev_x1 (ev_name rfl) fj) (ev_cons rfl ev_nil)))) rfl ?_) (by simp)) ?_
      · simp only [List.map_cons, List.map_nil, List.sum_cons, List.sum_nil, one1, one2]
        exact sz (by omega)
      · refine ev_setO (ev_lst (ev_star (ev_cut (ev_name rfl) rfl (ev_oSome (ev_x1 (ev_name rfl) rfl)) (cut_first B (tx l) S)) (ev_cons (ev_name rfl) ev_nil)) ?_) (by simp)
        rw [List.length_append]
        exact sz (by simp; omega)
    have b : textsB [P, .ow (.lst (O ++ tx (postL l))), .ow (.lst (B ++ tx l)), .im (Th.n k l).t, w4, w5, w6] () =
        some (.nx [P, .ow (.lst ((O ++ tx (postL l)) ++ [T.str (Th.n k l).text])), .ow (.lst (B ++ [T.str (Th.n k l).text])), .im (Th.n k l).t, .im (.str (Th.n k l).text), .im (.int ((tx l).length : Int)), .im (.str (Txt.join "," (textL l)))] ()) := by
      refine ev_seq (ev_if_f (ev_tru (k := false) (ev_is (k := false) (a := (Th.n k l).t) (ev_name rfl) rfl) rfl) bE) ?_
      refine ev_dropO (ev_app (ts0 := O ++ tx (postL l)) rfl (ev_pure (ev_name rfl)) rfl (lt_sz ?_))
      rw [List.length_append, List.length_map]
      omega
    refine ⟨.im (Th.n k l).t, .im (.str (Th.n k l).text), .im (.int ((tx l).length : Int)), .im (.str (Txt.join "," (textL l))), ?_⟩
    rw [hpost, e1]
    have step := for_step (gt := gSet 3) (gb := textsB) (a := (Th.n k l).t) (r := rest) (τ := [P, .ow (.lst (O ++ tx (postL l))), .ow (.lst (B ++ tx l)), w3, w4, w5, w6]) (s := ()) (if_pos (by simp)) b
    have e3 : O ++ tx (Th.n k l).post = (O ++ tx (postL l)) ++ [T.str (Th.n k l).text] := by
      simp only [Th.post, tx, List.map_append, List.append_assoc, List.map_cons, List.map_nil]
    rw [e3]
    exact step
theorem texts_postL (P : SV) : ∀ l : List Th, okL l → ∀ (O B rest : List T) (v3 v4 v5 v6 : SV), O.length + (preR l).length ≤ 950 → B.length + (preR l).length ≤ 950 → ∃ w3 w4 w5 w6 : SV,
    sFor (gSet 3) textsB (tL (postL l) ++ rest) [P, .ow (.lst O), .ow (.lst B), v3, v4, v5, v6] () = sFor (gSet 3) textsB rest [P, .ow (.lst (O ++ tx (postL l))), .ow (.lst (B ++ tx l)), w3, w4, w5, w6] ()
  | [], _, O, B, rest, v3, v4, v5, v6, _, _ => ⟨v3, v4, v5, v6, by simp [postL, tL, tx]⟩
  | c :: r, h, O, B, rest, v3, v4, v5, v6, h1, h2 => by
    have hpc : c.post.length = c.pre.length := by rw [← pre_rev, List.length_reverse]
    have hp := pre_pos c
    have hpr : (preR (c :: r)).length = (preR r).length + c.pre.length := by simp [preR]
    obtain ⟨w3, w4, w5, w6, e1⟩ := texts_post P c h.1 O B (tL (postL r) ++ rest) v3 v4 v5 v6 (by omega) (by omega)
    obtain ⟨u3, u4, u5, u6, e2⟩ := texts_postL P r h.2 (O ++ tx c.post) (B ++ [T.str c.text]) rest w3 w4 w5 w6 (by rw [List.length_append, List.length_map]; omega) (by rw [List.length_append]; simp; omega)
    refine ⟨u3, u4, u5, u6, ?_⟩
    have a1 : tL (postL (c :: r)) ++ rest = tL c.post ++ (tL (postL r) ++ rest) := by
      simp only [postL, tL_app, List.append_assoc]
    have a2 : O ++ tx (postL (c :: r)) = (O ++ tx c.post) ++ tx (postL r) := by
      simp only [postL, tx, List.map_append, List.append_assoc]
    have a3 : B ++ tx (c :: r) = (B ++ [T.str c.text]) ++ tx r := by
      simp only [tx, List.map_cons, List.append_assoc, List.cons_append, List.nil_append]
    rw [a1, e1, e2, a2, a3]
end
theorem texts_eq (t : Th) (h : t.ok) (hz : t.pre.length ≤ 900) : f_texts_of [.lst (tL t.post)] = some (.lst (tx t.post)) := by
  obtain ⟨w3, w4, w5, w6, e⟩ := texts_post (.im (.lst (tL t.post))) t h [] [] [] .un .un .un .un (by simp; omega) (by simp; omega)
  rw [List.append_nil] at e
  have e : sFor (gSet 3) textsB (tL t.post) [.im (.lst (tL t.post)), .ow (.lst []), .ow (.lst []), .un, .un, .un, .un] () = some (.nx [.im (.lst (tL t.post)), .ow (.lst ([] ++ tx t.post)), .ow (.lst ([] ++ [T.str t.text])), w3, w4, w5, w6] ()) := e
  have fe : sForE (Z := Z0) (iSeq (xName 0)) (gSet 3) textsB [.im (.lst (tL t.post)), .ow (.lst []), .ow (.lst []), .un, .un, .un, .un] () = some (.nx [.im (.lst (tL t.post)), .ow (.lst ([] ++ tx t.post)), .ow (.lst ([] ++ [T.str t.text])), w3, w4, w5, w6] ()) := e
  refine ev_fp rfl (ev_seq (ev_setO (ev_lst rfl (sz (by decide))) (by simp)) (ev_seq (ev_setO (ev_lst rfl (sz (by decide))) (by simp)) (ev_seq fe (ev_freeze rfl (ev_ret ?_)))))
  rw [List.nil_append]
  exact ev_name rfl
end L2.TL
namespace L2.TL
open PySem PySem.Spec
open PyProof.Rows
theorem post_last (t : Th) : ∃ q, t.post = q ++ [t] := by
  cases t with
  | a x => exact ⟨[], rfl⟩
  | n k l => exact ⟨postL l, rfl⟩
theorem post_len (t : Th) : t.post.length = t.pre.length := by rw [← pre_rev, List.length_reverse]
theorem at_last1 {α : Type} (l : List α) (a : α) : atI (l ++ [a]) (-1) = some a := by
  unfold atI ixN
  rw [if_neg (by decide), if_pos (by rw [List.length_append]; simp; omega)]
  have : ((-1 : Int) + ((l ++ [a]).length : Int)).toNat = l.length := by
    rw [List.length_append]
    simp
    omega
  rw [this]
  simp
theorem text_of_eq (t : Th) (h : t.ok) (hz : t.pre.length ≤ 900) : f_text_of [t.t] = some (.str t.text) := by
  obtain ⟨q, e⟩ := post_last t
  refine ev_fp rfl (ev_ret (ev_x2 (ev_callP (ev_cons (ev_callP (ev_cons (ev_name rfl) ev_nil) (walk_eq t hz)) ev_nil) (texts_eq t h hz)) (ev_x1 rfl rfl) ?_))
  show atI (tx t.post) (-1) = _
  rw [e]
  simp only [tx, List.map_append, List.map_cons, List.map_nil]
  exact at_last1 _ _
theorem size_of_eq (t : Th) (hz : t.pre.length ≤ 900) : f_size_of [t.t] = some (.int t.pre.length) := by
  refine ev_fp rfl (ev_ret (ev_call (ev_cons (ev_callP (ev_cons (ev_name rfl) ev_nil) (walk_eq t hz)) ev_nil) ?_))
  show some (T.int ((tL t.post).length : Int)) = _
  rw [tL_len, post_len]
/-! ### the law's own functions -/
mutual
def Th.dep : Th → Nat
  | .a _ => 0
  | .n _ l => depL l + 1
def depL : List Th → Nat
  | [] => 0
  | c :: r => max c.dep (depL r)
end
theorem depL_mem : ∀ {l : List Th} {c : Th}, c ∈ l → c.dep ≤ depL l
  | [], _, h => by cases h
  | c :: r, d, h => by
    simp only [depL]
    rcases List.mem_cons.mp h with rfl | h
    · exact Nat.le_max_left _ _
    · exact Nat.le_trans (depL_mem h) (Nat.le_max_right _ _)
/-- a comprehension over things' parts that reckons h of each -/
theorem lcGo_parts {Z : Res} {gt : GF} {fe : EF Z} {τ : List SV} {s : Z.S} {h : Th → T} : ∀ (l : List Th), (∀ c ∈ l, ∃ τ', gt c.t τ = some τ' ∧ fe τ' s = some (h c, s)) → lcGo gt xYes fe τ (tL l) s = some (l.map h, s)
  | [], _ => rfl
  | c :: r, hp => by
    obtain ⟨τ', e1, e2⟩ := hp c List.mem_cons_self
    have ih := lcGo_parts r fun d m => hp d (List.mem_cons_of_mem _ m)
    show lcGo gt xYes fe τ (c.t :: tL r) s = _
    conv => lhs; unfold lcGo
    simp only [e1, xYes, e2, ih, List.map_cons]
theorem cat4 (k j : Str) : catS Str.empty [k, "(", j, ")"] = k ++ "(" ++ j ++ ")" := by
  show Str.empty ++ k ++ "(" ++ j ++ ")" = _
  rw [Str.empty_append]
theorem okL_mem : ∀ {l : List Th} {c : Th}, okL l → c ∈ l → c.ok
  | [], _, _, h => by cases h
  | d :: r, c, o, h => by
    rcases List.mem_cons.mp h with rfl | h
    · exact o.1
    · exact okL_mem o.2 h
theorem preR_mem : ∀ {l : List Th} {c : Th}, c ∈ l → c.pre.length ≤ (preR l).length
  | [], _, h => by cases h
  | d :: r, c, h => by
    simp only [preR, List.length_append]
    rcases List.mem_cons.mp h with rfl | h
    · omega
    · have := preR_mem h
      omega
theorem addX_strL {x y : Str} (h : x.length + y.length ≤ 1000000) : addX (.str x) (.str y) = some (.str (x ++ y)) := by
  have e : addS (.str x) (.str y) = some (.str (x ++ y)) := if_pos (by rw [sizeLine_eq]; omega)
  have e0 : addI (.str x) (.str y) = none := rfl
  unfold addX orT
  simp only [e0, e]
theorem f_law_text_succ (n : Nat) : f_law_text (n + 1) = fpOf (bodyF 1 2 (g_law_text (f_law_text n))) := rfl
theorem it_parts {Z : Res} (k : Str) (l : List Th) {τ : List SV} {s : Z.S} (h : τ[0]? = some (.im (Th.n k l).t)) : iTupl (Z := Z) (xCut (xName 0) (oSome (xC (T.int 1))) (oNone)) τ s = some (tL l, s) := by
  have := ev_cut (Z := Z) (f := xName 0) (lo := oSome (xC (T.int 1))) (hi := oNone) (τ := τ) (s := s) (a := (Th.n k l).t) (ev_name h) (ev_oSome rfl) rfl (cut1 k (tL l))
  unfold iTupl
  rw [this]
theorem ix_kind (k : Str) (l : List Th) : ixT (Th.n k l).t (.int 0) = some (.str k) := by
  show atI (T.str k :: tL l) ((0 : Nat) : Int) = _
  rw [atI_nat' (by simp)]
  rfl
theorem join_parts (l : List Th) (h : ((textL l).map (·.length)).sum + l.length ≤ 1000000) : joinT (.str ",") [.lst (tx l)] = some (.str (Txt.join "," (textL l))) := by
  unfold joinT
  rw [tx_textL]
  simp only [strs?_map]
  rw [one3, textL_len]
  exact if_pos (by omega)
theorem text_n (k : Str) (l : List Th) : (Th.n k l).text = k ++ "(" ++ Txt.join "," (textL l) ++ ")" := by
  rw [Th.text]
  exact cat4 k (Txt.join "," (textL l))
theorem law_text_a (fr : FP) (x : Str) : fpOf (bodyF 1 2 (g_law_text fr)) [.str x] = some (.str x) :=
  ev_fp rfl (ev_seq_rt (ev_if_t (ev_tru (k := true) (ev_is (k := true) (ev_name rfl) rfl) rfl) (ev_ret (ev_name rfl))))
theorem law_text_n (fr : FP) (k : Str) (l : List Th) (hk : k.length ≤ 100) (ho : okL l) (hz : (preR l).length ≤ 899) (hr : ∀ c ∈ l, fr [c.t] = some (.str c.text)) : fpOf (bodyF 1 2 (g_law_text fr)) [(Th.n k l).t] = some (.str (Th.n k l).text) := by
  have hll := preR_le l
  have hsum := textL_sum l ho
  have jl := join_len "," (textL l)
  rw [one3, textL_len] at jl
  have go : lcGo (Z := Z0) (gSet 1) xYes (xCallP fr (xCons (xName 1) xNil)) (wipeT [.im (Th.n k l).t, .un] [1]) (tL l) () = some (tx l, ()) :=
    lcGo_parts l fun c m => ⟨_, if_pos (by simp [wipeT]), ev_callP (ev_cons (ev_name rfl) ev_nil) (hr c m)⟩
  have e : (Th.n k l).text = k ++ "(" ++ Txt.join "," (textL l) ++ ")" := text_n k l
  rw [e]
  have lc : xLc (Z := Z0) [1] (iTupl (xCut (xName 0) (oSome (xC (T.int 1))) (oNone))) (gSet 1) (xYes) (xCallP fr (xCons (xName 1) (xNil))) [.im (Th.n k l).t, .un] () = some (.lst (tx l), ()) :=
    ev_lc (it_parts k l rfl) (by rw [tL_len]; exact sz (by omega)) rfl go
  have jn : xMeth (Z := Z0) "str" joinT (xC (T.str ",")) (xCons (xLc [1] (iTupl (xCut (xName 0) (oSome (xC (T.int 1))) (oNone))) (gSet 1) (xYes) (xCallP fr (xCons (xName 1) (xNil)))) xNil) [.im (Th.n k l).t, .un] () = some (.str (Txt.join "," (textL l)), ()) :=
    ev_meth (a := .str ",") rfl rfl (ev_cons lc ev_nil) (join_parts l (by omega))
  have k0 : x2 (Z := Z0) ixT (xName 0) (xC (T.int 0)) [.im (Th.n k l).t, .un] () = some (.str k, ()) := ev_x2 (ev_name rfl) rfl (ix_kind k l)
  have a1 : addX (.str k) (.str "(") = some (.str (k ++ "(")) := addX_strL (by rw [one1]; omega)
  have a2 : addX (.str (k ++ "(")) (.str (Txt.join "," (textL l))) = some (.str (k ++ "(" ++ Txt.join "," (textL l))) := addX_strL (by rw [Str.length_append, one1]; omega)
  have a3 : addX (.str (k ++ "(" ++ Txt.join "," (textL l))) (.str ")") = some (.str (k ++ "(" ++ Txt.join "," (textL l) ++ ")")) := addX_strL (by rw [Str.length_append, Str.length_append, one1, one2]; omega)
  generalize Txt.join "," (textL l) = j at *
  have s1 := ev_x2 (Z := Z0) (fb := xC (T.str "(")) (s2 := ()) k0 rfl a1
  have s2 := ev_x2 (Z := Z0) s1 jn a2
  have s3 := ev_x2 (Z := Z0) (fb := xC (T.str ")")) (s2 := ()) s2 rfl a3
  have i1 : sIf (Z := Z0) (xTru (xIs "str" (xName 0))) (sRet (xName 0)) (sSkip) [.im (Th.n k l).t, .un] () = some (.nx [.im (Th.n k l).t, .un] ()) := ev_if_f (ev_tru (k := false) (ev_is (k := false) (a := (Th.n k l).t) (ev_name rfl) rfl) rfl) rfl
  exact ev_fp rfl (ev_seq i1 (ev_ret s3))
theorem law_text_eq (n : Nat) : ∀ t : Th, t.ok → t.pre.length ≤ 900 → t.dep < n → f_law_text n [t.t] = some (.str t.text) := by
  induction n with
  | zero =>
    intro t _ _ h
    cases h
  | succ n ih =>
    intro t h hz hd
    rw [f_law_text_succ]
    cases t with
    | a x => exact law_text_a _ x
    | n k l =>
      obtain ⟨hk, hl, ho⟩ := h
      have hp : (Th.n k l).pre.length = (preR l).length + 1 := by simp [Th.pre]
      refine law_text_n _ k l hk ho (by omega) fun c m => ih c (okL_mem ho m) (by have := preR_mem m; omega) ?_
      have := depL_mem m
      simp only [Th.dep] at hd
      omega
end L2.TL
namespace L2.TL
open PySem PySem.Spec
open PyProof.Rows
mutual
/-- itself, then its parts in order -/
def Th.lpre : Th → List Th
  | .a x => [.a x]
  | .n k l => .n k l :: lpreL l
def lpreL : List Th → List Th
  | [] => []
  | c :: r => c.lpre ++ lpreL r
end
mutual
theorem lpre_len : ∀ t : Th, t.lpre.length = t.pre.length
  | .a x => rfl
  | .n k l => by simp only [Th.lpre, Th.pre, List.length_cons, lpreL_len l]
theorem lpreL_len : ∀ l : List Th, (lpreL l).length = (preR l).length
  | [] => rfl
  | c :: r => by
    simp only [lpreL, preR, List.length_append, lpre_len c, lpreL_len r]
    omega
end
theorem addX_lst {x y : List T} (h : x.length + y.length ≤ 100000) : addX (.lst x) (.lst y) = some (.lst (x ++ y)) := by
  have e : addL (.lst x) (.lst y) = some (.lst (x ++ y)) := if_pos (sz h)
  have e0 : addI (.lst x) (.lst y) = none := rfl
  have e1 : addS (.lst x) (.lst y) = none := rfl
  unfold addX orT
  simp only [e0, e1, e]
theorem addX_tup {x y : List T} (h : x.length + y.length ≤ 100000) : addX (.tup x) (.tup y) = some (.tup (x ++ y)) := by
  have e : addT (.tup x) (.tup y) = some (.tup (x ++ y)) := if_pos (sz h)
  have e0 : addI (.tup x) (.tup y) = none := rfl
  have e1 : addS (.tup x) (.tup y) = none := rfl
  have e2 : addL (.tup x) (.tup y) = none := rfl
  unfold addX orT
  simp only [e0, e1, e2, e]
theorem f_law_pieces_succ (n : Nat) : f_law_pieces (n + 1) = fpOf (bodyF 1 3 (g_law_pieces (f_law_pieces n))) := rfl
theorem law_pieces_a (fr : FP) (x : Str) : fpOf (bodyF 1 3 (g_law_pieces fr)) [.str x] = some (.lst [.str x]) :=
  ev_fp rfl (ev_seq (ev_set (ev_lst (ev_cons (ev_name rfl) ev_nil) (sz (by simp))) (by simp)) (ev_seq (ev_if_f (ev_bnot (k := true) (ev_tru (k := true) (ev_is (k := true) (ev_name rfl) rfl) rfl)) rfl) (ev_ret (ev_name rfl))))
abbrev piecesB (fr : FP) : SF Z0 := sSet 1 (x2 addX (xName 1) (xCallP fr (xCons (xName 2) (xNil))))
theorem ev_forE {Z : Res} {fi : EFs Z} {gt : GF} {gb : SF Z} {τ : List SV} {s s1 : Z.S} {items : List T} {o : Out Z.S} (h : fi τ s = some (items, s1)) (h2 : sFor gt gb items τ s1 = some o) : sForE fi gt gb τ s = some o := by
  unfold sForE
  simp only [h]
  exact h2
theorem pieces_loop (fr : FP) (t0 : T) : ∀ (l : List Th) (F : List T) (x2' : SV), F.length + (preR l).length ≤ 950 → (∀ c ∈ l, fr [c.t] = some (.lst (tL c.lpre))) →
    ∃ y2, sFor (gSet 2) (piecesB fr) (tL l) [.im t0, .im (.lst F), x2'] () = some (.nx [.im t0, .im (.lst (F ++ tL (lpreL l))), y2] ())
  | [], F, x2', _, _ => ⟨x2', by simp [tL, lpreL, sFor]⟩
  | c :: r, F, x2', hz, hr => by
    have hpr : (preR (c :: r)).length = (preR r).length + c.pre.length := by simp [preR]
    have ll := lpre_len c
    obtain ⟨y2, ih⟩ := pieces_loop fr t0 r (F ++ tL c.lpre) (.im c.t) (by rw [List.length_append, tL_len]; omega) fun d m => hr d (List.mem_cons_of_mem _ m)
    refine ⟨y2, ?_⟩
    have b : piecesB fr [.im t0, .im (.lst F), .im c.t] () = some (.nx [.im t0, .im (.lst (F ++ tL c.lpre)), .im c.t] ()) :=
      ev_set (ev_x2 (ev_name rfl) (ev_callP (ev_cons (ev_name rfl) ev_nil) (hr c List.mem_cons_self)) (addX_lst (by rw [tL_len]; omega))) (by simp)
    have st := for_step (gt := gSet 2) (gb := piecesB fr) (a := c.t) (r := tL r) (τ := [.im t0, .im (.lst F), x2']) (s := (() : Z0.S)) (if_pos (by simp)) b
    have e : F ++ tL (lpreL (c :: r)) = F ++ tL c.lpre ++ tL (lpreL r) := by
      simp only [lpreL, tL_app, List.append_assoc]
    rw [e]
    exact st.trans ih
theorem law_pieces_n (fr : FP) (k : Str) (l : List Th) (hz : (preR l).length ≤ 899) (hr : ∀ c ∈ l, fr [c.t] = some (.lst (tL c.lpre))) : fpOf (bodyF 1 3 (g_law_pieces fr)) [(Th.n k l).t] = some (.lst (tL (Th.n k l).lpre)) := by
  obtain ⟨y2, lp⟩ := pieces_loop fr (Th.n k l).t l [(Th.n k l).t] .un (by simp; omega) hr
  have fe : sForE (Z := Z0) (iTupl (xCut (xName 0) (oSome (xC (T.int 1))) (oNone))) (gSet 2) (sSet 1 (x2 addX (xName 1) (xCallP fr (xCons (xName 2) (xNil))))) [.im (Th.n k l).t, .im (.lst [(Th.n k l).t]), .un] () = some (.nx [.im (Th.n k l).t, .im (.lst ([(Th.n k l).t] ++ tL (lpreL l))), y2] ()) := by
    exact ev_forE (it_parts k l rfl) lp
  exact ev_fp rfl (ev_seq (ev_set (ev_lst (ev_cons (ev_name rfl) ev_nil) (sz (by simp))) (by simp)) (ev_seq (ev_if_t (ev_bnot (k := false) (ev_tru (k := false) (ev_is (k := false) (a := (Th.n k l).t) (ev_name rfl) rfl) rfl)) fe) (ev_ret (ev_name rfl))))
theorem law_pieces_eq (n : Nat) : ∀ t : Th, t.pre.length ≤ 900 → t.dep < n → f_law_pieces n [t.t] = some (.lst (tL t.lpre)) := by
  induction n with
  | zero =>
    intro t _ h
    cases h
  | succ n ih =>
    intro t hz hd
    rw [f_law_pieces_succ]
    cases t with
    | a x => exact law_pieces_a _ x
    | n k l =>
      have hp : (Th.n k l).pre.length = (preR l).length + 1 := by simp [Th.pre]
      refine law_pieces_n _ k l (by omega) fun c m => ih c (by have := preR_mem m; omega) ?_
      have := depL_mem m
      simp only [Th.dep] at hd
      omega
/-! ### a thing in the place of a name -/
mutual
def Th.putF (x : Str) (o : Unit → Th) : Th → Th
  | .a y => if y = x then o () else .a y
  | .n k l => .n k (putLF x o l)
def putLF (x : Str) (o : Unit → Th) : List Th → List Th
  | [] => []
  | c :: r => c.putF x o :: putLF x o r
end
def Th.put (t : Th) (x : Str) (o : Th) : Th := t.putF x fun _ => o
theorem putL_map (x : Str) (o : Th) : ∀ l : List Th, putLF x (fun _ => o) l = l.map (fun c => c.put x o)
  | [] => rfl
  | c :: r => by
    simp only [putLF, List.map_cons, putL_map x o r]
    rfl
theorem put_a (x : Str) (o : Th) (y : Str) : (Th.a y).put x o = if y = x then o else .a y := rfl
theorem put_nn (x : Str) (o : Th) (k : Str) (l : List Th) : (Th.n k l).put x o = .n k (l.map (fun c => c.put x o)) := by
  rw [← putL_map]
  rfl
theorem ev_xif_t {Z : Res} {ft : EFb Z} {fa fb : EF Z} {τ : List SV} {s s1 : Z.S} {r : Option (T × Z.S)} (h : ft τ s = some (true, s1)) (h2 : fa τ s1 = r) : xIf ft fa fb τ s = r := by
  unfold xIf
  simp only [h]
  exact h2
theorem ev_xif_f {Z : Res} {ft : EFb Z} {fa fb : EF Z} {τ : List SV} {s s1 : Z.S} {r : Option (T × Z.S)} (h : ft τ s = some (false, s1)) (h2 : fb τ s1 = r) : xIf ft fa fb τ s = r := by
  unfold xIf
  simp only [h]
  exact h2
theorem f_law_put_succ (n : Nat) : f_law_put (n + 1) = fpOf (bodyF 3 4 (g_law_put (f_law_put n))) := rfl
theorem law_put_a (fr : FP) (y x : Str) (o : Th) : fpOf (bodyF 3 4 (g_law_put fr)) [.str y, .str x, o.t] = some ((Th.a y).put x o).t := by
  have i1 : sIf (Z := Z0) (xTru (xIs "str" (xName 0))) (sRet (xIf (xb (x2 (eqX false) (xName 0) (xName 1))) (xName 2) (xName 0))) (sSkip) [.im (.str y), .im (.str x), .im o.t, .un] () = some (.rt ((Th.a y).put x o).t ()) := by
    refine ev_if_t (ev_tru (k := true) (ev_is (k := true) (ev_name rfl) rfl) rfl) (ev_ret ?_)
    have c : xb (Z := Z0) (x2 (eqX false) (xName 0) (xName 1)) [.im (.str y), .im (.str x), .im o.t, .un] () = some (decide (y = x), ()) := ev_xb (ev_x2 (ev_name rfl) (ev_name rfl) (eq_str false y x))
    rw [put_a]
    by_cases e : y = x
    · rw [decide_eq_true e] at c
      rw [if_pos e]
      exact ev_xif_t c (ev_name rfl)
    · rw [decide_eq_false e] at c
      rw [if_neg e]
      exact ev_xif_f c (ev_name rfl)
  exact ev_fp rfl (ev_seq_rt i1)
theorem cut_kind (k : Str) (l : List T) : cutT (.tup (.str k :: l)) none (some 1) = some (.tup [.str k]) := by
  have e1 : HT.sIx (T.str k :: l).length (T.str k :: l).length (some 1) = 1 := by
    show (if (1 : Int) < 0 then ((1 : Int) + ((l.length + 1 : Nat) : Int)).toNat else min (1 : Int).toNat (l.length + 1)) = 1
    rw [if_neg (by decide)]
    have : (1 : Int).toNat = 1 := rfl
    rw [this]
    omega
  have e2 : HT.sIx (T.str k :: l).length 0 none = 0 := rfl
  unfold cutT cutL
  show some (T.tup (((T.str k :: l).drop (HT.sIx (T.str k :: l).length 0 none)).take (HT.sIx (T.str k :: l).length (T.str k :: l).length (some 1) - HT.sIx (T.str k :: l).length 0 none))) = _
  rw [e1, e2]
  rfl
theorem put_n (x : Str) (o : Th) (k : Str) (l : List Th) : ((Th.n k l).put x o).t = .tup ([.str k] ++ tL (l.map (fun c => c.put x o))) := by
  rw [put_nn]
  rfl
theorem law_put_n (fr : FP) (k x : Str) (o : Th) (l : List Th) (hz : l.length ≤ 1000) (hr : ∀ c ∈ l, fr [c.t, .str x, o.t] = some (c.put x o).t) : fpOf (bodyF 3 4 (g_law_put fr)) [(Th.n k l).t, .str x, o.t] = some ((Th.n k l).put x o).t := by
  have i1 : sIf (Z := Z0) (xTru (xIs "str" (xName 0))) (sRet (xIf (xb (x2 (eqX false) (xName 0) (xName 1))) (xName 2) (xName 0))) (sSkip) [.im (Th.n k l).t, .im (.str x), .im o.t, .un] () = some (.nx [.im (Th.n k l).t, .im (.str x), .im o.t, .un] ()) :=
    ev_if_f (ev_tru (k := false) (ev_is (k := false) (a := (Th.n k l).t) (ev_name rfl) rfl) rfl) rfl
  have go : lcGo (Z := Z0) (gSet 3) xYes (xCallP fr (xCons (xName 3) (xCons (xName 1) (xCons (xName 2) xNil)))) (wipeT [.im (Th.n k l).t, .im (.str x), .im o.t, .un] [3]) (tL l) () = some (l.map fun c => (c.put x o).t, ()) :=
    lcGo_parts l fun c m => ⟨_, if_pos (by simp [wipeT]), ev_callP (ev_cons (ev_name rfl) (ev_cons (ev_name rfl) (ev_cons (ev_name rfl) ev_nil))) (hr c m)⟩
  have lc : xLc (Z := Z0) [3] (iTupl (xCut (xName 0) (oSome (xC (T.int 1))) (oNone))) (gSet 3) (xYes) (xCallP fr (xCons (xName 3) (xCons (xName 1) (xCons (xName 2) (xNil))))) [.im (Th.n k l).t, .im (.str x), .im o.t, .un] () = some (.lst (l.map fun c => (c.put x o).t), ()) :=
    ev_lc (it_parts k l rfl) (by rw [tL_len]; exact sz (by omega)) rfl go
  have c0 : xCut (Z := Z0) (xName 0) (oNone) (oSome (xC (T.int 1))) [.im (Th.n k l).t, .im (.str x), .im o.t, .un] () = some (.tup [.str k], ()) := ev_cut (a := (Th.n k l).t) (ev_name rfl) rfl (ev_oSome rfl) (cut_kind k (tL l))
  have e : (l.map fun c => (c.put x o).t) = tL (l.map (fun c => c.put x o)) := by
    rw [tL_map, List.map_map]
    rfl
  rw [put_n, ← e]
  exact ev_fp rfl (ev_seq i1 (ev_ret (ev_x2 c0 (ev_call (ev_cons lc ev_nil) rfl) (addX_tup (by simp; omega)))))
theorem law_put_eq (x : Str) (o : Th) (n : Nat) : ∀ t : Th, t.pre.length ≤ 900 → t.dep < n → f_law_put n [t.t, .str x, o.t] = some (t.put x o).t := by
  induction n with
  | zero =>
    intro t _ h
    cases h
  | succ n ih =>
    intro t hz hd
    rw [f_law_put_succ]
    cases t with
    | a y => exact law_put_a _ y x o
    | n k l =>
      have hp : (Th.n k l).pre.length = (preR l).length + 1 := by simp [Th.pre]
      have hll := preR_le l
      refine law_put_n _ k x o l (by omega) fun c m => ih c (by have := preR_mem m; omega) ?_
      have := depL_mem m
      simp only [Th.dep] at hd
      omega
end L2.TL
namespace L2.TL
open PySem PySem.Spec
open PyProof.Rows
abbrev tabT (x : Str) (o : Th) : T := .dct [(Sum.inr x, o.t)]
abbrev pu (x : Str) (o : Th) (l : List Th) : List T := l.map fun c => (c.put x o).t
theorem get_tab (x : Str) (o : Th) (y : Str) : (getT [(Sum.inr x, o.t)] (Sum.inr y)).getD (.str y) = ((Th.a y).put x o).t := by
  rw [put_a]
  unfold getT
  by_cases e : y = x
  · subst e
    rw [List.find?_cons_of_pos (by simp), if_pos rfl]
    rfl
  · rw [List.find?_cons_of_neg (by simpa using fun z => e z.symm), if_neg e]
    rfl
abbrev swE : SF Z0 := sSeq (sSet 4 (x2 subI (xCall lenT (xCons (xName 3) (xNil))) (xC (T.int 1))))
    (sFreeze 2 (sSeq (sSet 5 (xTup (xCons (x2 ixT (xName 3) (xC (T.int 0))) (xStar (xCut (xName 2) (oSome (x1 negI (xName 4))) (oNone)) (xNil)))))
    (sSetO 2 (xLst (xStar (xCut (xName 2) (oNone) (oSome (x1 negI (xName 4)))) (xCons (xName 5) (xNil)))))))
abbrev swB : SF Z0 := sIf (xTru (xIs "str" (xName 3))) (sDropO (oApp 2 (oPure (xGet2 (xName 1) (xName 3) (xName 3))))) swE
theorem ev_get2 {Z : Res} {fo fi ff : EF Z} {τ : List SV} {s s1 s2 s3 : Z.S} {ps : List (Key × T)} {k d : T} {kk : Key} (h1 : fo τ s = some (.dct ps, s1)) (h2 : fi τ s1 = some (k, s2)) (h3 : ff τ s2 = some (d, s3)) (hk : keyOf k = some kk) : xGet2 fo fi ff τ s = some ((getT ps kk).getD d, s3) := by
  unfold xGet2
  simp only [h1, h2, h3, hk]
mutual
theorem sw_post (t0 : SV) (x : Str) (o : Th) : ∀ t : Th, t.ok → ∀ (B rest : List T) (v3 v4 v5 : SV), B.length + t.pre.length ≤ 950 → ∃ w3 w4 w5 : SV,
    sFor (gSet 3) swB (tL t.post ++ rest) [t0, .im (tabT x o), .ow (.lst B), v3, v4, v5] () = sFor (gSet 3) swB rest [t0, .im (tabT x o), .ow (.lst (B ++ [(t.put x o).t])), w3, w4, w5] ()
  | .a y, h, B, rest, v3, v4, v5, h2 => by
    have hp : (Th.a y).pre.length = 1 := rfl
    have b : swB [t0, .im (tabT x o), .ow (.lst B), .im (.str y), v4, v5] () = some (.nx [t0, .im (tabT x o), .ow (.lst (B ++ [((Th.a y).put x o).t])), .im (.str y), v4, v5] ()) := by
      have g := ev_get2 (Z := Z0) (fo := xName 1) (fi := xName 3) (ff := xName 3) (τ := [t0, .im (tabT x o), .ow (.lst B), .im (.str y), v4, v5]) (s := ()) (ps := [(Sum.inr x, o.t)]) (k := .str y) (d := .str y) (kk := Sum.inr y) (ev_name rfl) (ev_name rfl) (ev_name rfl) rfl
      rw [get_tab] at g
      exact ev_if_t (ev_tru (k := true) (ev_is (k := true) (ev_name rfl) rfl) rfl) (ev_dropO (ev_app (ts0 := B) rfl (ev_pure g) rfl (lt_sz (by omega))))
    exact ⟨_, _, _, for_step (gt := gSet 3) (gb := swB) (a := T.str y) (r := rest) (if_pos (by simp)) b⟩
  | .n k l, h, B, rest, v3, v4, v5, h2 => by
    obtain ⟨hk, hl, ho⟩ := h
    have hp : (Th.n k l).pre.length = (preR l).length + 1 := by simp [Th.pre]
    have hll := preR_le l
    obtain ⟨w3, w4, w5, e1⟩ := sw_postL t0 x o l ho B (tL [Th.n k l] ++ rest) v3 v4 v5 (by omega)
    have hpost : tL (Th.n k l).post ++ rest = tL (postL l) ++ (tL [Th.n k l] ++ rest) := by
      simp only [Th.post, tL_app, List.append_assoc]
    have S : pu x o l ≠ [] := by
      intro z
      exact hl (List.map_eq_nil_iff.mp z)
    have lS : (pu x o l).length = l.length := List.length_map _
    have nm : x2 (Z := Z0) subI (xCall lenT (xCons (xName 3) (xNil))) (xC (T.int 1)) [t0, .im (tabT x o), .ow (.lst (B ++ pu x o l)), .im (Th.n k l).t, w4, w5] () = some (.int ((pu x o l).length : Int), ()) := by
      refine ev_x2 (ev_call (ev_cons (ev_name rfl) ev_nil) rfl) rfl ?_
      show some (T.int (((tL l).length + 1 : Nat) - 1 : Int)) = _
      rw [tL_len, lS]
      congr 2
      omega
    have pt : ((Th.n k l).put x o).t = .tup ([.str k] ++ pu x o l) := by
      rw [put_nn]
      show T.tup (.str k :: tL (l.map fun c => c.put x o)) = _
      rw [tL_map, List.map_map]
      rfl
    have bE : swE [t0, .im (tabT x o), .ow (.lst (B ++ pu x o l)), .im (Th.n k l).t, w4, w5] () =
        some (.nx [t0, .im (tabT x o), .ow (.lst (B ++ [((Th.n k l).put x o).t])), .im (Th.n k l).t, .im (.int ((pu x o l).length : Int)), .im ((Th.n k l).put x o).t] ()) := by
      rw [pt]
      have k0 : x2 (Z := Z0) ixT (xName 3) (xC (T.int 0)) [t0, .im (tabT x o), .im (.lst (B ++ pu x o l)), .im (Th.n k l).t, .im (.int ((pu x o l).length : Int)), w5] () = some (.str k, ()) := ev_x2 (ev_name rfl) rfl (ix_kind k l)
      refine ev_seq (ev_set nm (by simp)) (ev_freeze (a := .lst (B ++ pu x o l)) rfl ?_)
      refine ev_seq (ev_set (ev_tup (ev_cons k0 (ev_star (ev_cut (ev_name rfl) (ev_oSome (ev_x1 (ev_name rfl) rfl)) rfl (cut_last B (pu x o l) S)) ev_nil)) ?_) (by simp)) ?_
      · rw [List.append_nil]
        exact sz (by simp; omega)
      · have en : (T.str k :: (pu x o l ++ [])) = [.str k] ++ pu x o l := by simp
        rw [en]
        refine ev_setO (ev_lst (ev_star (ev_cut (ev_name rfl) rfl (ev_oSome (ev_x1 (ev_name rfl) rfl)) (cut_first B (pu x o l) S)) (ev_cons (ev_name rfl) ev_nil)) ?_) (by simp)
        rw [List.length_append]
        exact sz (by simp; omega)
    have b : swB [t0, .im (tabT x o), .ow (.lst (B ++ pu x o l)), .im (Th.n k l).t, w4, w5] () =
        some (.nx [t0, .im (tabT x o), .ow (.lst (B ++ [((Th.n k l).put x o).t])), .im (Th.n k l).t, .im (.int ((pu x o l).length : Int)), .im ((Th.n k l).put x o).t] ()) :=
      ev_if_f (ev_tru (k := false) (ev_is (k := false) (a := (Th.n k l).t) (ev_name rfl) rfl) rfl) bE
    refine ⟨.im (Th.n k l).t, .im (.int ((pu x o l).length : Int)), .im ((Th.n k l).put x o).t, ?_⟩
    rw [hpost, e1]
    exact for_step (gt := gSet 3) (gb := swB) (a := (Th.n k l).t) (r := rest) (τ := [t0, .im (tabT x o), .ow (.lst (B ++ pu x o l)), w3, w4, w5]) (s := ()) (if_pos (by simp)) b
theorem sw_postL (t0 : SV) (x : Str) (o : Th) : ∀ l : List Th, okL l → ∀ (B rest : List T) (v3 v4 v5 : SV), B.length + (preR l).length ≤ 950 → ∃ w3 w4 w5 : SV,
    sFor (gSet 3) swB (tL (postL l) ++ rest) [t0, .im (tabT x o), .ow (.lst B), v3, v4, v5] () = sFor (gSet 3) swB rest [t0, .im (tabT x o), .ow (.lst (B ++ pu x o l)), w3, w4, w5] ()
  | [], _, B, rest, v3, v4, v5, _ => ⟨v3, v4, v5, by simp [postL, tL, pu]⟩
  | c :: r, h, B, rest, v3, v4, v5, h2 => by
    have hp := pre_pos c
    have hpr : (preR (c :: r)).length = (preR r).length + c.pre.length := by simp [preR]
    obtain ⟨w3, w4, w5, e1⟩ := sw_post t0 x o c h.1 B (tL (postL r) ++ rest) v3 v4 v5 (by omega)
    obtain ⟨u3, u4, u5, e2⟩ := sw_postL t0 x o r h.2 (B ++ [(c.put x o).t]) rest w3 w4 w5 (by rw [List.length_append]; simp; omega)
    refine ⟨u3, u4, u5, ?_⟩
    have a1 : tL (postL (c :: r)) ++ rest = tL c.post ++ (tL (postL r) ++ rest) := by
      simp only [postL, tL_app, List.append_assoc]
    have a3 : B ++ pu x o (c :: r) = (B ++ [(c.put x o).t]) ++ pu x o r := by
      simp only [pu, List.map_cons, List.append_assoc, List.cons_append, List.nil_append]
    rw [a1, e1, e2, a3]
end
theorem swapped_eq (t o : Th) (x : Str) (h : t.ok) (hz : t.pre.length ≤ 900) : f_swapped [t.t, tabT x o] = some (t.put x o).t := by
  obtain ⟨w3, w4, w5, e⟩ := sw_post (.im t.t) x o t h [] [] .un .un .un (by simp; omega)
  rw [List.append_nil] at e
  have e : sFor (gSet 3) swB (tL t.post) [.im t.t, .im (tabT x o), .ow (.lst []), .un, .un, .un] () = some (.nx [.im t.t, .im (tabT x o), .ow (.lst ([] ++ [(t.put x o).t])), w3, w4, w5] ()) := e
  have it : iSeq (Z := Z0) (xCallP f_walk (xCons (xName 0) xNil)) [.im t.t, .im (tabT x o), .ow (.lst []), .un, .un, .un] () = some (tL t.post, ()) := ev_seqL (ev_callP (ev_cons (ev_name rfl) ev_nil) (walk_eq t hz))
  refine ev_fp rfl (ev_seq (ev_setO (ev_lst rfl (sz (by decide))) (by simp)) (ev_seq (ev_forE it e) (ev_freeze rfl (ev_ret (ev_x2 (ev_name rfl) rfl ?_)))))
  show atI ([] ++ [(t.put x o).t]) ((0 : Nat) : Int) = _
  rw [atI_nat' (by simp)]
  rfl
theorem replaced_eq (t o : Th) (x : Str) (h : t.ok) (hz : t.pre.length ≤ 900) : f_replaced [t.t, .str x, o.t] = some (t.put x o).t := by
  have d : xDict1 (Z := Z0) (xName 1) (xName 2) [.im t.t, .im (.str x), .im o.t] () = some (tabT x o, ()) := by
    have h1 : xName (Z := Z0) 1 [.im t.t, .im (.str x), .im o.t] () = some (.str x, ()) := ev_name rfl
    have h2 : xName (Z := Z0) 2 [.im t.t, .im (.str x), .im o.t] () = some (o.t, ()) := ev_name rfl
    unfold xDict1
    simp only [h1, h2]
    rfl
  exact ev_fp rfl (ev_ret (ev_callP (ev_cons (ev_name rfl) (ev_cons d ev_nil)) (swapped_eq t o x h hz)))
end L2.TL
namespace L2.TL
open PySem PySem.Spec
open PyProof.Rows
/-! ### dicts of trees -/
theorem getT_map (k j : Key) (t : T) : ∀ ps : List (Key × T), getT (ps.map fun kv => if kv.1 = k then (kv.1, t) else kv) j = (getT ps j).map fun x => if j = k then t else x
  | [] => rfl
  | p :: r => by
    have ih := getT_map k j t r
    unfold getT at ih ⊢
    rw [List.map_cons]
    by_cases hk : p.1 = k
    · rw [if_pos hk]
      by_cases hj : p.1 = j
      · rw [List.find?_cons_of_pos (by simpa using hj), List.find?_cons_of_pos (by simpa using hj)]
        simp [← hj, hk]
      · rw [List.find?_cons_of_neg (by simpa using hj), List.find?_cons_of_neg (by simpa using hj)]
        exact ih
    · rw [if_neg hk]
      by_cases hj : p.1 = j
      · rw [List.find?_cons_of_pos (by simpa using hj), List.find?_cons_of_pos (by simpa using hj)]
        have : ¬ j = k := fun z => hk (hj.trans z)
        simp [this]
      · rw [List.find?_cons_of_neg (by simpa using hj), List.find?_cons_of_neg (by simpa using hj)]
        exact ih
theorem getT_snoc (k j : Key) (t : T) : ∀ ps : List (Key × T), (ps.any fun kv => decide (kv.1 = k)) = false → getT (ps ++ [(k, t)]) j = if j = k then some t else getT ps j
  | [], _ => by
    unfold getT
    by_cases e : k = j
    · rw [if_pos e.symm]
      simp [e]
    · rw [if_neg fun z => e z.symm]
      simp [e]
  | p :: r, h => by
    rw [List.any_cons, Bool.or_eq_false_iff] at h
    have hk : ¬ p.1 = k := by simpa using h.1
    have ih := getT_snoc k j t r h.2
    unfold getT at ih ⊢
    rw [List.cons_append]
    by_cases hj : p.1 = j
    · rw [List.find?_cons_of_pos (by simpa using hj), List.find?_cons_of_pos (by simpa using hj)]
      have : ¬ j = k := fun z => hk (hj.trans z)
      rw [if_neg this]
    · rw [List.find?_cons_of_neg (by simpa using hj), List.find?_cons_of_neg (by simpa using hj)]
      exact ih
theorem getT_some {k : Key} : ∀ {ps : List (Key × T)}, (ps.any fun kv => decide (kv.1 = k)) = true → ∃ t, getT ps k = some t
  | [], h => by cases h
  | p :: r, h => by
    unfold getT
    by_cases hk : p.1 = k
    · rw [List.find?_cons_of_pos (by simpa using hk)]
      exact ⟨_, rfl⟩
    · rw [List.find?_cons_of_neg (by simpa using hk)]
      rw [List.any_cons, Bool.or_eq_true] at h
      rcases h with h | h
      · exact absurd (of_decide_eq_true h) hk
      · exact getT_some h
theorem getT_put (ps : List (Key × T)) (k j : Key) (t : T) : getT (putT ps k t) j = if j = k then some t else getT ps j := by
  unfold putT
  split
  · rename_i h
    rw [getT_map]
    by_cases e : j = k
    · subst e
      obtain ⟨u, hu⟩ := getT_some h
      rw [hu, if_pos rfl]
      simp
    · rw [if_neg e]
      cases getT ps j <;> simp [e]
  · rename_i h
    exact getT_snoc k j t ps (Bool.eq_false_iff.mpr h)
open Classical in
theorem put_keys (ps : List (Key × T)) (k : Key) (t : T) : (putT ps k t).map (·.1) = if k ∈ ps.map (·.1) then ps.map (·.1) else ps.map (·.1) ++ [k] := by
  unfold putT
  by_cases h : (ps.any fun kv => decide (kv.1 = k)) = true
  · have hm : k ∈ ps.map (·.1) := by
      obtain ⟨p, hp, e⟩ := List.any_eq_true.mp h
      exact List.mem_map.mpr ⟨p, hp, of_decide_eq_true e⟩
    rw [if_pos h, if_pos hm, List.map_map]
    refine List.map_congr_left fun p _ => ?_
    show (if p.1 = k then (p.1, t) else p).1 = p.1
    split <;> rfl
  · have hm : ¬ k ∈ ps.map (·.1) := by
      intro z
      obtain ⟨p, hp, e⟩ := List.mem_map.mp z
      exact h (List.any_eq_true.mpr ⟨p, hp, decide_eq_true e⟩)
    rw [if_neg h, if_neg hm, List.map_append]
    rfl
/-- the dict of things by their texts -/
abbrev pairsOfTh (L : List Th) : List (Key × T) := L.map fun c => (Sum.inr c.text, c.t)
structure ByText (L : List Th) (ps : List (Key × T)) : Prop where
  nd : (ps.map (·.1)).Nodup
  mem : ∀ k, k ∈ ps.map (·.1) ↔ ∃ c ∈ L, k = Sum.inr c.text
  val : ∀ k t, getT ps k = some t → ∃ c ∈ L, k = Sum.inr c.text ∧ t = c.t
  has : ∀ c ∈ L, ∃ t, getT ps (Sum.inr c.text) = some t
theorem byText_go : ∀ (L M : List Th) (ps : List (Key × T)), ByText M ps → ByText (M ++ L) (mergeT ps (pairsOfTh L))
  | [], M, ps, h => by
    rw [List.append_nil]
    exact h
  | c :: r, M, ps, h => by
    have e : M ++ c :: r = (M ++ [c]) ++ r := by simp
    rw [e]
    refine byText_go r (M ++ [c]) (putT ps (Sum.inr c.text) c.t) ⟨?_, fun k => ?_, fun k t hk => ?_, fun d hd => ?_⟩
    · rw [put_keys]
      split
      · exact h.nd
      · rename_i hn
        refine List.nodup_append.mpr ⟨h.nd, by simp, fun a ha b hb e => ?_⟩
        have : b = Sum.inr c.text := by simpa using hb
        rw [this] at e
        rw [e] at ha
        exact hn ha
    · rw [put_keys]
      split
      · rename_i hm
        rw [h.mem]
        constructor
        · rintro ⟨d, hd, e⟩
          exact ⟨d, by simp [hd], e⟩
        · rintro ⟨d, hd, e⟩
          rcases List.mem_append.mp hd with hd | hd
          · exact ⟨d, hd, e⟩
          · have : d = c := by simpa using hd
            rw [this] at e
            rw [e]
            exact (h.mem _).mp hm
      · rw [List.mem_append, h.mem]
        constructor
        · rintro (⟨d, hd, e⟩ | e)
          · exact ⟨d, by simp [hd], e⟩
          · exact ⟨c, by simp, by simpa using e⟩
        · rintro ⟨d, hd, e⟩
          rcases List.mem_append.mp hd with hd | hd
          · exact .inl ⟨d, hd, e⟩
          · have : d = c := by simpa using hd
            rw [this] at e
            exact .inr (by simpa using e)
    · rw [getT_put] at hk
      split at hk
      · rename_i ek
        cases hk
        exact ⟨c, by simp, ek, rfl⟩
      · obtain ⟨d, hd, e1, e2⟩ := h.val k t hk
        exact ⟨d, by simp [hd], e1, e2⟩
    · rw [getT_put]
      split
      · exact ⟨_, rfl⟩
      · rename_i hne
        rcases List.mem_append.mp hd with hd | hd
        · exact h.has d hd
        · have : d = c := by simpa using hd
          exact absurd (by rw [this]) hne
theorem byText (L : List Th) : ByText L (mergeT [] (pairsOfTh L)) := by
  have := byText_go L [] [] ⟨List.nodup_nil, fun k => by simp, fun k t h => (by cases h), fun c h => (by cases h)⟩
  rwa [List.nil_append] at this
end L2.TL
namespace L2.TL
open PySem PySem.Spec
open PyProof.Rows
/-- things ascending by their texts -/
def Asc (R : List Th) : Prop := R.Pairwise fun a b => leS a.text b.text = true ∧ a.text ≠ b.text
theorem asc_uniq : ∀ {R S : List Th}, Asc R → Asc S → (∀ c, c ∈ R ↔ c ∈ S) → R = S
  | [], [], _, _, _ => rfl
  | [], b :: s, _, _, h => absurd ((h b).mpr List.mem_cons_self) (by simp)
  | a :: r, [], _, _, h => absurd ((h a).mp List.mem_cons_self) (by simp)
  | a :: r, b :: s, hr, hs, h => by
    obtain ⟨r1, r2⟩ := List.pairwise_cons.mp hr
    obtain ⟨s1, s2⟩ := List.pairwise_cons.mp hs
    have e : a = b := by
      rcases List.mem_cons.mp ((h a).mp List.mem_cons_self) with e | m
      · exact e
      · rcases List.mem_cons.mp ((h b).mpr List.mem_cons_self) with e | m'
        · exact e.symm
        · exact absurd (leS_anti (r1 b m').1 (s1 a m).1) (r1 b m').2
    subst e
    have t : r = s := asc_uniq r2 s2 fun c => by
      constructor
      · intro m
        rcases List.mem_cons.mp ((h c).mp (List.mem_cons_of_mem _ m)) with e | m'
        · subst e
          exact absurd rfl (r1 c m).2
        · exact m'
      · intro m
        rcases List.mem_cons.mp ((h c).mpr (List.mem_cons_of_mem _ m)) with e | m'
        · subst e
          exact absurd rfl (s1 c m).2
        · exact m'
    rw [t]
theorem asc_filter {R : List Th} (p : Th → Bool) (h : Asc R) : Asc (R.filter p) := List.Pairwise.filter p h
theorem put_len (ps : List (Key × T)) (k : Key) (t : T) : (putT ps k t).length ≤ ps.length + 1 := by
  unfold putT
  split
  · rw [List.length_map]
    omega
  · rw [List.length_append]
    simp
theorem merge_len : ∀ (ms ps : List (Key × T)), (mergeT ps ms).length ≤ ps.length + ms.length
  | [], ps => Nat.le_refl _
  | p :: r, ps => by
    have h := merge_len r (putT ps p.1 p.2)
    have k := put_len ps p.1 p.2
    show (mergeT (putT ps p.1 p.2) r).length ≤ _
    rw [List.length_cons]
    omega
theorem keyStrs_of : ∀ {ps : List (Key × T)}, (∀ k ∈ ps.map (·.1), ∃ x : Str, k = Sum.inr x) → ∃ ys, keyStrs ps = some ys
  | [], _ => ⟨[], rfl⟩
  | (k, t) :: r, h => by
    obtain ⟨x, rfl⟩ := h k (by simp)
    obtain ⟨ys, e⟩ := keyStrs_of (ps := r) fun k m => h k (by simp [List.mem_map] at m ⊢; exact .inr m)
    refine ⟨x :: ys, ?_⟩
    show (match keyStrs r with
      | some ys => some (x :: ys)
      | none => none) = _
    rw [e]
theorem pick_list {L : List Th} : ∀ zs : List Str, (∀ x ∈ zs, ∃ c ∈ L, x = c.text) → ∃ R : List Th, R.map Th.text = zs ∧ ∀ c ∈ R, c ∈ L
  | [], _ => ⟨[], rfl, fun _ m => by cases m⟩
  | x :: r, h => by
    obtain ⟨c, hc, e⟩ := h x List.mem_cons_self
    obtain ⟨R, e1, e2⟩ := pick_list r fun y m => h y (List.mem_cons_of_mem _ m)
    refine ⟨c :: R, by rw [List.map_cons, e1, e], fun d m => ?_⟩
    rcases List.mem_cons.mp m with rfl | m
    · exact hc
    · exact e2 d m
def InjT (L : List Th) : Prop := ∀ a ∈ L, ∀ b ∈ L, a.text = b.text → a = b
theorem ord_of {L : List Th} (inj : InjT L) : ∃ R ys, Asc R ∧ (∀ c, c ∈ R ↔ c ∈ L) ∧ keyStrs (mergeT [] (pairsOfTh L)) = some ys ∧ sortS ys = R.map Th.text ∧ ys.length ≤ L.length ∧ ∀ c ∈ R, getT (mergeT [] (pairsOfTh L)) (Sum.inr c.text) = some c.t := by
  have h := byText L
  obtain ⟨ys, ey⟩ := keyStrs_of (ps := mergeT [] (pairsOfTh L)) fun k m => by
    obtain ⟨c, _, e⟩ := (h.mem k).mp m
    exact ⟨_, e⟩
  have ek := keyStrs_eq ey
  have nd : ys.Nodup := by
    have := h.nd
    rw [ek] at this
    exact (List.pairwise_map.mp this).imp fun {a b} z e => z (by rw [e])
  have my : ∀ x, x ∈ ys ↔ ∃ c ∈ L, x = c.text := fun x => by
    have := h.mem (Sum.inr x)
    rw [ek] at this
    constructor
    · intro m
      obtain ⟨c, hc, e⟩ := this.mp (List.mem_map.mpr ⟨x, m, rfl⟩)
      exact ⟨c, hc, Sum.inr.inj e⟩
    · rintro ⟨c, hc, e⟩
      obtain ⟨y, hy, e2⟩ := List.mem_map.mp (this.mpr ⟨c, hc, by rw [e]⟩)
      rw [← Sum.inr.inj e2]
      exact hy
  have pm := List.mergeSort_perm ys leS
  obtain ⟨R, e1, e2⟩ := pick_list (L := L) (sortS ys) fun x m => (my x).mp (pm.mem_iff.mp m)
  have ndS : (sortS ys).Nodup := pm.nodup_iff.mpr nd
  refine ⟨R, ys, ?_, fun c => ⟨e2 c, fun hc => ?_⟩, ey, e1.symm, ?_, fun c hc => ?_⟩
  · have p1 := List.pairwise_mergeSort leS_trans leS_total ys
    have p2 : (sortS ys).Pairwise fun a b => leS a b = true ∧ a ≠ b := List.Pairwise.and p1 ndS
    rw [← e1] at p2
    exact List.pairwise_map.mp p2
  · have m : c.text ∈ R.map Th.text := by
      rw [e1]
      exact pm.mem_iff.mpr ((my _).mpr ⟨c, hc, rfl⟩)
    obtain ⟨d, hd, e⟩ := List.mem_map.mp m
    rw [← inj d (e2 d hd) c hc e]
    exact hd
  · have := congrArg List.length ek
    rw [List.length_map, List.length_map] at this
    have l1 := merge_len (pairsOfTh L) []
    rw [List.length_map] at l1
    simp at l1
    omega
  · obtain ⟨t, ht⟩ := h.has c (e2 c hc)
    obtain ⟨d, hd, e, rfl⟩ := h.val _ _ ht
    rw [ht, inj c (e2 c hc) d hd (Sum.inr.inj e)]
end L2.TL
namespace L2.TL
open PySem PySem.Spec
open PyProof.Rows
theorem lcGo_th {Z : Res} {gt : GF} {fe : EF Z} {τ : List SV} {s : Z.S} {it h : Th → T} : ∀ (l : List Th), (∀ c ∈ l, ∃ τ', gt (it c) τ = some τ' ∧ fe τ' s = some (h c, s)) → lcGo gt xYes fe τ (l.map it) s = some (l.map h, s)
  | [], _ => rfl
  | c :: r, hp => by
    obtain ⟨τ', e1, e2⟩ := hp c List.mem_cons_self
    have ih := lcGo_th r fun d m => hp d (List.mem_cons_of_mem _ m)
    rw [List.map_cons]
    conv => lhs; unfold lcGo
    simp only [e1, xYes, e2, ih, List.map_cons]
theorem pairsT_th : ∀ L : List Th, pairsT (L.map fun c => T.tup [.str c.text, c.t]) = some (pairsOfTh L)
  | [] => rfl
  | c :: r => by
    show (match keyOf (.str c.text), pairsT (r.map fun c => T.tup [.str c.text, c.t]) with
      | some k, some ps => some ((k, c.t) :: ps)
      | _, _ => none) = _
    rw [pairsT_th r]
    rfl
theorem keysOf_th : ∀ L : List Th, keysOf (tx L) = some (L.map fun c => Sum.inr c.text)
  | [] => rfl
  | c :: r => by
    show (match keyOf (.str c.text), keysOf (tx r) with
      | some k, some ks => some (k :: ks)
      | _, _ => none) = _
    rw [keysOf_th r]
    rfl
theorem zip_th : ∀ L : List Th, (L.map fun c => (Sum.inr c.text : Key)).zip (tL L) = pairsOfTh L
  | [] => rfl
  | c :: r => by
    show ((Sum.inr c.text : Key), c.t) :: ((r.map fun c => (Sum.inr c.text : Key)).zip (tL r)) = _
    rw [zip_th r]
    rfl
theorem sorted_dct {ps : List (Key × T)} {ys : List Str} (h : keyStrs ps = some ys) (h64 : ys.length < 64) : sortedT [.dct ps] = some (.lst ((sortS ys).map T.str)) := by
  have e : sortDT [.dct ps] = some (.lst ((sortS ys).map T.str)) := by
    unfold sortDT
    simp only [h]
    exact if_pos h64
  have e1 : sortST [.dct ps] = none := rfl
  have e2 : sortFT [.dct ps] = none := rfl
  unfold sortedT opOr
  simp only [e1, e2, e]
theorem sorted_strs {ys : List Str} (h64 : ys.length < 64) : sortedT [.lst (ys.map T.str)] = some (.lst ((sortS ys).map T.str)) := by
  have e : sortST [.lst (ys.map T.str)] = some (.lst ((sortS ys).map T.str)) := by
    unfold sortST
    simp only [strs?_map]
    exact if_pos h64
  unfold sortedT opOr
  simp only [e]
theorem in_order_eq {L : List Th} (inj : InjT L) (h : ∀ c ∈ L, c.ok ∧ c.pre.length ≤ 900 ∧ c.dep < 5) (h64 : L.length < 64) : ∃ R, Asc R ∧ (∀ c, c ∈ R ↔ c ∈ L) ∧ f_law_in_order [.lst (tL L)] = some (.tup (tL R)) := by
  obtain ⟨R, ys, h1, h2, ek, es, hl, hg⟩ := ord_of inj
  refine ⟨R, h1, h2, ?_⟩
  have go1 : lcGo (Z := Z0) (gSet 2) xYes (xTup (xCons (xCallP (f_law_text 5) (xCons (xName 2) (xNil))) (xCons (xName 2) (xNil)))) (wipeT [.im (.lst (tL L)), .un, .un, .un] [2]) (tL L) () = some (L.map fun c => T.tup [.str c.text, c.t], ()) :=
    lcGo_parts L fun c m => ⟨_, if_pos (by simp [wipeT]), ev_tup (ev_cons (ev_callP (ev_cons (ev_name rfl) ev_nil) (law_text_eq 5 c (h c m).1 (h c m).2.1 (h c m).2.2)) (ev_cons (ev_name rfl) ev_nil)) (sz (by simp))⟩
  have lc1 : xLc (Z := Z0) [2] (iSeq (xName 0)) (gSet 2) xYes (xTup (xCons (xCallP (f_law_text 5) (xCons (xName 2) (xNil))) (xCons (xName 2) (xNil)))) [.im (.lst (tL L)), .un, .un, .un] () = some (.lst (L.map fun c => T.tup [.str c.text, c.t]), ()) :=
    ev_lc (ev_seqL (ev_name rfl)) (by rw [tL_len]; exact sz (by omega)) rfl go1
  have d1 : dictPT [.lst (L.map fun c => T.tup [.str c.text, c.t])] = some (.dct (mergeT [] (pairsOfTh L))) := by
    unfold dictPT
    simp only [pairsT_th]
  have so := sorted_dct ek (by omega)
  rw [es, List.map_map] at so
  generalize mergeT [] (pairsOfTh L) = ps at *
  have hR : R.length ≤ 63 := by
    have := congrArg List.length es
    rw [List.length_map] at this
    have l2 : (sortS ys).length = ys.length := (List.mergeSort_perm ys leS).length_eq
    omega
  have go2 : lcGo (Z := Z0) (gSet 3) xYes (x2 dgetT (xName 1) (xName 3)) (wipeT [.im (.lst (tL L)), .im (.dct ps), .un, .un] [3]) (R.map (T.str ∘ Th.text)) () = some (R.map Th.t, ()) :=
    lcGo_th R fun c m => ⟨_, if_pos (by simp [wipeT]), ev_x2 (ev_name rfl) (ev_name rfl) (hg c m)⟩
  have it2 : iSeq (Z := Z0) (xCall sortedT (xCons (xName 1) xNil)) [.im (.lst (tL L)), .im (.dct ps), .un, .un] () = some (R.map (T.str ∘ Th.text), ()) := ev_seqL (ev_call (ev_cons (ev_name rfl) ev_nil) so)
  have lc2 : xLc (Z := Z0) [3] (iSeq (xCall sortedT (xCons (xName 1) xNil))) (gSet 3) xYes (x2 dgetT (xName 1) (xName 3)) [.im (.lst (tL L)), .im (.dct ps), .un, .un] () = some (.lst (R.map Th.t), ()) :=
    ev_lc it2 (by rw [List.length_map]; exact sz (by omega)) rfl go2
  rw [tL_map R]
  exact ev_fp rfl (ev_seq (ev_set (ev_call (ev_cons lc1 ev_nil) d1) (by simp)) (ev_ret (ev_call (ev_cons lc2 ev_nil) rfl)))
theorem keyT_strs : ∀ ys : List Str, ((ys.map fun x => (Sum.inr x : Key)).map keyT) = ys.map T.str
  | [] => rfl
  | y :: r => by
    simp only [List.map_cons, keyT_strs r]
    rfl
noncomputable abbrev amB : SF Z0 := sSeq (sSet 4 (xCallP (f_walk) (xCons (xName 3) (xNil)))) (sSeq (sDropO (oExt 2 (xName 4))) (sDropO (oExt 1 (xCallP (f_texts_of) (xCons (xName 4) (xNil))))))
theorem pieces_of_eq {t : Th} (inj : InjT t.post) (h : t.ok) (hz : t.pre.length < 64) : ∃ R, Asc R ∧ (∀ c, c ∈ R ↔ c ∈ t.post) ∧ R.length ≤ 63 ∧ f_pieces_of [t.t] = some (.tup (tL R)) := by
  obtain ⟨R, ys, h1, h2, ek, es, hl, hg⟩ := ord_of inj
  have hR0 : R.length ≤ 63 := by
    have := congrArg List.length es
    rw [List.length_map] at this
    have l2 : (sortS ys).length = ys.length := (List.mergeSort_perm ys leS).length_eq
    have pl := post_len t
    omega
  refine ⟨R, h1, h2, hR0, ?_⟩
  have pl := post_len t
  have dz : xDictZip (Z := Z0) (xCons (xName 1) (xCons (xName 2) (xNil))) [.im (.tup [t.t]), .im (.lst (tx t.post)), .im (.lst (tL t.post)), .im t.t, .im (.lst (tL t.post)), .un, .un] () = some (.dct (mergeT [] (pairsOfTh t.post)), ()) := by
    have hx : xCons (Z := Z0) (xName 1) (xCons (xName 2) (xNil)) [.im (.tup [t.t]), .im (.lst (tx t.post)), .im (.lst (tL t.post)), .im t.t, .im (.lst (tL t.post)), .un, .un] () = some ([.lst (tx t.post), .lst (tL t.post)], ()) := ev_cons (ev_name rfl) (ev_cons (ev_name rfl) ev_nil)
    unfold xDictZip
    simp only [hx, keysOf_th]
    rw [if_pos (by rw [List.length_map, tL_len]), zip_th]
    rfl
  have kp := keyStrs_eq ek
  have ld : listDT [.dct (mergeT [] (pairsOfTh t.post))] = some (.lst (ys.map T.str)) := by
    show some (T.lst (((mergeT [] (pairsOfTh t.post)).map (·.1)).map keyT)) = _
    rw [kp, keyT_strs]
  have so := sorted_strs (ys := ys) (by omega)
  rw [es, List.map_map] at so
  generalize mergeT [] (pairsOfTh t.post) = ps at *
  have hR : R.length ≤ 63 := by
    have := congrArg List.length es
    rw [List.length_map] at this
    have l2 : (sortS ys).length = ys.length := (List.mergeSort_perm ys leS).length_eq
    omega
  have go2 : lcGo (Z := Z0) (gSet 6) xYes (x2 dgetT (xName 5) (xName 6)) (wipeT [.im (.tup [t.t]), .im (.lst (tx t.post)), .im (.lst (tL t.post)), .im t.t, .im (.lst (tL t.post)), .im (.dct ps), .un] [6]) (R.map (T.str ∘ Th.text)) () = some (R.map Th.t, ()) :=
    lcGo_th R fun c m => ⟨_, if_pos (by simp [wipeT]), ev_x2 (ev_name rfl) (ev_name rfl) (hg c m)⟩
  have it2 : iSeq (Z := Z0) (xCall sortedT (xCons (xCall listDT (xCons (xName 5) xNil)) xNil)) [.im (.tup [t.t]), .im (.lst (tx t.post)), .im (.lst (tL t.post)), .im t.t, .im (.lst (tL t.post)), .im (.dct ps), .un] () = some (R.map (T.str ∘ Th.text), ()) :=
    ev_seqL (ev_call (ev_cons (ev_call (ev_cons (ev_name rfl) ev_nil) ld) ev_nil) so)
  have lc2 : xLc (Z := Z0) [6] (iSeq (xCall sortedT (xCons (xCall listDT (xCons (xName 5) xNil)) xNil))) (gSet 6) xYes (x2 dgetT (xName 5) (xName 6)) [.im (.tup [t.t]), .im (.lst (tx t.post)), .im (.lst (tL t.post)), .im t.t, .im (.lst (tL t.post)), .im (.dct ps), .un] () = some (.lst (R.map Th.t), ()) :=
    ev_lc it2 (by rw [List.length_map]; exact sz (by omega)) rfl go2
  have bd : amB [.im (.tup [t.t]), .ow (.lst []), .ow (.lst []), .im t.t, .un, .un, .un] () = some (.nx [.im (.tup [t.t]), .ow (.lst ([] ++ tx t.post)), .ow (.lst ([] ++ tL t.post)), .im t.t, .im (.lst (tL t.post)), .un, .un] ()) := by
    refine ev_seq (ev_set (ev_callP (ev_cons (ev_name rfl) ev_nil) (walk_eq t (by omega))) (by simp)) (ev_seq (ev_dropO (ev_extL rfl (ev_name rfl) ?_)) (ev_dropO (ev_extL rfl (ev_callP (ev_cons (ev_name rfl) ev_nil) (texts_eq t h (by omega))) ?_)))
    · rw [tL_len]
      exact sz (by simp; omega)
    · exact sz (by simp; omega)
  have fo : sForE (Z := Z0) (iTupl (xName 0)) (gSet 3) amB [.im (.tup [t.t]), .ow (.lst []), .ow (.lst []), .un, .un, .un, .un] () = some (.nx [.im (.tup [t.t]), .ow (.lst ([] ++ tx t.post)), .ow (.lst ([] ++ tL t.post)), .im t.t, .im (.lst (tL t.post)), .un, .un] ()) := by
    have it : iTupl (Z := Z0) (xName 0) [.im (.tup [t.t]), .ow (.lst []), .ow (.lst []), .un, .un, .un, .un] () = some ([t.t], ()) := rfl
    refine ev_forE it ?_
    exact (for_step (gt := gSet 3) (gb := amB) (a := t.t) (r := []) (τ := [.im (.tup [t.t]), .ow (.lst []), .ow (.lst []), .un, .un, .un, .un]) (s := (() : Z0.S)) (if_pos (by simp)) bd).trans rfl
  rw [List.nil_append, List.nil_append] at fo
  have am : f_pieces_among [.tup [t.t]] = some (.tup (tL R)) := by
    rw [tL_map R]
    refine ev_fp rfl (ev_seq (ev_setO (ev_lst rfl (sz (by decide))) (by simp)) (ev_seq (ev_setO (ev_lst rfl (sz (by decide))) (by simp)) (ev_seq fo (ev_freeze (a := .lst (tL t.post)) rfl (ev_freeze (a := .lst (tx t.post)) rfl (ev_seq (ev_set dz (by simp)) (ev_ret (ev_call (ev_cons lc2 ev_nil) rfl))))))))
  exact ev_fp rfl (ev_ret (ev_callP (ev_cons (ev_tup (ev_cons (ev_name rfl) ev_nil) (sz (by simp))) ev_nil) am))
end L2.TL
namespace L2.TL
open PySem PySem.Spec
open PyProof.Rows
def lo (c : Nat) : Bool := decide (97 ≤ c) && decide (c ≤ 122)
def up (c : Nat) : Bool := decide (65 ≤ c) && decide (c ≤ 90)
def di (c : Nat) : Bool := decide (48 ≤ c) && decide (c ≤ 57)
theorem u_alpha : (List.range 128).all (fun c => Unicode.isAlpha c == (lo c || up c)) = true := by decide +kernel
theorem u_upper : (List.range 128).all (fun c => Unicode.isUpper c == up c) = true := by decide +kernel
theorem u_lower : (List.range 128).all (fun c => Unicode.isLower c == lo c) = true := by decide +kernel
theorem u_title : (List.range 128).all (fun c => Unicode.isTitle c == false) = true := by decide +kernel
theorem u_alnum : (List.range 128).all (fun c => Unicode.isAlnum c == (lo c || up c || di c)) = true := by decide +kernel
theorem u_low : (List.range 128).all (fun c => Unicode.lowerOf c == [if up c then c + 32 else c]) = true := by decide +kernel
theorem u_up : (List.range 128).all (fun c => Unicode.upperOf c == [if lo c then c - 32 else c]) = true := by decide +kernel
abbrev ltS : Str := Str.ofString "abcdefghijklmnopqrstuvwxyz"
theorem tab {p q : Nat → Bool} (h : (List.range 128).all (fun c => p c == q c) = true) {c : Nat} (hc : c < 128) : p c = q c := by
  have := List.all_eq_true.mp h c (List.mem_range.mpr hc)
  simpa using this
theorem m_lt : (List.range 128).all (fun c => decide (c ∈ ltS.cps.toList) == lo c) = true := by decide +kernel
theorem m_up : (List.range 128).all (fun c => decide (c ∈ (Str.ofString "ABCDEFGHIJKLMNOPQRSTUVWXYZ").cps.toList) == up c) = true := by decide +kernel
theorem m_sg : (List.range 128).all (fun c => decide (c ∈ (Str.ofString "abcdefghijklmnopqrstuvwxyz0123456789").cps.toList) == (lo c || di c)) = true := by decide +kernel
theorem b_lt : ltS.cps.toList.all (fun c => decide (c < 128)) = true := by decide +kernel
theorem b_up : (Str.ofString "ABCDEFGHIJKLMNOPQRSTUVWXYZ").cps.toList.all (fun c => decide (c < 128)) = true := by decide +kernel
theorem b_sg : (Str.ofString "abcdefghijklmnopqrstuvwxyz0123456789").cps.toList.all (fun c => decide (c < 128)) = true := by decide +kernel
theorem mem_lt {l : List Nat} {p : Nat → Bool} (h : (List.range 128).all (fun c => decide (c ∈ l) == p c) = true) (b : l.all (fun c => decide (c < 128)) = true) (c : Nat) : decide (c ∈ l) = (decide (c < 128) && p c) := by
  by_cases hc : c < 128
  · have e : decide (c ∈ l) = p c := tab (p := fun c => decide (c ∈ l)) h hc
    rw [e]
    simp [hc]
  · have : ¬ c ∈ l := fun m => hc (of_decide_eq_true (List.all_eq_true.mp b c m))
    simp [this, hc]
theorem ascii_all (x : Str) : Txt.isascii x = x.cps.toList.all fun c => decide (c < 128) := by
  unfold Txt.isascii
  rw [← Array.all_toList]
theorem all_congr {l : List Nat} {p q : Nat → Bool} (h : ∀ c ∈ l, p c = q c) : l.all p = l.all q := by
  induction l with
  | nil => rfl
  | cons a r ih => rw [List.all_cons, List.all_cons, h a (by simp), ih fun c hc => h c (by simp [hc])]
theorem any_congr {l : List Nat} {p q : Nat → Bool} (h : ∀ c ∈ l, p c = q c) : l.any p = l.any q := by
  induction l with
  | nil => rfl
  | cons a r ih => rw [List.any_cons, List.any_cons, h a (by simp), ih fun c hc => h c (by simp [hc])]
/-- words: the program's tests are the law's -/
theorem word_math (x : Str) (h1 : 1 ≤ x.length) : (Txt.isascii x && Txt.isalpha x && Txt.islower x) = x.cps.toList.all fun c => decide (c ∈ ltS.cps.toList) := by
  have hne : x.cps.toList ≠ [] := by
    intro e
    unfold Str.length at h1
    rw [← Array.length_toList, e] at h1
    exact absurd h1 (by decide)
  have hpos : decide (x.length > 0) = true := decide_eq_true h1
  rw [all_congr fun c _ => mem_lt m_lt b_lt c, ascii_all]
  unfold Txt.isalpha Txt.islower
  rw [hpos, Bool.true_and, ← Array.all_toList, ← Array.any_toList, ← Array.any_toList]
  generalize x.cps.toList = l at hne
  cases ha : l.all fun c => decide (c < 128) with
  | false =>
    rw [Bool.false_and, Bool.false_and]
    obtain ⟨c, hc, hn⟩ := List.all_eq_false.mp ha
    symm
    exact List.all_eq_false.mpr ⟨c, hc, by simp at hn; simp; omega⟩
  | true =>
    have small : ∀ c ∈ l, c < 128 := fun c hc => of_decide_eq_true (List.all_eq_true.mp ha c hc)
    have eA : l.all Unicode.isAlpha = l.all fun c => lo c || up c := all_congr fun c hc => tab u_alpha (small c hc)
    have eL : l.any Unicode.isLower = l.any lo := any_congr fun c hc => tab u_lower (small c hc)
    have eU : (l.any fun c => Unicode.isUpper c || Unicode.isTitle c) = l.any up := any_congr fun c hc => by
      have e1 := tab u_upper (small c hc)
      have e2 : Unicode.isTitle c = false := tab (q := fun _ => false) u_title (small c hc)
      rw [e1, e2, Bool.or_false]
    have eR : (l.all fun c => decide (c < 128) && lo c) = l.all lo := all_congr fun c hc => by simp [small c hc]
    rw [eA, eL, eU, eR, Bool.true_and]
    cases hl : l.all lo with
    | true =>
      have hlo : ∀ c ∈ l, lo c = true := fun c hc => List.all_eq_true.mp hl c hc
      have e1 : (l.all fun c => lo c || up c) = true := List.all_eq_true.mpr fun c hc => by rw [hlo c hc]; rfl
      have e2 : l.any lo = true := by
        cases l with
        | nil => exact absurd rfl hne
        | cons a r => rw [List.any_cons, hlo a (by simp)]; rfl
      have e3 : l.any up = false := List.any_eq_false.mpr fun c hc => by
        have := hlo c hc
        unfold lo at this
        unfold up
        simp at this ⊢
        omega
      rw [e1, e2, e3]
      rfl
    | false =>
      obtain ⟨c, hc, hn⟩ := List.all_eq_false.mp hl
      cases hu : up c with
      | true =>
        have e3 : l.any up = true := List.any_eq_true.mpr ⟨c, hc, hu⟩
        rw [e3]
        simp
      | false =>
        have e1 : (l.all fun c => lo c || up c) = false := List.all_eq_false.mpr ⟨c, hc, by simp at hn; simp [hn, hu]⟩
        rw [e1]
        rfl
theorem lower_list (r : List Nat) (hr : ∀ c ∈ r, c < 128) : Txt.lower ⟨r.toArray⟩ = ⟨(r.map fun c => if up c then c + 32 else c).toArray⟩ := by
  unfold Txt.lower placed
  congr 1
  have e : ((⟨r.toArray⟩ : Str).cps.mapIdx fun i c => (Unicode.lowerAt (⟨r.toArray⟩ : Str).cps i).toArray) = (r.map fun c => #[if up c then c + 32 else c]).toArray := by
    apply Array.ext
    · simp
    · intro i h1 h2
      simp only [Array.getElem_mapIdx, List.getElem_toArray, List.getElem_map]
      have hi : i < r.length := by simpa using h2
      unfold Unicode.lowerAt
      have : (r.toArray)[i]? = some r[i] := by simp [hi]
      simp only [this]
      have hc := hr r[i] (List.getElem_mem hi)
      have n3 : (r[i] == 0x3A3) = false := by
        simp
        omega
      rw [n3, Bool.false_and]
      have := tab (q := fun c => true) (p := fun c => Unicode.lowerOf c == [if up c then c + 32 else c]) (by
        have := u_low
        simpa using this) hc
      have := eq_of_beq this
      simp [this]
  rw [e]
  clear e
  induction r with
  | nil => rfl
  | cons a l ih =>
    have := ih fun c hc => hr c (by simp [hc])
    apply Array.ext'
    simp only [List.map_cons, Array.toList_flatten, List.map_map] at this ⊢
    simp
    have q := congrArg Array.toList this
    simpa [Array.toList_flatten] using q
theorem name_math (c : Nat) (r : List Nat) : (Txt.isascii ⟨(c :: r).toArray⟩ && (Txt.isalnum ⟨(c :: r).toArray⟩ && (Txt.isupper ⟨#[c]⟩ && decide (Str.mk r.toArray = Txt.lower ⟨r.toArray⟩)))) =
    (decide (c ∈ (Str.ofString "ABCDEFGHIJKLMNOPQRSTUVWXYZ").cps.toList) && r.all fun x => decide (x ∈ (Str.ofString "abcdefghijklmnopqrstuvwxyz0123456789").cps.toList)) := by
  rw [all_congr fun c _ => mem_lt m_sg b_sg c, mem_lt m_up b_up c, ascii_all]
  show ((c :: r).all _ && _) = _
  rw [List.all_cons]
  cases hc : decide (c < 128) with
  | false => simp
  | true =>
    have hc' : c < 128 := of_decide_eq_true hc
    rw [Bool.true_and, Bool.true_and]
    cases ha : r.all fun c => decide (c < 128) with
    | false =>
      rw [Bool.false_and]
      obtain ⟨x, hx, hn⟩ := List.all_eq_false.mp ha
      have : (r.all fun x => decide (x < 128) && (lo x || di x)) = false := List.all_eq_false.mpr ⟨x, hx, by simp at hn; simp; omega⟩
      rw [this, Bool.and_false]
    | true =>
      have small : ∀ c ∈ r, c < 128 := fun c hc => of_decide_eq_true (List.all_eq_true.mp ha c hc)
      rw [Bool.true_and, all_congr (q := fun x => lo x || di x) fun x hx => by simp [small x hx]]
      have e1 : Txt.isupper ⟨#[c]⟩ = up c := by
        unfold Txt.isupper
        have a1 := tab u_upper hc'
        have a2 := tab u_lower hc'
        have a3 : Unicode.isTitle c = false := tab (q := fun _ => false) u_title hc'
        simp [a1, a2, a3]
        intro hu
        unfold up at hu
        unfold lo
        simp at hu ⊢
        omega
      have e2 : Txt.isalnum ⟨(c :: r).toArray⟩ = ((lo c || up c || di c) && r.all fun x => lo x || up x || di x) := by
        unfold Txt.isalnum
        have : decide ((Str.mk (c :: r).toArray).length > 0) = true := decide_eq_true (by simp [Str.length])
        rw [this, Bool.true_and, ← Array.all_toList]
        show ((c :: r).all _) = _
        rw [List.all_cons, tab u_alnum hc', all_congr fun x hx => tab u_alnum (small x hx)]
      have e3 : decide (Str.mk r.toArray = Txt.lower ⟨r.toArray⟩) = r.all fun x => !up x := by
        rw [lower_list r small, Bool.eq_iff_iff, decide_eq_true_iff, List.all_eq_true]
        constructor
        · intro h x hx
          have h' : r = r.map fun c => if up c then c + 32 else c := by
            have := congrArg (fun z : Str => z.cps.toList) h
            simpa using this
          obtain ⟨i, hi, rfl⟩ := List.getElem_of_mem hx
          have q : r[i] = if up r[i] then r[i] + 32 else r[i] := by
            have := congrArg (fun l : List Nat => l[i]?) h'
            simpa [hi] using this
          cases hu : up r[i] with
          | false => rfl
          | true =>
            rw [hu] at q
            simp at q
        · intro h
          congr 2
          have : r.map (fun c => if up c then c + 32 else c) = r.map id := List.map_congr_left fun x hx => by
            have := h x hx
            simp at this
            simp [this]
          rw [this, List.map_id]
      rw [e1, e2, e3]
      cases hu : up c with
      | false => simp
      | true =>
        simp only [Bool.or_true, Bool.true_or, Bool.true_and]
        rw [Bool.eq_iff_iff]
        simp only [Bool.and_eq_true, List.all_eq_true]
        constructor
        · intro ⟨h1, h2⟩ x hx
          have a := h1 x hx
          have b := h2 x hx
          simp at b
          simpa [b] using a
        · intro h
          refine ⟨fun x hx => ?_, fun x hx => ?_⟩
          · have := h x hx
            simp at this ⊢
            rcases this with q | q
            · exact .inl (.inl q)
            · exact .inr q
          · have := h x hx
            unfold lo di at this
            unfold up
            simp at this ⊢
            omega
def lenB (x : Str) : Bool := decide (1 ≤ x.length) && decide (x.length ≤ 8)
def oddP (z : Str) : T → Bool := fun t => match t with
  | .str ⟨⟨[c]⟩⟩ => !decide (c ∈ z.cps.toList)
  | _ => false
theorem odd_filter (y z : Str) : ((signs y).filter (oddP z)).isEmpty = y.cps.toList.all fun c => decide (c ∈ z.cps.toList) := by
  unfold signs
  generalize y.cps.toList = l
  induction l with
  | nil => rfl
  | cons c r ih =>
    rw [List.map_cons, List.filter_cons]
    have e : oddP z (.str ⟨#[c]⟩) = !decide (c ∈ z.cps.toList) := rfl
    rw [e, List.all_cons]
    cases decide (c ∈ z.cps.toList) with
    | true =>
      rw [Bool.true_and, ← ih]
      rfl
    | false => rfl
/-- the signs of a text of small code points -/
theorem no_odd (y z : Str) (hy : ∀ c ∈ y.cps.toList, c < 1114112) : eqX false (.lst ((signs y).filter (oddP z))) (.lst []) = some (.bl (y.cps.toList.all fun c => decide (c ∈ z.cps.toList))) := by
  rw [eq_nil, ← odd_filter]
  · rfl
  · intro t ht
    have := (List.mem_filter.mp ht).1
    unfold signs at this
    obtain ⟨c, hc, rfl⟩ := List.mem_map.mp this
    refine ⟨rfl, ?_, Nat.zero_le _⟩
    have := hy c hc
    show ((#[c] : Array Nat).all fun c => decide (c < 0x110000)) = true
    simp
    omega
theorem odd_go {Z : Res} (y z : Str) (i : Nat) (τ : List SV) (s : Z.S) (j : Nat) (hi : i < τ.length) (hj : τ[j]? = some (.im (.str z))) (hij : j ≠ i) : lcGo (gSet i) (xb (x2 (inS true) (xName i) (xName j))) (xName i) τ (signs y) s = some ((signs y).filter (oddP z), s) := by
  refine lcGo_filter (signs y) fun a ha => ?_
  unfold signs at ha
  obtain ⟨c, hc, rfl⟩ := List.mem_map.mp ha
  refine ⟨τ.set i (.im (.str ⟨#[c]⟩)), by unfold gSet; rw [if_pos hi], ?_, ?_⟩
  · unfold xb x2 xName
    rw [List.getElem?_set_self hi, List.getElem?_set_ne (fun e => hij e.symm), hj]
    rfl
  · unfold xName
    rw [List.getElem?_set_self hi]
theorem comp_odd {Z : Res} {y z : Str} {i j : Nat} {f : EFs Z} {τ : List SV} {s : Z.S} (hf : f τ s = some (signs y, s)) (hi : τ[i]? = some .un) (hw : wipeT τ [i] = τ) (hj : τ[j]? = some (.im (.str z))) (hij : j ≠ i) (hy : y.length ≤ 1000) (hc : ∀ c ∈ y.cps.toList, c < 1114112) :
    x2 (eqX false) (xLc [i] f (gSet i) (xb (x2 (inS true) (xName i) (xName j))) (xName i)) (xLst xNil) τ s = some (.bl (y.cps.toList.all fun c => decide (c ∈ z.cps.toList)), s) := by
  have hl : i < τ.length := (List.getElem?_eq_some_iff.mp hi).1
  have h1 : (signs y).length ≤ sizeLine := by
    rw [signs_len, sizeLine_eq]
    omega
  have go := odd_go (Z := Z) y z i τ s j hl hj hij
  have h2 : ([i].all fun v => match τ[v]? with
      | some x => !isOw x
      | none => true) = true := by simp [hi, isOw]
  exact ev_x2 (ev_lc hf h1 h2 (by rw [hw]; exact go)) (ev_lst ev_nil (Nat.zero_le _)) (no_odd y z hc)
theorem first_sign (c : Nat) (r : List Nat) (hr : r.length + 1 ≤ 1000) : ixT (.str ⟨(c :: r).toArray⟩) (.int 0) = some (.str ⟨#[c]⟩) := by
  unfold ixT
  have hz : (Str.mk (c :: r).toArray).length ≤ sizeLine := by
    rw [sizeLine_eq]
    simp [Str.length]
    omega
  simp only [if_pos hz]
  have : atI (c :: r).toArray.toList (0 : Int) = some c := by
    have := atI_nat' (l := c :: r) (k := 0) (by simp)
    simpa using this
  rw [this]
theorem rest_text (c : Nat) (r : List Nat) (hr : r.length + 1 ≤ 1000) : cutT (.str ⟨(c :: r).toArray⟩) (some 1) none = some (.str ⟨r.toArray⟩) := by
  have hz : (Str.mk (c :: r).toArray).length ≤ sizeLine := by
    rw [sizeLine_eq]
    simp [Str.length]
    omega
  unfold cutT
  simp only [if_pos hz]
  congr 2
  unfold cutS HT.sIx
  simp [Str.length]
theorem xlen {Z : Res} {τ : List SV} {s : Z.S} {i : Nat} {x : Str} (h : τ[i]? = some (.im (.str x))) (hx : x.length ≤ 1000) : xCall (Z := Z) lenT (xCons (xName i) xNil) τ s = some (.int x.length, s) := by
  refine ev_call (ev_cons (ev_name h) ev_nil) ?_
  unfold lenT
  exact if_pos (by rw [sizeLine_eq]; omega)
/-- 1 <= len(x) <= 8 -/
theorem chain18 {Z : Res} {τ : List SV} {s : Z.S} {i : Nat} {x : Str} (h : τ[i]? = some (.im (.str x))) (hx : x.length ≤ 1000) : xb (x3 leX leX (xC (T.int 1)) (xCall lenT (xCons (xName i) xNil)) (xC (T.int 8))) τ s = some (lenB x, s) := by
  refine ev_xb ?_
  unfold x3 lenB
  simp only [xlen h hx, xC]
  by_cases h1 : 1 ≤ x.length
  · have e1 : (1 : Int) ≤ x.length := by omega
    have q : leX (.int 1) (.int x.length) = some (.bl true) := by simp [leX, orT, cmpI, e1]
    rw [q]
    by_cases h2 : x.length ≤ 8
    · have e2 : (x.length : Int) ≤ 8 := by omega
      simp [leX, orT, cmpI, h1, h2, e2]
    · have e2 : ¬ (x.length : Int) ≤ 8 := by omega
      simp [leX, orT, cmpI, h1, h2, e2]
  · have e1 : ¬ (1 : Int) ≤ x.length := by omega
    have q : leX (.int 1) (.int x.length) = some (.bl false) := by simp [leX, orT, cmpI, e1]
    rw [q]
    simp [h1]
/-- 0 < len(x) < 9 -/
theorem chain09 {Z : Res} {τ : List SV} {s : Z.S} {i : Nat} {x : Str} (h : τ[i]? = some (.im (.str x))) (hx : x.length ≤ 1000) : x3 ltX ltX (xC (T.int 0)) (xCall lenT (xCons (xName i) xNil)) (xC (T.int 9)) τ s = some (.bl (lenB x), s) := by
  unfold x3 lenB
  simp only [xlen h hx, xC]
  by_cases h1 : 1 ≤ x.length
  · have e1 : (0 : Int) < x.length := by omega
    have q : ltX (.int 0) (.int x.length) = some (.bl true) := by
      unfold ltX orT cmpI
      simp only [decide_eq_true e1]
    rw [q]
    by_cases h2 : x.length ≤ 8
    · have e2 : (x.length : Int) < 9 := by omega
      simp [ltX, orT, cmpI, h1, h2, e2]
    · have e2 : ¬ (x.length : Int) < 9 := by omega
      simp [ltX, orT, cmpI, h1, h2, e2]
  · have e1 : ¬ (0 : Int) < x.length := by omega
    have q : ltX (.int 0) (.int x.length) = some (.bl false) := by
      unfold ltX orT cmpI
      simp only [decide_eq_false e1]
    rw [q]
    simp [h1]
theorem not_str {Z : Res} {τ : List SV} {s : Z.S} {i : Nat} {x : Str} (h : τ[i]? = some (.im (.str x))) : xbNot (xTru (xIs "str" (xName i))) τ s = some (false, s) := ev_bnot (k := true) (ev_tru (ev_is (ev_name h) rfl) rfl)
/-- not a text, or of another length -/
theorem is_name_len (x : Str) (hx : x.length ≤ 1000) (hl : lenB x = false) : f_is_name [.str x] = some (.bl false) ∧ f_law_is_name [.str x] = some (.bl false) := by
  refine ⟨ev_fp rfl (ev_seq_rt (ev_if_t (ev_or_f (not_str rfl) (ev_bnot (k := false) ?_)) (ev_ret rfl))), ev_fp rfl (ev_seq (ev_set rfl (by simp)) (ev_seq_rt (ev_if_t (ev_or_f (not_str rfl) (ev_or_t (ev_bnot (k := false) (ev_xb ?_)))) (ev_ret rfl))))⟩
  · rw [← hl]
    exact chain18 rfl hx
  · rw [← hl]
    exact chain09 rfl hx
theorem and3 (a b c : Bool) : (a && (b && c)) = (a && b && c) := by cases a <;> rfl
theorem is_name_at (c : Nat) (r : List Nat) (hr : r.length + 1 ≤ 8) : f_is_name [.str ⟨(c :: r).toArray⟩] = some (.bl (Txt.isascii ⟨(c :: r).toArray⟩ && (Txt.isalnum ⟨(c :: r).toArray⟩ && (Txt.isupper ⟨#[c]⟩ && decide (Str.mk r.toArray = Txt.lower ⟨r.toArray⟩))))) := by
  have hl : lenB ⟨(c :: r).toArray⟩ = true := by
    unfold lenB
    simp [Str.length]
    omega
  have hx : (Str.mk (c :: r).toArray).length ≤ 1000 := by
    simp [Str.length]
    omega
  have hlow : strM (fun a => T.str (Txt.lower a)) 5592405 (.str ⟨r.toArray⟩) [] = some (.str (Txt.lower ⟨r.toArray⟩)) := by
    unfold strM
    refine if_pos ?_
    simp [Str.length]
    omega
  refine ev_fp rfl (ev_seq (ev_if_f (s1 := (() : Z0.S)) (ev_or_f (not_str rfl) (ev_bnot (k := true) ?_)) rfl) (ev_ret ?_))
  · rw [← hl]
    exact chain18 rfl hx
  · cases h1 : Txt.isascii ⟨(c :: r).toArray⟩ with
    | false => exact ev_and_f (a := .bl false) (ev_meth (ev_name rfl) rfl ev_nil (by show some (T.bl _) = _; rw [h1])) rfl
    | true =>
      refine ev_and_t (a := .bl true) (ev_meth (ev_name rfl) rfl ev_nil (by show some (T.bl _) = _; rw [h1])) rfl ?_
      rw [Bool.true_and]
      cases h2 : Txt.isalnum ⟨(c :: r).toArray⟩ with
      | false => exact ev_and_f (a := .bl false) (ev_meth (ev_name rfl) rfl ev_nil (by show some (T.bl _) = _; rw [h2])) rfl
      | true =>
        refine ev_and_t (a := .bl true) (ev_meth (ev_name rfl) rfl ev_nil (by show some (T.bl _) = _; rw [h2])) rfl ?_
        rw [Bool.true_and]
        cases h3 : Txt.isupper ⟨#[c]⟩ with
        | false => exact ev_and_f (a := .bl false) (ev_meth (ev_x2 (ev_name rfl) rfl (first_sign c r (by omega))) rfl ev_nil (by show some (T.bl _) = _; rw [h3])) rfl
        | true =>
          refine ev_and_t (a := .bl true) (ev_meth (ev_x2 (ev_name rfl) rfl (first_sign c r (by omega))) rfl ev_nil (by show some (T.bl _) = _; rw [h3])) rfl ?_
          rw [Bool.true_and]
          exact ev_x2 (ev_cut (ev_name rfl) (ev_oSome rfl) rfl (rest_text c r (by omega))) (ev_meth (ev_cut (ev_name rfl) (ev_oSome rfl) rfl (rest_text c r (by omega))) rfl ev_nil hlow) (eq_str false _ _)
abbrev upS : Str := Str.ofString "ABCDEFGHIJKLMNOPQRSTUVWXYZ"
abbrev sgS : Str := Str.ofString "abcdefghijklmnopqrstuvwxyz0123456789"
theorem law_is_name_at (c : Nat) (r : List Nat) (hr : r.length + 1 ≤ 8) (hc : ∀ x ∈ r, x < 1114112) : f_law_is_name [.str ⟨(c :: r).toArray⟩] = some (.bl (decide (c ∈ upS.cps.toList) && r.all fun x => decide (x ∈ sgS.cps.toList))) := by
  have hl : lenB ⟨(c :: r).toArray⟩ = true := by
    unfold lenB
    simp [Str.length]
    omega
  have hx : (Str.mk (c :: r).toArray).length ≤ 1000 := by
    simp [Str.length]
    omega
  refine ev_fp rfl (ev_seq (ev_set rfl (by simp)) ?_)
  have odd : xb (x2 (inS true) (x2 ixT (xName (Z := Z0) 0) (xC (T.int 0))) (xC (T.str upS))) [SV.im (.str ⟨(c :: r).toArray⟩), SV.im (.str sgS), SV.un] () = some (!decide (c ∈ upS.cps.toList), ()) := ev_xb (ev_x2 (ev_x2 (ev_name rfl) rfl (first_sign c r (by omega))) rfl rfl)
  have nlen : xbNot (xb (x3 ltX ltX (xC (T.int 0)) (xCall lenT (xCons (xName (Z := Z0) 0) xNil)) (xC (T.int 9)))) [SV.im (.str ⟨(c :: r).toArray⟩), SV.im (.str sgS), SV.un] () = some (false, ()) := ev_bnot (k := true) (ev_xb (by rw [← hl]; exact chain09 rfl hx))
  cases h1 : decide (c ∈ upS.cps.toList) with
  | false =>
    rw [h1] at odd
    exact ev_seq_rt (ev_if_t (ev_or_f (not_str rfl) (ev_or_f nlen odd)) (ev_ret rfl))
  | true =>
    rw [h1] at odd
    refine ev_seq (ev_if_f (ev_or_f (not_str rfl) (ev_or_f nlen odd)) rfl) (ev_ret ?_)
    rw [Bool.true_and]
    refine comp_odd (y := ⟨r.toArray⟩) (z := sgS) (ev_str (ev_cut (ev_name rfl) (ev_oSome rfl) rfl (rest_text c r (by omega)))) rfl rfl rfl (by decide) (by simp [Str.length]; omega) hc
theorem name_str (x : Str) (h1000 : x.length ≤ 1000) (hs : ∀ c ∈ x.cps.toList, c < 1114112) : ∃ b, f_is_name [.str x] = some (.bl b) ∧ f_law_is_name [.str x] = some (.bl b) := by
  cases hl : lenB x with
  | false =>
    obtain ⟨n1, n2⟩ := is_name_len x h1000 hl
    exact ⟨false, n1, n2⟩
  | true =>
    have h1 : 1 ≤ x.length := by
      unfold lenB at hl
      simp at hl
      exact hl.1
    have h8 : x.length ≤ 8 := by
      unfold lenB at hl
      simp at hl
      exact hl.2
    obtain ⟨c, r, e⟩ : ∃ c r, x.cps.toList = c :: r := by
      cases e : x.cps.toList with
      | nil =>
        unfold Str.length at h1
        rw [← Array.length_toList, e] at h1
        exact absurd h1 (by decide)
      | cons c r => exact ⟨c, r, rfl⟩
    have ex : x = ⟨(c :: r).toArray⟩ := by
      rw [← e]
    have hr : r.length + 1 ≤ 8 := by
      have : x.cps.toList.length ≤ 8 := by
        rw [Array.length_toList]
        exact h8
      rw [e] at this
      simpa using this
    have hc : ∀ y ∈ r, y < 1114112 := fun y hy => hs y (by rw [e]; simp [hy])
    have n2 := law_is_name_at c r hr hc
    rw [← ex] at n2
    refine ⟨_, ?_, n2⟩
    rw [ex, is_name_at c r hr, name_math]
theorem name_tup (l : List T) : f_is_name [.tup l] = some (.bl false) := by
  have hx : xbNot (Z := Z0) (xTru (xIs "str" (xName 0))) [.im (.tup l)] () = some (true, ()) := ev_bnot (k := false) (ev_tru (ev_is (k := false) (a := .tup l) (ev_name rfl) rfl) rfl)
  exact ev_fp rfl (ev_seq_rt (ev_if_t (ev_or_t hx) (ev_ret rfl)))
end L2.TL
namespace L2.TL
open PySem PySem.Spec
open PyProof.Rows
/-- a thing whose words are short texts -/
def wordsOk : Th → Prop
  | .a x => x.length ≤ 100 ∧ ∀ c ∈ x.cps.toList, c < 1114112
  | .n _ _ => True
structure Good (t : Th) : Prop where
  ok : t.ok
  few : t.pre.length < 64
  dep : t.dep < 5
  inj : InjT t.post
  words : ∀ c ∈ t.post, wordsOk c
mutual
theorem post_perm : ∀ t : Th, t.post.Perm t.lpre
  | .a x => List.Perm.refl _
  | .n k l => by
    simp only [Th.post, Th.lpre]
    exact (List.perm_append_singleton _ _).trans ((postL_perm l).cons _)
theorem postL_perm : ∀ l : List Th, (postL l).Perm (lpreL l)
  | [] => List.Perm.refl _
  | c :: r => by
    simp only [postL, lpreL]
    exact (post_perm c).append (postL_perm r)
end
mutual
theorem post_sub : ∀ t : Th, ∀ c ∈ t.post, (t.ok → c.ok) ∧ c.pre.length ≤ t.pre.length ∧ c.dep ≤ t.dep
  | .a x, c, h => by
    have : c = .a x := by simpa [Th.post] using h
    subst this
    exact ⟨id, Nat.le_refl _, Nat.le_refl _⟩
  | .n k l, c, h => by
    simp only [Th.post, List.mem_append, List.mem_singleton] at h
    rcases h with h | rfl
    · obtain ⟨h1, h2, h3⟩ := postL_sub l c h
      refine ⟨fun o => h1 o.2.2, ?_, ?_⟩
      · simp only [Th.pre, List.length_cons]
        omega
      · simp only [Th.dep]
        omega
    · exact ⟨id, Nat.le_refl _, Nat.le_refl _⟩
theorem postL_sub : ∀ l : List Th, ∀ c ∈ postL l, (okL l → c.ok) ∧ c.pre.length ≤ (preR l).length ∧ c.dep ≤ depL l
  | [], c, h => by cases h
  | d :: r, c, h => by
    simp only [postL, List.mem_append] at h
    rcases h with h | h
    · obtain ⟨h1, h2, h3⟩ := post_sub d c h
      refine ⟨fun o => h1 o.1, ?_, ?_⟩
      · simp only [preR, List.length_append]
        omega
      · simp only [depL]
        omega
    · obtain ⟨h1, h2, h3⟩ := postL_sub r c h
      refine ⟨fun o => h1 o.2, ?_, ?_⟩
      · simp only [preR, List.length_append]
        omega
      · simp only [depL]
        omega
end
def nmB (c : Th) : Bool := match f_is_name [c.t] with
  | some (.bl b) => b
  | _ => false
theorem nmB_eq {c : Th} (h : wordsOk c) : f_is_name [c.t] = some (.bl (nmB c)) := by
  cases c with
  | a x =>
    obtain ⟨b, e, _⟩ := name_str x (Nat.le_trans h.1 (by decide)) h.2
    have e : f_is_name [(Th.a x).t] = some (.bl b) := e
    unfold nmB
    rw [e]
  | n k l =>
    have e : f_is_name [(Th.n k l).t] = some (.bl false) := name_tup _
    unfold nmB
    rw [e]
theorem lcGo_filterTh {Z : Res} {gt : GF} {ft : EFb Z} {fe : EF Z} {τ : List SV} {s : Z.S} {p : Th → Bool} : ∀ (l : List Th), (∀ c ∈ l, ∃ τ', gt c.t τ = some τ' ∧ ft τ' s = some (p c, s) ∧ fe τ' s = some (c.t, s)) → lcGo gt ft fe τ (tL l) s = some (tL (l.filter p), s)
  | [], _ => rfl
  | c :: r, hp => by
    obtain ⟨τ', e1, e2, e3⟩ := hp c List.mem_cons_self
    have ih := lcGo_filterTh r fun d m => hp d (List.mem_cons_of_mem _ m)
    show lcGo gt ft fe τ (c.t :: tL r) s = _
    rw [List.filter_cons]
    conv => lhs; unfold lcGo
    cases h : p c with
    | true =>
      rw [h] at e2
      simp only [e1, e2, e3, ih, if_true]
      rfl
    | false =>
      rw [h] at e2
      simp only [e1, e2, ih]
      rfl
theorem names_in_eq {t : Th} (g : Good t) {R : List Th} (hm : ∀ c, c ∈ R ↔ c ∈ t.post) (hp : f_pieces_of [t.t] = some (.tup (tL R))) (hl : R.length ≤ 1000) : f_names_in [t.t] = some (.tup (tL (R.filter nmB))) := by
  have it : iTupl (Z := Z0) (xCallP f_pieces_of (xCons (xName 0) xNil)) [.im t.t, .un] () = some (tL R, ()) := by
    have e : xCallP (Z := Z0) f_pieces_of (xCons (xName 0) xNil) [.im t.t, .un] () = some (.tup (tL R), ()) := ev_callP (ev_cons (ev_name rfl) ev_nil) hp
    unfold iTupl
    simp only [e]
    rfl
  have go : lcGo (Z := Z0) (gSet 1) (xTru (xCallP (f_is_name) (xCons (xName 1) (xNil)))) (xName 1) (wipeT [.im t.t, .un] [1]) (tL R) () = some (tL (R.filter nmB), ()) :=
    lcGo_filterTh R fun c m => ⟨_, if_pos (by simp [wipeT]), ev_tru (a := .bl (nmB c)) (ev_callP (ev_cons (ev_name rfl) ev_nil) (nmB_eq (g.words c ((hm c).mp m)))) rfl, ev_name rfl⟩
  have lc : xLc (Z := Z0) [1] (iTupl (xCallP (f_pieces_of) (xCons (xName 0) (xNil)))) (gSet 1) (xTru (xCallP (f_is_name) (xCons (xName 1) (xNil)))) (xName 1) [.im t.t, .un] () = some (.lst (tL (R.filter nmB)), ()) :=
    ev_lc it (by rw [tL_len]; exact sz (by omega)) rfl go
  exact ev_fp rfl (ev_ret (ev_call (ev_cons lc ev_nil) rfl))
/-- the law's choice of names -/
theorem law_names_go {t : Th} (g : Good t) {τ : List SV} (h2 : τ[2]? = some (.im (.lst (tL t.lpre)))) (hl : τ.length = 6) (h4 : ∃ v, τ[4]? = some v ∧ isOw v = false) :
    xLc (Z := Z0) [4] (iSeq (xName 2)) (gSet 4) (xbAnd (xTru (xIs "str" (xName 4))) (xTru (xCallP (f_law_is_name) (xCons (xName 4) (xNil))))) (xName 4) τ () = some (.lst (tL (t.lpre.filter nmB)), ()) := by
  have lw : (wipeT τ [4]).length = 6 := by rw [wipeT_length]; exact hl
  have go : lcGo (Z := Z0) (gSet 4) (xbAnd (xTru (xIs "str" (xName 4))) (xTru (xCallP (f_law_is_name) (xCons (xName 4) (xNil))))) (xName 4) (wipeT τ [4]) (tL t.lpre) () = some (tL (t.lpre.filter nmB), ()) := by
    refine lcGo_filterTh _ fun c m => ?_
    have e4 : ((wipeT τ [4]).set 4 (.im c.t))[4]? = some (.im c.t) := List.getElem?_set_self (by omega)
    have wc := g.words c ((post_perm t).mem_iff.mpr m)
    refine ⟨_, if_pos (by omega), ?_, ev_name e4⟩
    cases c with
    | a x =>
      obtain ⟨b, e1, e2⟩ := name_str x (Nat.le_trans wc.1 (by decide)) wc.2
      have eb : nmB (.a x) = b := by
        have := nmB_eq wc
        have e1 : f_is_name [(Th.a x).t] = some (.bl b) := e1
        rw [e1] at this
        exact (T.bl.inj (Option.some.inj this)).symm
      rw [eb]
      exact ev_band_t (ev_tru (k := true) (ev_is (k := true) (a := .str x) (ev_name e4) rfl) rfl) (ev_tru (a := .bl b) (ev_callP (ev_cons (ev_name e4) ev_nil) e2) rfl)
    | n k l =>
      have eb : nmB (.n k l) = false := by
        have := nmB_eq (c := .n k l) wc
        have e1 : f_is_name [(Th.n k l).t] = some (.bl false) := name_tup _
        rw [e1] at this
        exact (T.bl.inj (Option.some.inj this)).symm
      rw [eb]
      exact ev_band_f (ev_tru (k := false) (ev_is (k := false) (a := (Th.n k l).t) (ev_name e4) rfl) rfl)
  refine ev_lc (ev_seqL (ev_name h2)) ?_ ?_ go
  · rw [tL_len, lpre_len]
    have := g.few
    exact sz (by omega)
  · obtain ⟨v, hv, ho⟩ := h4
    simp only [List.all_cons, List.all_nil, hv, ho]
    rfl
end L2.TL
namespace L2.TL
open PySem PySem.Spec
open PyProof.Rows
theorem repr2_ok {t : T} (h : showOk2 t = true) : reprT2 [t] = some (.str t.show) := if_pos h
theorem eq_self (x : Str) : eqX true (.str x) (.str x) = some (.bl false) := by
  rw [eq_str]
  simp
theorem eq_self2 (x : Str) : eqX false (.str x) (.str x) = some (.bl true) := by
  rw [eq_str]
  simp
abbrev dueT (t : Th) (R : List Th) : T := .lst [.str t.text, .tup (tL R), .int (t.pre.length : Int), .tup (tL (R.filter nmB))]
theorem law_right_eq {t : Th} (g : Good t) (s0 : showOk2 t.t = true) (s1 : ∀ R : List Th, R.length ≤ 63 → (∀ c, c ∈ R ↔ c ∈ t.post) → showOk2 (dueT t R) = true) : f_law_right [t.t] = some (.bl true) := by
  have few := g.few
  have ll := lpre_len t
  have pm := post_perm t
  have injL : InjT t.lpre := fun a ha b hb e => g.inj a (pm.mem_iff.mpr ha) b (pm.mem_iff.mpr hb) e
  have cond : ∀ c ∈ t.lpre, c.ok ∧ c.pre.length ≤ 900 ∧ c.dep < 5 := fun c m => by
    obtain ⟨h1, h2, h3⟩ := post_sub t c (pm.mem_iff.mpr m)
    have := g.dep
    exact ⟨h1 g.ok, by omega, by omega⟩
  obtain ⟨R, r1, r2, r63, hp⟩ := pieces_of_eq g.inj g.ok few
  obtain ⟨R1, o1, o2, ho⟩ := in_order_eq injL cond (by omega)
  have eR : R1 = R := asc_uniq o1 r1 fun c => by rw [o2, r2, pm.mem_iff]
  subst eR
  have fl : (t.lpre.filter nmB).length ≤ t.lpre.length := List.length_filter_le _ _
  obtain ⟨R2, n1, n2, hn⟩ := in_order_eq (L := t.lpre.filter nmB) (fun a ha b hb e => injL a (List.mem_filter.mp ha).1 b (List.mem_filter.mp hb).1 e) (fun c m => cond c (List.mem_filter.mp m).1) (by omega)
  have eN : R2 = R1.filter nmB := asc_uniq n1 (asc_filter nmB r1) fun c => by rw [n2, List.mem_filter, List.mem_filter, r2, pm.mem_iff]
  subst eN
  have lR : R1.length ≤ 1000 := by omega
  have tx := text_of_eq t g.ok (by omega)
  have so := size_of_eq t (by omega)
  have ni := names_in_eq g r2 hp lR
  have lt := law_text_eq 5 t g.ok (by omega) g.dep
  have lp := law_pieces_eq 5 t (by omega) g.dep
  have w0 := repr2_ok s0
  have w1 := repr2_ok (s1 R1 r63 r2)
  generalize T.show t.t = sh at *
  generalize T.show (dueT t R1) = sd at *
  have z4 : ([T.str t.text, .tup (tL R1), .int (t.pre.length : Int), .tup (tL (R1.filter nmB))] : List T).length ≤ sizeLine := sz (by simp)
  have lz : lenT [.lst (tL t.lpre)] = some (.int (t.pre.length : Int)) := by
    show some (T.int ((tL t.lpre).length : Int)) = _
    rw [tL_len, lpre_len]
  have a1 : sPar (Z := Z0) 1 2 (xCons (xCall reprT2 (xCons (xName 0) (xNil))) (xCons (xCallP (f_law_pieces 5) (xCons (xName 0) (xNil))) (xNil))) [.im t.t, .un, .un, .un, .un, .un] () = some (.nx [.im t.t, .im (.str sh), .im (.lst (tL t.lpre)), .un, .un, .un] ()) :=
    ev_par (ev_cons (ev_call (ev_cons (ev_name rfl) ev_nil) w0) (ev_cons (ev_callP (ev_cons (ev_name rfl) ev_nil) lp) ev_nil)) (by simp) (by simp)
  have a2 : sSet (Z := Z0) 3 (xCallP (f_law_in_order) (xCons (xLc [4] (iSeq (xName 2)) (gSet 4) (xbAnd (xTru (xIs "str" (xName 4))) (xTru (xCallP (f_law_is_name) (xCons (xName 4) (xNil))))) (xName 4)) (xNil))) [.im t.t, .im (.str sh), .im (.lst (tL t.lpre)), .un, .un, .un] () = some (.nx [.im t.t, .im (.str sh), .im (.lst (tL t.lpre)), .im (.tup (tL (R1.filter nmB))), .un, .un] ()) :=
    ev_set (ev_callP (ev_cons (law_names_go g rfl rfl ⟨_, rfl, rfl⟩) ev_nil) hn) (by simp)
  have a3 : sSet (Z := Z0) 5 (xLst (xCons (xCallP (f_law_text 5) (xCons (xName 0) (xNil))) (xCons (xCallP (f_law_in_order) (xCons (xName 2) (xNil))) (xCons (xCall lenT (xCons (xName 2) (xNil))) (xCons (xName 3) (xNil)))))) [.im t.t, .im (.str sh), .im (.lst (tL t.lpre)), .im (.tup (tL (R1.filter nmB))), .un, .un] () = some (.nx [.im t.t, .im (.str sh), .im (.lst (tL t.lpre)), .im (.tup (tL (R1.filter nmB))), .un, .im (dueT t R1)] ()) :=
    ev_set (ev_lst (ev_cons (ev_callP (ev_cons (ev_name rfl) ev_nil) lt) (ev_cons (ev_callP (ev_cons (ev_name rfl) ev_nil) ho) (ev_cons (ev_call (ev_cons (ev_name rfl) ev_nil) lz) (ev_cons (ev_name rfl) ev_nil)))) z4) (by simp)
  have ko : xOrd (Z := Z0) 1 [0] (xCons (xName 0) xNil) [.im t.t, .im (.str sh), .im (.lst (tL t.lpre)), .im (.tup (tL (R1.filter nmB))), .un, .im (dueT t R1)] () = some ([t.t], ()) := ev_ord (Z := Z0) (ev_cons (ev_name rfl) ev_nil) rfl
  have b1 : xCall (Z := Z0) reprT2 (xCons (xLst (xCons (xCallP (f_text_of) (xCons (xName 0) (xNil))) (xCons (xCallP (f_pieces_of) (xCons (xName 0) (xNil))) (xCons (xCallP (f_size_of) (xCons (xName 0) (xNil))) (xCons (xCallP (f_names_in) (xCons (xName 0) (xNil))) (xNil)))))) (xNil)) [.im t.t, .im (.str sh), .im (.lst (tL t.lpre)), .im (.tup (tL (R1.filter nmB))), .un, .im (dueT t R1)] () = some (.str sd, ()) :=
    ev_call (ev_cons (ev_lst (ev_cons (ev_callP (ev_cons (ev_name rfl) ev_nil) tx) (ev_cons (ev_callP (ev_cons (ev_name rfl) ev_nil) hp) (ev_cons (ev_callP (ev_cons (ev_name rfl) ev_nil) so) (ev_cons (ev_callP (ev_cons (ev_name rfl) ev_nil) ni) ev_nil)))) z4) ev_nil) w1
  have b2 : xCall (Z := Z0) reprT2 (xCons (xLst (xCons (xCallP (f_text_of) (xOrd 1 [0] (xCons (xName 0) (xNil)))) (xCons (xCallP (f_pieces_of) (xOrd 1 [0] (xCons (xName 0) (xNil)))) (xCons (xCallP (f_size_of) (xOrd 1 [0] (xCons (xName 0) (xNil)))) (xCons (xCallP (f_names_in) (xOrd 1 [0] (xCons (xName 0) (xNil)))) (xNil)))))) (xNil)) [.im t.t, .im (.str sh), .im (.lst (tL t.lpre)), .im (.tup (tL (R1.filter nmB))), .un, .im (dueT t R1)] () = some (.str sd, ()) :=
    ev_call (ev_cons (ev_lst (ev_cons (ev_callP ko tx) (ev_cons (ev_callP ko hp) (ev_cons (ev_callP ko so) (ev_cons (ev_callP ko ni) ev_nil)))) z4) ev_nil) w1
  have b3 : xCall (Z := Z0) reprT2 (xCons (xName 5) xNil) [.im t.t, .im (.str sh), .im (.lst (tL t.lpre)), .im (.tup (tL (R1.filter nmB))), .un, .im (dueT t R1)] () = some (.str sd, ()) := ev_call (ev_cons (ev_name rfl) ev_nil) w1
  have b4 : xCall (Z := Z0) reprT2 (xCons (xName 0) xNil) [.im t.t, .im (.str sh), .im (.lst (tL t.lpre)), .im (.tup (tL (R1.filter nmB))), .un, .im (dueT t R1)] () = some (.str sh, ()) := ev_call (ev_cons (ev_name rfl) ev_nil) w0
  exact ev_fp rfl (ev_seq a1 (ev_seq a2 (ev_seq a3 (ev_seq (ev_if_f (ev_xb (ev_x2 b1 b3 (eq_self sd))) rfl) (ev_seq (ev_if_f (ev_xb (ev_x2 b2 b3 (eq_self sd))) rfl) (ev_ret (ev_x2 b4 (ev_name rfl) (eq_self2 sh))))))))
/-- the law's look at a thing put in the place of a name -/
theorem put_right_eq {t o : Th} {x : Str} (g : Good t) (s1 : showOk2 (.lst [t.t, o.t]) = true) (s2 : showOk2 (.lst [(t.put x o).t, (t.put x o).t]) = true) : f_law_put_right [t.t, .str x, o.t] = some (.bl true) := by
  have few := g.few
  have rp := replaced_eq t o x g.ok (by omega)
  have lp := law_put_eq x o 5 t (by omega) g.dep
  have w1 := repr2_ok s1
  have w2 := repr2_ok s2
  generalize (t.put x o).t = u at *
  generalize T.show (.lst [t.t, o.t]) = sh at *
  generalize T.show (.lst [u, u]) = sd at *
  have z2 : ([t.t, o.t] : List T).length ≤ sizeLine := sz (by simp)
  have z3 : ([u, u] : List T).length ≤ sizeLine := sz (by simp)
  have a1 : sPar (Z := Z0) 3 4 (xCons (xCall reprT2 (xCons (xLst (xCons (xName 0) (xCons (xName 2) (xNil)))) (xNil))) (xCons (xCallP (f_law_put 5) (xCons (xName 0) (xCons (xName 1) (xCons (xName 2) (xNil))))) (xNil))) [.im t.t, .im (.str x), .im o.t, .un, .un, .un] () = some (.nx [.im t.t, .im (.str x), .im o.t, .im (.str sh), .im u, .un] ()) :=
    ev_par (ev_cons (ev_call (ev_cons (ev_lst (ev_cons (ev_name rfl) (ev_cons (ev_name rfl) ev_nil)) z2) ev_nil) w1) (ev_cons (ev_callP (ev_cons (ev_name rfl) (ev_cons (ev_name rfl) (ev_cons (ev_name rfl) ev_nil))) lp) ev_nil)) (by simp) (by simp)
  have ko : xOrd (Z := Z0) 3 [2, 1, 0] (xCons (xName 2) (xCons (xName 1) (xCons (xName 0) xNil))) [.im t.t, .im (.str x), .im o.t, .im (.str sh), .im u, .un] () = some ([t.t, .str x, o.t], ()) := ev_ord (Z := Z0) (ev_cons (ev_name rfl) (ev_cons (ev_name rfl) (ev_cons (ev_name rfl) ev_nil))) rfl
  have a2 : sSet (Z := Z0) 5 (xLst (xCons (xCallP (f_replaced) (xCons (xName 0) (xCons (xName 1) (xCons (xName 2) (xNil))))) (xCons (xCallP (f_replaced) (xOrd 3 [2, 1, 0] (xCons (xName 2) (xCons (xName 1) (xCons (xName 0) (xNil)))))) (xNil)))) [.im t.t, .im (.str x), .im o.t, .im (.str sh), .im u, .un] () = some (.nx [.im t.t, .im (.str x), .im o.t, .im (.str sh), .im u, .im (.lst [u, u])] ()) :=
    ev_set (ev_lst (ev_cons (ev_callP (ev_cons (ev_name rfl) (ev_cons (ev_name rfl) (ev_cons (ev_name rfl) ev_nil))) rp) (ev_cons (ev_callP ko rp) ev_nil)) z3) (by simp)
  have b1 : xCall (Z := Z0) reprT2 (xCons (xName 5) xNil) [.im t.t, .im (.str x), .im o.t, .im (.str sh), .im u, .im (.lst [u, u])] () = some (.str sd, ()) := ev_call (ev_cons (ev_name rfl) ev_nil) w2
  have b2 : xCall (Z := Z0) reprT2 (xCons (xLst (xCons (xName 4) (xCons (xName 4) (xNil)))) (xNil)) [.im t.t, .im (.str x), .im o.t, .im (.str sh), .im u, .im (.lst [u, u])] () = some (.str sd, ()) := ev_call (ev_cons (ev_lst (ev_cons (ev_name rfl) (ev_cons (ev_name rfl) ev_nil)) z3) ev_nil) w2
  have b3 : xCall (Z := Z0) reprT2 (xCons (xLst (xCons (xName 0) (xCons (xName 2) (xNil)))) (xNil)) [.im t.t, .im (.str x), .im o.t, .im (.str sh), .im u, .im (.lst [u, u])] () = some (.str sh, ()) := ev_call (ev_cons (ev_lst (ev_cons (ev_name rfl) (ev_cons (ev_name rfl) ev_nil)) z2) ev_nil) w1
  exact ev_fp rfl (ev_seq a1 (ev_seq a2 (ev_ret (ev_and_t (ev_x2 b1 b2 (eq_self2 sd)) rfl (ev_x2 b3 (ev_name rfl) (eq_self2 sh))))))
end L2.TL
namespace L2.TL
open PySem PySem.Spec
open PyProof.Rows
/-- the signs of a thing's text -/
def sgn (x : Str) : List Nat := x.cps.toList
theorem sgn_app (x y : Str) : sgn (x ++ y) = sgn x ++ sgn y := cps_toList_append x y
mutual
def Th.tl : Th → List Nat
  | .a x => sgn x
  | .n k l => sgn k ++ 40 :: (jnL l ++ [41])
def jnL : List Th → List Nat
  | [] => []
  | c :: r => match r with
    | [] => c.tl
    | _ :: _ => c.tl ++ 44 :: jnL r
end
theorem sgn1 : sgn "(" = [40] := by decide +kernel
theorem sgn2 : sgn ")" = [41] := by decide +kernel
theorem sgn3 : sgn "," = [44] := by decide +kernel
mutual
theorem tl_eq : ∀ t : Th, sgn t.text = t.tl
  | .a x => rfl
  | .n k l => by
    rw [text_n, sgn_app, sgn_app, sgn_app, sgn1, sgn2, Th.tl, ← jnL_eq l]
    simp
theorem jnL_eq : ∀ l : List Th, sgn (Txt.join "," (textL l)) = jnL l
  | [] => by
    rw [_root_.TL.join_eq]
    rfl
  | c :: r => by
    have i1 := tl_eq c
    have i2 := jnL_eq r
    rw [_root_.TL.join_eq] at i2 ⊢
    cases r with
    | nil =>
      show sgn c.text = _
      rw [i1]
      rfl
    | cons d r =>
      show sgn (c.text ++ "," ++ Str.join "," (textL (d :: r))) = _
      rw [sgn_app, sgn_app, sgn3, i1, i2]
      show c.tl ++ [44] ++ jnL (d :: r) = c.tl ++ 44 :: jnL (d :: r)
      simp
end
def clean (n : Nat) : Bool := !(n == 40 || n == 41 || n == 44)
def stop : List Nat → Prop
  | [] => True
  | n :: _ => n = 41 ∨ n = 44
theorem tw_app : ∀ (x s : List Nat), (∀ n ∈ x, clean n = true) → (∀ n r, s = n :: r → clean n = false) → (x ++ s).takeWhile clean = x ∧ (x ++ s).dropWhile clean = s
  | [], s, _, hs => by
    cases s with
    | nil => exact ⟨rfl, rfl⟩
    | cons n r =>
      have := hs n r rfl
      simp [List.takeWhile, List.dropWhile, this]
  | n :: x, s, h, hs => by
    obtain ⟨h1, h2⟩ := tw_app x s (fun m hm => h m (List.mem_cons_of_mem _ hm)) hs
    have hn := h n List.mem_cons_self
    simp [List.takeWhile, List.dropWhile, hn, h1, h2]
theorem split_clean {x y s u : List Nat} (hx : ∀ n ∈ x, clean n = true) (hy : ∀ n ∈ y, clean n = true) (hs : ∀ n r, s = n :: r → clean n = false) (hu : ∀ n r, u = n :: r → clean n = false) (e : x ++ s = y ++ u) : x = y ∧ s = u := by
  obtain ⟨a1, a2⟩ := tw_app x s hx hs
  obtain ⟨b1, b2⟩ := tw_app y u hy hu
  rw [e] at a1 a2
  exact ⟨a1.symm.trans b1, a2.symm.trans b2⟩
theorem stop_clean {s : List Nat} (h : stop s) : ∀ n r, s = n :: r → clean n = false := by
  rintro n r rfl
  rcases h with h | h <;> rw [h] <;> rfl
theorem stop41 (s : List Nat) : stop (41 :: s) := Or.inl rfl
theorem stop44 (s : List Nat) : stop (44 :: s) := Or.inr rfl
theorem par_clean (s : List Nat) : ∀ n r, 40 :: s = n :: r → clean n = false := by
  rintro n r e
  cases e
  rfl
mutual
/-- words of clean signs, kinds with parts -/
def Th.cln : Th → Prop
  | .a x => ∀ n ∈ sgn x, clean n = true
  | .n k l => (∀ n ∈ sgn k, clean n = true) ∧ l ≠ [] ∧ clnL l
def clnL : List Th → Prop
  | [] => True
  | c :: r => c.cln ∧ clnL r
end
theorem sgn_inj {x y : Str} (h : sgn x = sgn y) : x = y := by
  cases x
  cases y
  unfold sgn at h
  simpa using h
mutual
theorem parse : ∀ (c d : Th) (s u : List Nat), c.cln → d.cln → stop s → stop u → c.tl ++ s = d.tl ++ u → c = d ∧ s = u
  | .a x, .a y, s, u, hc, hd, hs, hu, e => by
    obtain ⟨e1, e2⟩ := split_clean hc hd (stop_clean hs) (stop_clean hu) e
    exact ⟨by rw [sgn_inj e1], e2⟩
  | .a x, .n k l, s, u, hc, hd, hs, hu, e => by
    rw [Th.tl, Th.tl, List.append_assoc, List.cons_append] at e
    obtain ⟨e1, e2⟩ := split_clean hc hd.1 (stop_clean hs) (par_clean _) e
    rw [e2] at hs
    rcases hs with h | h <;> cases h
  | .n k l, .a y, s, u, hc, hd, hs, hu, e => by
    rw [Th.tl, Th.tl, List.append_assoc, List.cons_append] at e
    obtain ⟨e1, e2⟩ := split_clean hc.1 hd (par_clean _) (stop_clean hu) e
    rw [← e2] at hu
    rcases hu with h | h <;> cases h
  | .n k l, .n k' l', s, u, hc, hd, hs, hu, e => by
    have e0 : sgn k ++ 40 :: (jnL l ++ 41 :: s) = sgn k' ++ 40 :: (jnL l' ++ 41 :: u) := by
      rw [Th.tl, Th.tl] at e
      simpa using e
    obtain ⟨e1, e2⟩ := split_clean hc.1 hd.1 (par_clean _) (par_clean _) e0
    have e4 := (List.cons.inj e2).2
    obtain ⟨h1, h2⟩ := parseL l l' s u hc.2.1 hd.2.1 hc.2.2 hd.2.2 e4
    exact ⟨by rw [sgn_inj e1, h1], h2⟩
theorem parseL : ∀ (l m : List Th) (s u : List Nat), l ≠ [] → m ≠ [] → clnL l → clnL m → jnL l ++ 41 :: s = jnL m ++ 41 :: u → l = m ∧ s = u
  | [], _, _, _, h, _, _, _, _ => absurd rfl h
  | _ :: _, [], _, _, _, h, _, _, _ => absurd rfl h
  | c :: r, d :: q, s, u, _, _, hc, hd, e => by
    cases r with
    | nil =>
      cases q with
      | nil =>
        obtain ⟨h1, h2⟩ := parse c d (41 :: s) (41 :: u) hc.1 hd.1 (stop41 _) (stop41 _) e
        exact ⟨by rw [h1], (List.cons.inj h2).2⟩
      | cons d2 q =>
        have e : c.tl ++ 41 :: s = (d.tl ++ 44 :: jnL (d2 :: q)) ++ 41 :: u := e
        rw [List.append_assoc, List.cons_append] at e
        obtain ⟨h1, h2⟩ := parse c d _ _ hc.1 hd.1 (stop41 _) (stop44 _) e
        cases h2
    | cons c2 r =>
      cases q with
      | nil =>
        have e : (c.tl ++ 44 :: jnL (c2 :: r)) ++ 41 :: s = d.tl ++ 41 :: u := e
        rw [List.append_assoc, List.cons_append] at e
        obtain ⟨h1, h2⟩ := parse c d _ _ hc.1 hd.1 (stop44 _) (stop41 _) e
        cases h2
      | cons d2 q =>
        have e : (c.tl ++ 44 :: jnL (c2 :: r)) ++ 41 :: s = (d.tl ++ 44 :: jnL (d2 :: q)) ++ 41 :: u := e
        rw [List.append_assoc, List.cons_append, List.append_assoc, List.cons_append] at e
        obtain ⟨h1, h2⟩ := parse c d _ _ hc.1 hd.1 (stop44 _) (stop44 _) e
        obtain ⟨h3, h4⟩ := parseL (c2 :: r) (d2 :: q) s u (by simp) (by simp) hc.2 hd.2 (List.cons.inj h2).2
        exact ⟨by rw [h1, h3], h4⟩
end
theorem text_inj {c d : Th} (hc : c.cln) (hd : d.cln) (e : c.text = d.text) : c = d := by
  have h : c.tl ++ [] = d.tl ++ [] := by rw [← tl_eq, ← tl_eq, e]
  exact (parse c d [] [] hc hd trivial trivial h).1
mutual
theorem post_cln : ∀ t : Th, t.cln → ∀ c ∈ t.post, c.cln
  | .a x, h, c, m => by
    have : c = .a x := by simpa [Th.post] using m
    rw [this]
    exact h
  | .n k l, h, c, m => by
    simp only [Th.post, List.mem_append, List.mem_singleton] at m
    rcases m with m | rfl
    · exact postL_cln l h.2.2 c m
    · exact h
theorem postL_cln : ∀ l : List Th, clnL l → ∀ c ∈ postL l, c.cln
  | [], _, c, m => by cases m
  | d :: r, h, c, m => by
    simp only [postL, List.mem_append] at m
    rcases m with m | m
    · exact post_cln d h.1 c m
    · exact postL_cln r h.2 c m
end
theorem inj_post {t : Th} (h : t.cln) : InjT t.post := fun a ha b hb e => text_inj (post_cln t h a ha) (post_cln t h b hb) e
end L2.TL
namespace L2.TL
open PySem PySem.Spec
open PyProof.Rows
mutual
/-- no less than what repr shows of a tree -/
def wT : T → Nat
  | .str x => 10 * x.length + 2
  | .int i => i.natAbs + 1
  | .tup ts => wL ts + 4
  | .lst ts => wL ts + 4
  | _ => 0
def wL : List T → Nat
  | [] => 0
  | t :: r => wT t + 2 + wL r
end
mutual
/-- texts, small numbers, tuples and lists of these -/
def gT : T → Prop
  | .str x => ∀ c ∈ x.cps.toList, c < 16 ^ 8
  | .int i => 0 ≤ i ∧ i < 1000
  | .tup ts => gL ts
  | .lst ts => gL ts
  | _ => False
def gL : List T → Prop
  | [] => True
  | t :: r => gT t ∧ gL r
end
theorem join2_len : ∀ ys : List Str, (Str.join ", " ys).length ≤ (ys.map fun y => y.length + 2).sum
  | [] => Nat.zero_le _
  | [y] => by
    show y.length ≤ _
    simp
  | y :: z :: r => by
    have ih := join2_len (z :: r)
    have two : (", " : Str).length = 2 := by decide +kernel
    show (y ++ ", " ++ Str.join ", " (z :: r)).length ≤ _
    rw [Str.length_append, Str.length_append, two, List.map_cons, List.sum_cons]
    omega
theorem tuple_len (ys : List Str) : (tupleText ys).length ≤ (ys.map fun y => y.length + 2).sum + 3 := by
  have h := join2_len ys
  have e1 : ("(" : Str).length = 1 := by decide +kernel
  have e2 : ((if ys.length == 1 then ",)" else ")" : String) : Str).length ≤ 2 := by
    split
    · have : (",)" : Str).length = 2 := by decide +kernel
      omega
    · have : (")" : Str).length = 1 := by decide +kernel
      omega
  unfold tupleText
  rw [Str.length_append, Str.length_append, e1]
  omega
theorem list_len (ys : List Str) : (listText ys).length ≤ (ys.map fun y => y.length + 2).sum + 2 := by
  have h := join2_len ys
  have e1 : ("[" : Str).length = 1 := by decide +kernel
  have e2 : ("]" : Str).length = 1 := by decide +kernel
  rw [listText_eq_join, Str.length_append, Str.length_append, e1, e2]
  omega
theorem int_len {i : Int} (h : 0 ≤ i) : (Str.ofString (toString i)).length ≤ i.natAbs + 1 := by
  obtain ⟨n, rfl⟩ := Int.eq_ofNat_of_zero_le h
  rw [ofString_len]
  exact repr_len n
mutual
theorem shown_le : ∀ t : T, gT t → t.plain = true ∧ t.d.showable = true ∧ t.d.shown.length ≤ wT t
  | .str x, h => ⟨rfl, rfl, by
    have := PySem.StrLaws.reprText_len x h
    show (reprText x).length ≤ 10 * x.length + 2
    omega⟩
  | .int i, h => ⟨rfl, by
    have h1 : i.natAbs < 2 ^ 1920 := by
      have : i.natAbs < 1000 := by
        have := h.1
        have := h.2
        omega
      exact Nat.lt_of_lt_of_le this (by decide)
    show decide (i.natAbs.log2 < 1920) = true
    refine decide_eq_true ?_
    by_cases h0 : i.natAbs = 0
    · rw [h0]
      decide
    · exact (Nat.log2_lt h0).mpr h1, int_len h.1⟩
  | .tup ts, h => by
    obtain ⟨h1, h2, h3⟩ := shownL_le2 ts h
    refine ⟨by simpa only [T.plain] using h1, by simpa only [T.d, PyData.showable] using h2, ?_⟩
    have := tuple_len (PyData.shownAll (dL ts))
    simp only [T.d, PyData.shown, wT]
    omega
  | .lst ts, h => by
    obtain ⟨h1, h2, h3⟩ := shownL_le2 ts h
    refine ⟨by simpa only [T.plain] using h1, by simpa only [T.d, PyData.showable] using h2, ?_⟩
    have := list_len (PyData.shownAll (dL ts))
    simp only [T.d, PyData.shown, wT]
    omega
  | .non, h => h.elim
  | .bl _, h => h.elim
  | .dct _, h => h.elim
  | .ins _ _, h => h.elim
  | .adr _, h => h.elim
theorem shownL_le2 : ∀ ts : List T, gL ts → plainL ts = true ∧ PyData.showableAll (dL ts) = true ∧ ((PyData.shownAll (dL ts)).map fun y => y.length + 2).sum ≤ wL ts
  | [], _ => ⟨rfl, rfl, Nat.le_refl _⟩
  | t :: r, h => by
    obtain ⟨a1, a2, a3⟩ := shown_le t h.1
    obtain ⟨b1, b2, b3⟩ := shownL_le2 r h.2
    refine ⟨by simp only [plainL, a1, b1]; rfl, by simp only [dL, PyData.showableAll, a2, b2]; rfl, ?_⟩
    simp only [dL, PyData.shownAll, List.map_cons, List.sum_cons, wL]
    omega
end
theorem show_ok {t : T} (g : gT t) (hw : wT t ≤ 16000000) (hd : t.d.depth ≤ 60) : showOk2 t = true := by
  obtain ⟨h1, h2, h3⟩ := shown_le t g
  unfold showOk2
  rw [h1, h2, decide_eq_true hd, decide_eq_true (show t.d.shown.length ≤ sizeLine by rw [sizeLine_eq]; omega)]
  rfl
end L2.TL
namespace L2.TL
open PySem PySem.Spec
open PyProof.Rows
mutual
/-- all signs are signs -/
def Th.sg : Th → Prop
  | .a x => ∀ c ∈ x.cps.toList, c < 1114112
  | .n k l => (∀ c ∈ k.cps.toList, c < 1114112) ∧ sgL l
def sgL : List Th → Prop
  | [] => True
  | c :: r => c.sg ∧ sgL r
end
theorem big (c : Nat) (h : c < 1114112) : c < 16 ^ 8 := Nat.lt_of_lt_of_le h (by decide)
mutual
theorem wT_th : ∀ t : Th, t.ok → t.sg → gT t.t ∧ wT t.t + 2 ≤ 1020 * t.pre.length
  | .a x, h, s => by
    have h : x.length ≤ 100 := h
    refine ⟨fun c hc => big c (s c hc), ?_⟩
    show 10 * x.length + 2 + 2 ≤ 1020 * 1
    omega
  | .n k l, h, s => by
    obtain ⟨hk, _, ho⟩ := h
    obtain ⟨h1, h2⟩ := wL_th l ho s.2
    refine ⟨⟨fun c hc => big c (s.1 c hc), h1⟩, ?_⟩
    have e : (Th.n k l).pre.length = (preR l).length + 1 := by simp [Th.pre]
    rw [e]
    show (10 * k.length + 2) + 2 + wL (tL l) + 4 + 2 ≤ _
    omega
theorem wL_th : ∀ l : List Th, okL l → sgL l → gL (tL l) ∧ wL (tL l) ≤ 1020 * (preR l).length
  | [], _, _ => ⟨trivial, Nat.le_refl _⟩
  | c :: r, h, s => by
    obtain ⟨a1, a2⟩ := wT_th c h.1 s.1
    obtain ⟨b1, b2⟩ := wL_th r h.2 s.2
    refine ⟨⟨a1, b1⟩, ?_⟩
    show wT c.t + 2 + wL (tL r) ≤ 1020 * (preR r ++ c.pre).length
    rw [List.length_append]
    omega
end
mutual
theorem depth_th : ∀ t : Th, t.t.d.depth ≤ t.dep + 1
  | .a x => by
    show (0 : Nat) ≤ _
    exact Nat.zero_le _
  | .n k l => by
    have h := depthL_th l
    simp only [Th.t, T.d, PyData.depth, dL, PyData.depthAll, Th.dep]
    omega
theorem depthL_th : ∀ l : List Th, PyData.depthAll (dL (tL l)) ≤ depL l + 1
  | [] => Nat.zero_le _
  | c :: r => by
    have h1 := depth_th c
    have h2 := depthL_th r
    simp only [tL, dL, PyData.depthAll, depL]
    omega
end
theorem list_w : ∀ R : List Th, (∀ c ∈ R, c.ok ∧ c.sg ∧ c.pre.length ≤ 64) → gL (tL R) ∧ wL (tL R) ≤ 65280 * R.length
  | [], _ => ⟨trivial, Nat.le_refl _⟩
  | c :: r, h => by
    obtain ⟨h1, h2, h3⟩ := h c List.mem_cons_self
    obtain ⟨a1, a2⟩ := wT_th c h1 h2
    obtain ⟨b1, b2⟩ := list_w r fun d m => h d (List.mem_cons_of_mem _ m)
    refine ⟨⟨a1, b1⟩, ?_⟩
    show wT c.t + 2 + wL (tL r) ≤ 65280 * (r.length + 1)
    omega
mutual
theorem sub_sg : ∀ t : Th, t.sg → ∀ c ∈ t.post, c.sg
  | .a x, s, c, h => by
    have : c = .a x := by simpa [Th.post] using h
    rw [this]
    exact s
  | .n k l, s, c, h => by
    simp only [Th.post, List.mem_append, List.mem_singleton] at h
    rcases h with h | rfl
    · exact subL_sg l s.2 c h
    · exact s
theorem subL_sg : ∀ l : List Th, sgL l → ∀ c ∈ postL l, c.sg
  | [], _, c, h => by cases h
  | d :: r, s, c, h => by
    simp only [postL, List.mem_append] at h
    rcases h with h | h
    · exact sub_sg d s.1 c h
    · exact subL_sg r s.2 c h
end
theorem depthL_le : ∀ (R : List Th) (n : Nat), (∀ c ∈ R, c.dep ≤ n) → PyData.depthAll (dL (tL R)) ≤ n + 1
  | [], _, _ => Nat.zero_le _
  | c :: r, n, h => by
    have h1 := depth_th c
    have h2 := depthL_le r n fun d m => h d (List.mem_cons_of_mem _ m)
    have h3 := h c List.mem_cons_self
    simp only [tL, dL, PyData.depthAll]
    omega
mutual
theorem tl_big : ∀ t : Th, t.sg → ∀ n ∈ t.tl, n < 1114112
  | .a x, s, n, h => s n h
  | .n k l, s, n, h => by
    simp only [Th.tl, List.mem_append, List.mem_cons, List.not_mem_nil, or_false] at h
    rcases h with h | h | h | h
    · exact s.1 n h
    · rw [h]
      decide
    · exact jn_big l s.2 n h
    · rw [h]
      decide
theorem jn_big : ∀ l : List Th, sgL l → ∀ n ∈ jnL l, n < 1114112
  | [], _, n, h => by cases h
  | c :: r, s, n, h => by
    have i1 := tl_big c s.1 n
    have i2 := jn_big r s.2 n
    cases r with
    | nil => exact i1 h
    | cons d r =>
      have h : n ∈ c.tl ++ 44 :: jnL (d :: r) := h
      simp only [List.mem_append, List.mem_cons] at h
      rcases h with h | h | h
      · exact i1 h
      · rw [h]
        decide
      · exact i2 h
end
/-- a thing as the law draws it -/
structure Fine (t : Th) : Prop where
  ok : t.ok
  sg : t.sg
  cln : t.cln
  few : t.pre.length < 64
  dep : t.dep < 5
theorem Fine.good {t : Th} (f : Fine t) : Good t := ⟨f.ok, f.few, f.dep, inj_post f.cln, fun c m => by
  have h1 := (post_sub t c m).1 f.ok
  have h2 := sub_sg t f.sg c m
  cases c with
  | a x => exact ⟨h1, h2⟩
  | n k l => trivial⟩
theorem right_all {t : Th} (f : Fine t) : f_law_right [t.t] = some (.bl true) := by
  have few := f.few
  have dep := f.dep
  obtain ⟨g1, g2⟩ := wT_th t f.ok f.sg
  have d1 := depth_th t
  refine law_right_eq f.good (show_ok g1 (by omega) (by omega)) fun R hl hm => ?_
  have hc : ∀ c ∈ R, c.ok ∧ c.sg ∧ c.pre.length ≤ 64 ∧ c.dep ≤ 4 := fun c m => by
    have m' := (hm c).mp m
    obtain ⟨h1, h2, h3⟩ := post_sub t c m'
    exact ⟨h1 f.ok, sub_sg t f.sg c m', by omega, by omega⟩
  have hF : ∀ c ∈ R.filter nmB, c.ok ∧ c.sg ∧ c.pre.length ≤ 64 ∧ c.dep ≤ 4 := fun c m => hc c (List.mem_filter.mp m).1
  have lF := List.length_filter_le nmB R
  obtain ⟨a1, a2⟩ := list_w R fun c m => ⟨(hc c m).1, (hc c m).2.1, (hc c m).2.2.1⟩
  obtain ⟨b1, b2⟩ := list_w (R.filter nmB) fun c m => ⟨(hF c m).1, (hF c m).2.1, (hF c m).2.2.1⟩
  have e1 := depthL_le R 4 fun c m => (hc c m).2.2.2
  have e2 := depthL_le (R.filter nmB) 4 fun c m => (hF c m).2.2.2
  have tlen := text_len t f.ok
  have ts : ∀ c ∈ t.text.cps.toList, c < 16 ^ 8 := fun c m => by
    have m : c ∈ sgn t.text := m
    rw [tl_eq] at m
    exact big c (tl_big t f.sg c m)
  refine show_ok ⟨ts, a1, ⟨by omega, by omega⟩, b1, trivial⟩ ?_ ?_
  · show (10 * t.text.length + 2) + 2 + ((wL (tL R) + 4) + 2 + (((t.pre.length : Int).natAbs + 1) + 2 + ((wL (tL (R.filter nmB)) + 4) + 2 + 0))) + 4 ≤ 16000000
    have : (t.pre.length : Int).natAbs = t.pre.length := Int.natAbs_natCast _
    omega
  · simp only [T.d, PyData.depth, dL, PyData.depthAll]
    omega
end L2.TL
namespace L2.TL
open PySem PySem.Spec
open PyProof.Rows
mutual
theorem put_props (x : Str) {o : Th} (ho : o.ok) (so : o.sg) : ∀ t : Th, t.ok → t.sg → (t.put x o).ok ∧ (t.put x o).sg ∧ (t.put x o).pre.length ≤ t.pre.length * o.pre.length ∧ (t.put x o).dep ≤ t.dep + o.dep
  | .a y, h, s => by
    rw [put_a]
    have e1 : (Th.a y).pre.length = 1 := rfl
    have hp := pre_pos o
    split
    · exact ⟨ho, so, by rw [e1]; omega, by omega⟩
    · exact ⟨h, s, by rw [e1]; omega, by show 0 ≤ _; omega⟩
  | .n k l, h, s => by
    rw [put_nn]
    obtain ⟨hk, hl, hol⟩ := h
    obtain ⟨h1, h2, h3, h4⟩ := putL_props x ho so l hol s.2
    have hp := pre_pos o
    refine ⟨⟨hk, fun z => hl (List.map_eq_nil_iff.mp z), h1⟩, ⟨s.1, h2⟩, ?_, ?_⟩
    · simp only [Th.pre, List.length_cons]
      rw [Nat.add_mul, Nat.one_mul]
      omega
    · simp only [Th.dep]
      omega
theorem putL_props (x : Str) {o : Th} (ho : o.ok) (so : o.sg) : ∀ l : List Th, okL l → sgL l → okL (l.map fun c => c.put x o) ∧ sgL (l.map fun c => c.put x o) ∧ (preR (l.map fun c => c.put x o)).length ≤ (preR l).length * o.pre.length ∧ depL (l.map fun c => c.put x o) ≤ depL l + o.dep
  | [], _, _ => ⟨trivial, trivial, Nat.zero_le _, Nat.zero_le _⟩
  | c :: r, h, s => by
    obtain ⟨a1, a2, a3, a4⟩ := put_props x ho so c h.1 s.1
    obtain ⟨b1, b2, b3, b4⟩ := putL_props x ho so r h.2 s.2
    refine ⟨⟨a1, b1⟩, ⟨a2, b2⟩, ?_, ?_⟩
    · simp only [List.map_cons, preR, List.length_append]
      rw [Nat.add_mul]
      omega
    · simp only [List.map_cons, depL]
      omega
end
theorem put_right_all {t o : Th} {x : Str} (f : Fine t) (g : Fine o) : f_law_put_right [t.t, .str x, o.t] = some (.bl true) := by
  obtain ⟨p1, p2, p3, p4⟩ := put_props x g.ok g.sg t f.ok f.sg
  obtain ⟨a1, a2⟩ := wT_th t f.ok f.sg
  obtain ⟨b1, b2⟩ := wT_th o g.ok g.sg
  obtain ⟨c1, c2⟩ := wT_th _ p1 p2
  have d1 := depth_th t
  have d2 := depth_th o
  have d3 := depth_th (t.put x o)
  have ft := f.few
  have fo := g.few
  have et := f.dep
  have eo := g.dep
  have pm : t.pre.length * o.pre.length ≤ 63 * 63 := Nat.mul_le_mul (by omega) (by omega)
  refine put_right_eq f.good (show_ok ⟨a1, b1, trivial⟩ ?_ ?_) (show_ok ⟨c1, c1, trivial⟩ ?_ ?_)
  · show (wT t.t + 2 + (wT o.t + 2 + 0)) + 4 ≤ 16000000
    omega
  · simp only [T.d, PyData.depth, dL, PyData.depthAll]
    omega
  · show (wT (t.put x o).t + 2 + (wT (t.put x o).t + 2 + 0)) + 4 ≤ 16000000
    omega
  · simp only [T.d, PyData.depth, dL, PyData.depthAll]
    omega
end L2.TL
namespace L2.TL
open PySem PySem.Spec
open PyProof.Rows
section
variable {d c : Addr} {τ : List SV} {s : Deck}
abbrev Dz (d c : Addr) : Res := deckZ d c
theorem we_draw {f : EF (deckZ d c)} {P : T → Deck → Prop} (h0 : τ[0]? = some (.im (.adr d))) (h : We (f τ s) fun a s1 => ∃ n : Int, a = .int n ∧ 0 < n ∧ n < 1073741824 ∧ ∀ (k : Nat) (s2 : Deck), (k : Int) < n → P (.int k) s2) :
    We (xCallF (drawT dp dq d c) (xCons (xName 0) (xCons f xNil)) τ s) P := by
  obtain ⟨a, s1, e, n, rfl, h1, h2, q⟩ := h
  obtain ⟨k, s2, e2, hk⟩ := drawT_some dp dq d c s1 n h1 h2
  exact ⟨_, _, ev_callF (ev_cons (ev_name h0) (ev_cons e ev_nil)) e2, q k s2 hk⟩
theorem lenT_str (x : Str) (h : x.length ≤ 1000) : lenT [.str x] = some (.int x.length) := if_pos (by rw [sizeLine_eq]; omega)
theorem ixT_str (x : Str) (h : x.length ≤ 1000) (k : Nat) (hk : (k : Int) < x.length) : ∃ c ∈ x.cps.toList, ixT (.str x) (.int k) = some (.str ⟨#[c]⟩) := by
  have hk' : k < x.cps.toList.length := by
    unfold Str.length at hk
    rw [Array.length_toList]
    omega
  refine ⟨x.cps.toList[k], List.getElem_mem hk', ?_⟩
  have hz : x.length ≤ sizeLine := by rw [sizeLine_eq]; omega
  show (if x.length ≤ sizeLine then _ else _) = _
  rw [if_pos hz, atI_nat' hk']
theorem pick_str (x : Str) (h1 : 1 ≤ x.length) (h2 : x.length ≤ 1000) (s : Deck) : ∃ c' ∈ x.cps.toList, ∃ s', f_law_pick d c [.adr d, .str x] s = some (.str ⟨#[c']⟩, s') := by
  obtain ⟨k, s2, e2, hk⟩ := drawT_some dp dq d c s (x.length : Int) (by omega) (by omega)
  obtain ⟨c', hc, e⟩ := ixT_str x h2 k hk
  exact ⟨c', hc, s2, ev_ff rfl (ev_ret (ev_x2 (ev_name rfl) (ev_callF (ev_cons (ev_name rfl) (ev_cons (ev_call (ev_cons (ev_name rfl) ev_nil) (lenT_str x h2)) ev_nil)) e2) e))⟩
theorem pick_lst (l : List T) (h1 : 1 ≤ l.length) (h2 : l.length ≤ 1000) (s : Deck) : ∃ t ∈ l, ∃ s', f_law_pick d c [.adr d, .lst l] s = some (t, s') := by
  obtain ⟨k, s2, e2, hk⟩ := drawT_some dp dq d c s (l.length : Int) (by omega) (by omega)
  have hk' : k < l.length := by omega
  refine ⟨l[k], List.getElem_mem hk', s2, ev_ff rfl (ev_ret (ev_x2 (ev_name rfl) (ev_callF (ev_cons (ev_name rfl) (ev_cons (ev_call (ev_cons (ev_name rfl) ev_nil) rfl) ev_nil)) e2) ?_))⟩
  exact atI_nat' hk'
theorem we_pickS {f : EF (deckZ d c)} {P : T → Deck → Prop} (h0 : τ[0]? = some (.im (.adr d))) (h : We (f τ s) fun a s1 => ∃ x : Str, a = .str x ∧ 1 ≤ x.length ∧ x.length ≤ 1000 ∧ ∀ c' ∈ x.cps.toList, ∀ s2 : Deck, P (.str ⟨#[c']⟩) s2) :
    We (xCallF (f_law_pick d c) (xCons (xName 0) (xCons f xNil)) τ s) P := by
  obtain ⟨a, s1, e, x, rfl, h1, h2, q⟩ := h
  obtain ⟨c', hc, s2, e2⟩ := pick_str x h1 h2 s1
  exact ⟨_, _, ev_callF (ev_cons (ev_name h0) (ev_cons e ev_nil)) e2, q c' hc s2⟩
theorem we_pickL {f : EF (deckZ d c)} {P : T → Deck → Prop} (h0 : τ[0]? = some (.im (.adr d))) (h : We (f τ s) fun a s1 => ∃ l : List T, a = .lst l ∧ 1 ≤ l.length ∧ l.length ≤ 1000 ∧ ∀ t ∈ l, ∀ s2 : Deck, P t s2) :
    We (xCallF (f_law_pick d c) (xCons (xName 0) (xCons f xNil)) τ s) P := by
  obtain ⟨a, s1, e, x, rfl, h1, h2, q⟩ := h
  obtain ⟨t, ht, s2, e2⟩ := pick_lst x h1 h2 s1
  exact ⟨_, _, ev_callF (ev_cons (ev_name h0) (ev_cons e ev_nil)) e2, q t ht s2⟩
end
def kwB (x : Str) : Bool := decide (x.length ≤ 100) && x.cps.toList.all fun n => decide (n < 1114112) && clean n
theorem kwB_ok {x : Str} (h : kwB x = true) : x.length ≤ 100 ∧ (∀ c ∈ x.cps.toList, c < 1114112) ∧ ∀ n ∈ sgn x, clean n = true := by
  unfold kwB at h
  rw [Bool.and_eq_true, decide_eq_true_eq, List.all_eq_true] at h
  refine ⟨h.1, fun c hc => ?_, fun n hn => ?_⟩
  · have := h.2 c hc
    rw [Bool.and_eq_true, decide_eq_true_eq] at this
    exact this.1
  · have := h.2 n hn
    rw [Bool.and_eq_true, decide_eq_true_eq] at this
    exact this.2
/-- a kind: its word, how many parts -/
def kindT (t : T) : Prop := ∃ (k : Str) (m : Int), t = .tup [.str k, .int m] ∧ kwB k = true ∧ 1 ≤ m ∧ m ≤ 3
/-- a plan as the law draws it -/
def WOk (w : T) : Prop := ∃ ps ks, w = .dct ps ∧ getT ps (Sum.inr "kinds") = some (.tup ks) ∧ 1 ≤ ks.length ∧ ks.length ≤ 1000 ∧ ∀ e ∈ ks, kindT e
theorem std_kinds : ∀ e ∈ ([.tup [.str "half", .int 1], .tup [.str "lock", .int 2], .tup [.str "mark", .int 1], .tup [.str "pair", .int 2], .tup [.str "seal", .int 2], .tup [.str "sign", .int 2]] : List T), kindT e := by
  intro e h
  simp only [List.mem_cons, List.not_mem_nil, or_false] at h
  rcases h with h | h | h | h | h | h <;> exact ⟨_, _, h, by decide +kernel, by decide, by decide⟩
end L2.TL
namespace L2.TL
open PySem PySem.Spec
open PyProof.Rows
abbrev stdK : List T := [.tup [.str "half", .int 1], .tup [.str "lock", .int 2], .tup [.str "mark", .int 1], .tup [.str "pair", .int 2], .tup [.str "seal", .int 2], .tup [.str "sign", .int 2]]
abbrev stdO : List T := [.tup [.str "first", .str "pair", .int 0, .tup []], .tup [.str "open", .str "lock", .int 0, .tup [.tup [.str "part", .int 1]]], .tup [.str "second", .str "pair", .int 1, .tup []], .tup [.str "shown", .str "sign", .int 0, .tup []], .tup [.str "signed", .str "sign", .int 0, .tup [.tup [.str "around", .str "half", .int 1]]], .tup [.str "unseal", .str "seal", .int 0, .tup [.tup [.str "inside", .int 1, .str "half"]]]]
theorem std_eq : f_law_standard [] = some (.dct [(Sum.inr "kinds", .tup stdK), (Sum.inr "openings", .tup stdO)]) := by
  first | rfl | kernel_rfl
theorem std_ok : ∃ w, f_law_standard [] = some w ∧ WOk w := ⟨_, std_eq, _, stdK, rfl, (by first | rfl | kernel_rfl), by decide, by decide, std_kinds⟩
end L2.TL
namespace L2.TL
open PySem PySem.Spec
open PyProof.Rows
def TOk (t : Th) : Prop := t.ok ∧ t.sg ∧ t.cln
theorem word_ok {x : Str} (h : kwB x = true) : TOk (.a x) := by
  obtain ⟨h1, h2, h3⟩ := kwB_ok h
  exact ⟨h1, h2, h3⟩
def Bd : Nat → Nat
  | 0 => 1
  | n + 1 => 3 * Bd n + 1
/-- what a thing of some depth is -/
def Drawn (n : Nat) (a : T) : Prop := ∃ t : Th, a = t.t ∧ TOk t ∧ t.dep ≤ n ∧ t.pre.length ≤ Bd n
theorem Bd_pos : ∀ n, 1 ≤ Bd n
  | 0 => Nat.le_refl _
  | n + 1 => by
    show 1 ≤ 3 * Bd n + 1
    omega
theorem drawn_word {n : Nat} {x : Str} (h : kwB x = true) : Drawn n (.str x) := ⟨.a x, rfl, word_ok h, Nat.zero_le _, Bd_pos n⟩
theorem drawn_parts {n : Nat} : ∀ bs : List T, (∀ b ∈ bs, Drawn n b) → ∃ l : List Th, bs = tL l ∧ l.length = bs.length ∧ okL l ∧ sgL l ∧ clnL l ∧ depL l ≤ n ∧ (preR l).length ≤ bs.length * Bd n
  | [], _ => ⟨[], rfl, rfl, trivial, trivial, trivial, Nat.zero_le _, Nat.zero_le _⟩
  | b :: r, h => by
    obtain ⟨t, rfl, ⟨o, s, c⟩, hd, hp⟩ := h b List.mem_cons_self
    obtain ⟨l, rfl, hl, o2, s2, c2, hd2, hp2⟩ := drawn_parts r fun x m => h x (List.mem_cons_of_mem _ m)
    refine ⟨t :: l, rfl, by simp [hl], ⟨o, o2⟩, ⟨s, s2⟩, ⟨c, c2⟩, ?_, ?_⟩
    · simp only [depL]
      omega
    · simp only [preR, List.length_append, List.length_cons]
      rw [Nat.add_mul, Nat.one_mul]
      omega
theorem drawn_node {n : Nat} {k : Str} {bs : List T} (hk : kwB k = true) (h : ∀ b ∈ bs, Drawn n b) (h1 : 1 ≤ bs.length) (h3 : bs.length ≤ 3) : Drawn (n + 1) (.tup (.str k :: bs)) := by
  obtain ⟨l, rfl, hl, o, s, c, hd, hp⟩ := drawn_parts bs h
  obtain ⟨k1, k2, k3⟩ := kwB_ok hk
  have ne : l ≠ [] := by
    intro z
    rw [← hl, z] at h1
    exact absurd h1 (by decide)
  have m : (tL l).length * Bd n ≤ 3 * Bd n := Nat.mul_le_mul_right _ h3
  refine ⟨.n k l, rfl, ⟨⟨k1, ne, o⟩, ⟨k2, s⟩, ⟨k3, ne, c⟩⟩, ?_, ?_⟩
  · exact Nat.succ_le_succ hd
  · simp only [Th.pre, List.length_cons]
    exact Nat.succ_le_succ (Nat.le_trans hp m)
section
variable {d c : Addr}
theorem pick_tup (l : List T) (h1 : 1 ≤ l.length) (h2 : l.length ≤ 1000) (s : Deck) : ∃ t ∈ l, ∃ s', f_law_pick d c [.adr d, .tup l] s = some (t, s') := by
  obtain ⟨k, s2, e2, hk⟩ := drawT_some dp dq d c s (l.length : Int) (by omega) (by omega)
  have hk' : k < l.length := by omega
  refine ⟨l[k], List.getElem_mem hk', s2, ev_ff rfl (ev_ret (ev_x2 (ev_name rfl) (ev_callF (ev_cons (ev_name rfl) (ev_cons (ev_call (ev_cons (ev_name rfl) ev_nil) rfl) ev_nil)) e2) ?_))⟩
  exact atI_nat' hk'
theorem we_pickT {τ : List SV} {s : Deck} {f : EF (deckZ d c)} {P : T → Deck → Prop} (h0 : τ[0]? = some (.im (.adr d))) (h : We (f τ s) fun a s1 => ∃ l : List T, a = .tup l ∧ 1 ≤ l.length ∧ l.length ≤ 1000 ∧ ∀ t ∈ l, ∀ s2 : Deck, P t s2) :
    We (xCallF (f_law_pick d c) (xCons (xName 0) (xCons f xNil)) τ s) P := by
  obtain ⟨a, s1, e, x, rfl, h1, h2, q⟩ := h
  obtain ⟨t, ht, s2, e2⟩ := pick_tup x h1 h2 s1
  exact ⟨_, _, ev_callF (ev_cons (ev_name h0) (ev_cons e ev_nil)) e2, q t ht s2⟩
theorem f_law_thing_succ (n : Nat) : f_law_thing d c (n + 1) = bodyF 3 6 (g_law_thing d c (f_law_thing d c n)) := rfl
theorem thing_some {w : T} (hw : WOk w) (n : Nat) : ∀ (deep : Nat) (s : Deck), deep < n → We (f_law_thing d c n [.adr d, w, .int deep] s) fun a _ => Drawn deep a := by
  obtain ⟨ps, ks, rfl, hk, l1, l2, hks⟩ := hw
  have dk : dgetT (.dct ps) (.str "kinds") = some (.tup ks) := hk
  obtain ⟨k0, kr, rfl⟩ : ∃ k0 kr, ks = k0 :: kr := by
    cases ks with
    | nil => exact absurd l1 (by decide)
    | cons a r => exact ⟨a, r, rfl⟩
  obtain ⟨kw, m0, rfl, hkw, _, _⟩ := hks k0 List.mem_cons_self
  have ik0 : ixT (.tup (.tup [.str kw, .int m0] :: kr)) (.int 0) = some (.tup [.str kw, .int m0]) := by
    show atI (T.tup [.str kw, .int m0] :: kr) ((0 : Nat) : Int) = _
    rw [atI_nat' (by simp)]
    rfl
  induction n with
  | zero =>
    intro deep s h
    cases h
  | succ n ih =>
    intro deep s hd
    rw [f_law_thing_succ]
    have wk : x2 (Z := deckZ d c) dgetT (xName 1) (xC (T.str "kinds")) [.im (.adr d), .im (.dct ps), .im (.int deep), .un, .un, .un] = fun s => some (.tup (.tup [.str kw, .int m0] :: kr), s) := by
      funext s
      exact ev_x2 (ev_name rfl) rfl dk
    have base : ∀ s, Wr (sRet (xCallF (f_law_pick d c) (xCons (xName 0) (xCons (xLst (xCons (xC (T.str "a")) (xCons (xC (T.str "b")) (xCons (x2 ixT (x2 ixT (x2 dgetT (xName 1) (xC (T.str "kinds"))) (xC (T.int 0))) (xC (T.int 0))) (xCons (xC (T.str "zzzzzzzz")) (xCons (xC (T.str "K")) (xCons (xC (T.str "K")) (xCons (xC (T.str "L")) (xCons (xC (T.str "K0")) (xCons (xC (T.str "Zabcdef7")) (xCons (xC (T.str "A")) (xNil)))))))))))) (xNil)))) [.im (.adr d), .im (.dct ps), .im (.int deep), .un, .un, .un] s) fun a _ => Drawn deep a := fun s => by
      have k00 : x2 (Z := deckZ d c) ixT (x2 ixT (x2 dgetT (xName 1) (xC (T.str "kinds"))) (xC (T.int 0))) (xC (T.int 0)) [.im (.adr d), .im (.dct ps), .im (.int deep), .un, .un, .un] s = some (.str kw, s) := ev_x2 (ev_x2 (congrFun wk s) rfl ik0) rfl rfl
      have L : xLst (Z := deckZ d c) (xCons (xC (T.str "a")) (xCons (xC (T.str "b")) (xCons (x2 ixT (x2 ixT (x2 dgetT (xName 1) (xC (T.str "kinds"))) (xC (T.int 0))) (xC (T.int 0))) (xCons (xC (T.str "zzzzzzzz")) (xCons (xC (T.str "K")) (xCons (xC (T.str "K")) (xCons (xC (T.str "L")) (xCons (xC (T.str "K0")) (xCons (xC (T.str "Zabcdef7")) (xCons (xC (T.str "A")) (xNil))))))))))) [.im (.adr d), .im (.dct ps), .im (.int deep), .un, .un, .un] s = some (.lst [.str "a", .str "b", .str kw, .str "zzzzzzzz", .str "K", .str "K", .str "L", .str "K0", .str "Zabcdef7", .str "A"], s) :=
        ev_lst (ev_cons rfl (ev_cons rfl (ev_cons k00 (ev_cons rfl (ev_cons rfl (ev_cons rfl (ev_cons rfl (ev_cons rfl (ev_cons rfl (ev_cons rfl rfl)))))))))) (sz (by simp))
      refine wr_ret (we_pickL rfl ⟨_, s, L, _, rfl, by simp, by simp, fun t ht _ => ?_⟩)
      simp only [List.mem_cons, List.not_mem_nil, or_false] at ht
      rcases ht with h | h | h | h | h | h | h | h | h | h <;> rw [h] <;> exact drawn_word (by first | exact hkw | decide +kernel)
    refine we_ff rfl ?_
    show Wr (g_law_thing d c (f_law_thing d c n) [.im (.adr d), .im (.dct ps), .im (.int deep), .un, .un, .un] s) _
    have c1 : xb (Z := deckZ d c) (x2 (eqX false) (xName 2) (xC (T.int 0))) [.im (.adr d), .im (.dct ps), .im (.int deep), .un, .un, .un] s = some (decide ((deep : Int) = 0), s) := ev_xb (ev_x2 (ev_name rfl) rfl (eq_int false deep 0))
    by_cases h0 : (deep : Int) = 0
    · rw [decide_eq_true h0] at c1
      obtain ⟨a, s1, e, p⟩ := base s
      exact ⟨a, s1, ev_seq_rt (ev_if_t (ev_or_t c1) e), p⟩
    · rw [decide_eq_false h0] at c1
      obtain ⟨m, rfl⟩ : ∃ m, deep = m + 1 := ⟨deep - 1, by omega⟩
      obtain ⟨k, s1, e1, hk4⟩ := drawT_some dp dq d c s 4 (by decide) (by decide)
      have c2 : xb (Z := deckZ d c) (x2 (eqX false) (xCallF (drawT dp dq d c) (xCons (xName 0) (xCons (xC (T.int 4)) (xNil)))) (xC (T.int 0))) [.im (.adr d), .im (.dct ps), .im (.int ((m + 1 : Nat) : Int)), .un, .un, .un] s = some (decide ((k : Int) = 0), s1) :=
        ev_xb (ev_x2 (ev_callF (ev_cons (ev_name rfl) (ev_cons rfl ev_nil)) e1) rfl (eq_int false k 0))
      by_cases hk0 : (k : Int) = 0
      · rw [decide_eq_true hk0] at c2
        obtain ⟨a, s2, e, p⟩ := base s1
        exact ⟨a, s2, ev_seq_rt (ev_if_t (ev_or_f c1 c2) e), p⟩
      · rw [decide_eq_false hk0] at c2
        refine wr_seq ⟨_, s1, ev_if_f (ev_or_f c1 c2) rfl, ?_⟩
        refine wr_seq (wn_asg (we_pickT rfl ⟨_, s1, congrFun wk s1, _, rfl, l1, l2, fun t ht s2 => ?_⟩))
        obtain ⟨kk, mm, rfl, hkk, m1, m3⟩ := hks t ht
        refine ⟨_, rfl, ?_⟩
        obtain ⟨q, rfl⟩ := Int.eq_ofNat_of_zero_le (by omega : 0 ≤ mm)
        obtain ⟨bs, s3, eg, hb, hP⟩ := lcGo_all (Z := deckZ d c) (gt := gSet 5) (fe := xCallF (f_law_thing d c n) (xCons (xName 0) (xCons (xName 1) (xCons (x2 subI (xName 2) (xC (T.int 1))) xNil)))) (τ := wipeT [.im (.adr d), .im (.dct ps), .im (.int ((m + 1 : Nat) : Int)), .im (.str kk), .im (.int (q : Int)), .un] [5]) (P := Drawn m) (fun a => ⟨_, if_pos (by simp [wipeT]), fun s => by
          obtain ⟨b, s', e, p⟩ := ih m s (by omega)
          have es : subI (.int ((m + 1 : Nat) : Int)) (.int 1) = some (.int (m : Int)) := by
            show some (T.int (((m + 1 : Nat) : Int) - 1)) = _
            congr 2
            omega
          exact ⟨b, s', ev_callF (ev_cons (ev_name rfl) (ev_cons (ev_name rfl) (ev_cons (ev_x2 (ev_name rfl) rfl es) ev_nil))) e, p⟩⟩) (intsFrom 0 q) s2
        rw [intsFrom_len] at hb
        have lc : xLc (Z := deckZ d c) [5] (iRng (xName 4)) (gSet 5) (xYes) (xCallF (f_law_thing d c n) (xCons (xName 0) (xCons (xName 1) (xCons (x2 subI (xName 2) (xC (T.int 1))) xNil)))) [.im (.adr d), .im (.dct ps), .im (.int ((m + 1 : Nat) : Int)), .im (.str kk), .im (.int (q : Int)), .un] s2 = some (.lst bs, s3) :=
          ev_lc (ev_rng (n := (q : Int)) (ev_name rfl) ⟨by omega, by omega⟩) (by rw [Int.toNat_natCast, intsFrom_len]; exact sz (by omega)) rfl (by rw [Int.toNat_natCast]; exact eg)
        refine wr_ret ⟨_, s3, ev_x2 (ev_tup (ev_cons (ev_name rfl) ev_nil) (sz (by simp))) (ev_call (ev_cons lc ev_nil) rfl) (addX_tup (by simp; omega)), ?_⟩
        exact drawn_node (bs := bs) hkk hP (by omega) (by omega)
end
end L2.TL
namespace L2.TL
open PySem PySem.Spec
open PyProof.Rows
theorem sFor_ix {Z : Res} {gt : GF} {gb : SF Z} (Inv : Nat → List SV → Prop) : ∀ (m n : Nat) (τ : List SV) (s : Z.S), (∀ k, n ≤ k → k < n + m → ∀ τ s, Inv k τ → ∃ τ1, gt (.int (k : Int)) τ = some τ1 ∧ Wn (gb τ1 s) fun τ2 _ => Inv (k + 1) τ2) → Inv n τ → Wn (sFor gt gb (intsFrom (n : Int) m) τ s) fun τ2 _ => Inv (n + m) τ2
  | 0, n, τ, s, _, i => ⟨τ, s, rfl, i⟩
  | m + 1, n, τ, s, h, i => by
    obtain ⟨τ1, e1, τ2, s2, e2, i2⟩ := h n (Nat.le_refl _) (by omega) τ s i
    obtain ⟨τ3, s3, e3, i3⟩ := sFor_ix Inv m (n + 1) τ2 s2 (fun k h1 h2 => h k (by omega) (by omega)) i2
    refine ⟨τ3, s3, ?_, by rw [show n + (m + 1) = n + 1 + m by omega]; exact i3⟩
    rw [intsFrom]
    unfold sFor
    simp only [e1, e2]
    exact e3
theorem sFor_ix0 {Z : Res} {gt : GF} {gb : SF Z} (Inv : Nat → List SV → Prop) (m : Nat) (τ : List SV) (s : Z.S) (h : ∀ k, k < m → ∀ τ s, Inv k τ → ∃ τ1, gt (.int (k : Int)) τ = some τ1 ∧ Wn (gb τ1 s) fun τ2 _ => Inv (k + 1) τ2) (i : Inv 0 τ) : Wn (sFor gt gb (intsFrom 0 m) τ s) fun τ2 _ => Inv m τ2 := by
  have := sFor_ix Inv m 0 τ s (fun k _ h2 => h k (by omega)) i
  rwa [Nat.zero_add] at this
theorem wn_rng {Z : Res} {f : EF Z} {gt : GF} {gb : SF Z} {τ : List SV} {s : Z.S} {P : List SV → Z.S → Prop} (h : We (f τ s) fun a s1 => ∃ n : Nat, a = .int (n : Int) ∧ n ≤ 100000 ∧ Wn (sFor gt gb (intsFrom 0 n) τ s1) P) : Wn (sForE (iRng f) gt gb τ s) P := by
  obtain ⟨a, s1, e, n, rfl, hn, τ2, s2, e2, p⟩ := h
  exact ⟨τ2, s2, ev_forE (ev_rng e ⟨by omega, by omega⟩) (by rw [Int.toNat_natCast]; exact e2), p⟩
theorem ev_parN {Z : Res} {f g : EF Z} {τ : List SV} {s s1 s2 : Z.S} {a b : T} {i j : Nat} {k l : Bool} (h : f τ s = some (a, s1)) (h2 : g τ s1 = some (b, s2)) (hi : i < τ.length) (hj : j < τ.length) : sParN i j k l f g τ s = some (.nx ((τ.set i (slotOf k a)).set j (slotOf l b)) s2) := by
  unfold sParN
  simp only [h, h2]
  exact if_pos ⟨hi, hj⟩
theorem wn_par {Z : Res} {fs : EFs Z} {τ : List SV} {s : Z.S} {i j : Nat} {P : List SV → Z.S → Prop} (h : We (fs τ s) fun as s1 => ∃ a b, as = [a, b] ∧ i < τ.length ∧ j < τ.length ∧ P ((τ.set i (.im a)).set j (.im b)) s1) : Wn (sPar i j fs τ s) P := by
  obtain ⟨as, s1, e, a, b, rfl, hi, hj, p⟩ := h
  exact ⟨_, _, ev_par e hi hj, p⟩
theorem wn_freeze {Z : Res} {g : SF Z} {τ : List SV} {s : Z.S} {i : Nat} {a : T} {P : List SV → Z.S → Prop} (h : τ[i]? = some (.ow a)) (h2 : Wn (g (τ.set i (.im a)) s) P) : Wn (sFreeze i g τ s) P := by
  obtain ⟨τ2, s2, e, p⟩ := h2
  exact ⟨τ2, s2, ev_freeze h e, p⟩
theorem wr_freeze {Z : Res} {g : SF Z} {τ : List SV} {s : Z.S} {i : Nat} {a : T} {P : T → Z.S → Prop} (h : τ[i]? = some (.ow a)) (h2 : Wr (g (τ.set i (.im a)) s) P) : Wr (sFreeze i g τ s) P := by
  obtain ⟨τ2, s2, e, p⟩ := h2
  exact ⟨τ2, s2, ev_freeze h e, p⟩
theorem wr_if {Z : Res} {ft : EFb Z} {g g' : SF Z} {τ : List SV} {s : Z.S} {P : T → Z.S → Prop} (h : We (ft τ s) fun b s1 => (b = true → Wr (g τ s1) P) ∧ (b = false → Wr (g' τ s1) P)) : Wr (sIf ft g g' τ s) P := by
  obtain ⟨b, s1, e, ht, hf⟩ := h
  cases b with
  | true =>
    obtain ⟨a, s2, e2, p⟩ := ht rfl
    exact ⟨a, s2, ev_if_t e e2, p⟩
  | false =>
    obtain ⟨a, s2, e2, p⟩ := hf rfl
    exact ⟨a, s2, ev_if_f e e2, p⟩
/-- if c: return a; the rest -/
theorem wr_if_seq {Z : Res} {ft : EFb Z} {g g' : SF Z} {τ : List SV} {s : Z.S} {P : T → Z.S → Prop} (h : We (ft τ s) fun b s1 => (b = true → Wr (g τ s1) P) ∧ (b = false → Wr (g' τ s1) P)) : Wr (sSeq (sIf ft g sSkip) g' τ s) P := by
  obtain ⟨b, s1, e, ht, hf⟩ := h
  cases b with
  | true =>
    obtain ⟨a, s2, e2, p⟩ := ht rfl
    exact ⟨a, s2, ev_seq_rt (ev_if_t e e2), p⟩
  | false =>
    obtain ⟨a, s2, e2, p⟩ := hf rfl
    exact ⟨a, s2, ev_seq (ev_if_f e rfl) e2, p⟩
theorem we_if {Z : Res} {ft : EFb Z} {f g : EF Z} {τ : List SV} {s : Z.S} {P : T → Z.S → Prop} (h : We (ft τ s) fun b s1 => (b = true → We (f τ s1) P) ∧ (b = false → We (g τ s1) P)) : We (xIf ft f g τ s) P := by
  obtain ⟨b, s1, e, ht, hf⟩ := h
  cases b with
  | true =>
    obtain ⟨a, s2, e2, p⟩ := ht rfl
    exact ⟨a, s2, ev_xif_t e e2, p⟩
  | false =>
    obtain ⟨a, s2, e2, p⟩ := hf rfl
    exact ⟨a, s2, ev_xif_f e e2, p⟩
theorem we_xb {Z : Res} {f : EF Z} {τ : List SV} {s : Z.S} {P : Bool → Z.S → Prop} (h : We (f τ s) fun a s1 => ∃ b, a = .bl b ∧ P b s1) : We (xb f τ s) P := by
  obtain ⟨a, s1, e, b, rfl, p⟩ := h
  exact ⟨b, s1, ev_xb e, p⟩
/-- x == n, both numbers -/
theorem we_eqi {Z : Res} {f : EF Z} {τ : List SV} {s : Z.S} {n : Int} {P : Bool → Z.S → Prop} (h : We (f τ s) fun a s1 => ∃ k : Int, a = .int k ∧ P (decide (k = n)) s1) : We (xb (x2 (eqX false) f (xC (.int n))) τ s) P := by
  obtain ⟨a, s1, e, k, rfl, p⟩ := h
  exact ⟨_, s1, ev_xb (ev_x2 e rfl (eq_int false k n)), p⟩
theorem wr_of {Z : Res} {r : Option (Out Z.S)} {P Q : T → Z.S → Prop} (h : Wr r P) (k : ∀ a s, P a s → Q a s) : Wr r Q := by
  obtain ⟨a, s, e, p⟩ := h
  exact ⟨a, s, e, k a s p⟩
/-- a comprehension with a test -/
theorem lcGo_few {Z : Res} {gt : GF} {ft : EFb Z} {fe : EF Z} {τ : List SV} {P : T → Prop} : ∀ (items : List T) (s : Z.S), (∀ a ∈ items, ∃ τ', gt a τ = some τ' ∧ ∀ s, ∃ b s1, ft τ' s = some (b, s1) ∧ ∃ x s2, fe τ' s1 = some (x, s2) ∧ P x) → ∃ bs s', lcGo gt ft fe τ items s = some (bs, s') ∧ bs.length ≤ items.length ∧ ∀ b ∈ bs, P b
  | [], s, _ => ⟨[], s, rfl, Nat.le_refl _, fun _ h => by cases h⟩
  | a :: r, s, h => by
    obtain ⟨τ', e1, h1⟩ := h a (by simp)
    obtain ⟨b, s1, e2, x, s2, e3, hp⟩ := h1 s
    cases b with
    | true =>
      obtain ⟨bs, s3, e4, hl, hP⟩ := lcGo_few r s2 fun b hb => h b (by simp [hb])
      refine ⟨x :: bs, s3, ?_, by simp; omega, fun y hy => ?_⟩
      · unfold lcGo
        simp only [e1, e2, e3, e4]
      · rcases List.mem_cons.mp hy with rfl | hy
        · exact hp
        · exact hP y hy
    | false =>
      obtain ⟨bs, s3, e4, hl, hP⟩ := lcGo_few r s1 fun b hb => h b (by simp [hb])
      refine ⟨bs, s3, ?_, by simp; omega, hP⟩
      unfold lcGo
      simp only [e1, e2, e4]
theorem ev_dict {Z : Res} {fs : EFs Z} {τ : List SV} {s s1 : Z.S} {as : List T} {ks : List Key} (h : fs τ s = some (as, s1)) (h2 : as.length = ks.length ∧ ks.Nodup ∧ ks.length ≤ 15) : xDict ks fs τ s = some (.dct (ks.zip as), s1) := by
  unfold xDict
  simp only [h]
  exact if_pos h2
def wordT (t : T) : Prop := ∃ x : Str, t = .str x ∧ kwB x = true
section
variable {d c : Addr}
theorem we_drawn {τ : List SV} {s : Deck} {f : EF (deckZ d c)} {P : T → Deck → Prop} (h0 : τ[0]? = some (.im (.adr d))) (n : Int) (h : We (f τ s) fun a s1 => a = .int n ∧ 0 < n ∧ n < 1073741824 ∧ ∀ (k : Nat) (s2 : Deck), (k : Int) < n → P (.int k) s2) :
    We (xCallF (drawT dp dq d c) (xCons (xName 0) (xCons f xNil)) τ s) P :=
  we_draw h0 (we_imp h fun a s ⟨e, h⟩ => ⟨n, e, h⟩)
theorem need_some {ks : List T} (hks : ∀ e ∈ ks, kindT e) (hl : ks.length ≤ 1000) {m : Int} (h1 : 1 ≤ m) (h3 : m ≤ 3) (s : Deck) : We (f_law_need d c [.adr d, .tup ks, .int m] s) fun _ _ => True := by
  refine we_ff rfl ?_
  show Wr (g_law_need d c [.im (.adr d), .im (.tup ks), .im (.int m), .un, .un, .un, .un, .un] s) _
  refine wr_seq (wn_par ?_)
  obtain ⟨bs, s1, eg, hb, hP⟩ := lcGo_few (Z := deckZ d c) (gt := gTupT 2 (gsCons (gSet 5) (gsCons (gSet 6) gsNil))) (ft := xb (x2 (eqX false) (xName 6) (xC (T.int 1)))) (fe := xName 5) (τ := wipeT [.im (.adr d), .im (.tup ks), .im (.int m), .un, .un, .un, .un, .un] [5, 6]) (P := wordT) ks s fun e he => by
    obtain ⟨k, q, rfl, hk, _, _⟩ := hks e he
    exact ⟨[.im (.adr d), .im (.tup ks), .im (.int m), .un, .un, .im (.str k), .im (.int q), .un], rfl, fun s => ⟨_, s, ev_xb (ev_x2 (ev_name rfl) rfl (eq_int false q 1)), _, s, ev_name rfl, k, rfl, hk⟩⟩
  have lc : xLc (Z := deckZ d c) [5, 6] (iTupl (xName 1)) (gTupT 2 (gsCons (gSet 5) (gsCons (gSet 6) gsNil))) (xb (x2 (eqX false) (xName 6) (xC (T.int 1)))) (xName 5) [.im (.adr d), .im (.tup ks), .im (.int m), .un, .un, .un, .un, .un] s = some (.lst bs, s1) :=
    ev_lc (items := ks) rfl (sz (by omega)) rfl eg
  refine we_cons ⟨_, s1, lc, ?_⟩
  refine we_cons (we_drawn rfl m (we_name rfl ⟨rfl, by omega, by omega, fun spot s2 hs => ?_⟩))
  refine we_nil ⟨_, _, rfl, by simp, by simp, ?_⟩
  show Wr ((_ : SF (deckZ d c)) [.im (.adr d), .im (.tup ks), .im (.int m), .im (.lst bs), .im (.int spot), .un, .un, .un] s2) _
  have plain : ∀ t ∈ bs, t.plain = true ∧ t.d.canLay0 = true ∧ t.d.depth ≤ 60 := fun t ht => by
    obtain ⟨x, rfl, hx⟩ := hP t ht
    refine ⟨rfl, ?_, Nat.zero_le _⟩
    show PySem.PyData.canLay0 (.str x) = true
    simp only [PySem.PyData.canLay0]
    unfold PySem.PyData.strOk
    rw [Array.all_eq_true_iff_forall_mem]
    exact fun c hc => decide_eq_true ((kwB_ok hx).2.1 c (Array.mem_toList_iff.mpr hc))
  refine wr_seq (wn_set ?_)
  refine we_if ⟨_, s2, ev_xb (ev_x2 (ev_name rfl) (ev_lst rfl (sz (by decide))) (eq_nil true bs plain)), fun hb => ?_, fun _ => we_c ⟨by simp, ?_⟩⟩
  · refine we_drawn rfl 3 (we_c ⟨rfl, by decide, by decide, fun way s3 hw => ⟨by simp, ?_⟩⟩)
    show Wr ((_ : SF (deckZ d c)) [.im (.adr d), .im (.tup ks), .im (.int m), .im (.lst bs), .im (.int spot), .un, .un, .im (.int way)] s3) _
    have nb : 1 ≤ bs.length := by
      cases bs with
      | nil => cases hb
      | cons _ _ => simp
    refine wr_if_seq (we_eqi (we_name rfl ⟨_, rfl, fun _ => wr_ret (we_tup (we_cons (we_c (we_cons (we_name rfl (we_nil ⟨by simp, trivial⟩)))))), fun _ => ?_⟩))
    refine wr_ret (we_if (we_eqi (we_name rfl ⟨_, rfl, fun _ => ?_, fun _ => ?_⟩)))
    · exact we_tup (we_cons (we_c (we_cons (we_pickL rfl (we_name rfl ⟨bs, rfl, nb, by omega, fun t _ s4 => we_cons (we_name rfl (we_nil ⟨by simp, trivial⟩))⟩)))))
    · exact we_tup (we_cons (we_c (we_cons (we_name rfl (we_cons (we_pickL rfl (we_name rfl ⟨bs, rfl, nb, by omega, fun t _ s4 => we_nil ⟨by simp, trivial⟩⟩)))))))
  · show Wr ((_ : SF (deckZ d c)) [.im (.adr d), .im (.tup ks), .im (.int m), .im (.lst bs), .im (.int spot), .un, .un, .im (.int 0)] s2) _
    exact wr_if_seq (we_eqi (we_name rfl ⟨_, rfl, fun _ => wr_ret (we_tup (we_cons (we_c (we_cons (we_name rfl (we_nil ⟨by simp, trivial⟩)))))), fun h => by cases h⟩))
end
end L2.TL
namespace L2.TL
open PySem PySem.Spec
open PyProof.Rows
theorem eraseIdx_map' {α β : Type} (f : α → β) : ∀ (l : List α) (k : Nat), (l.map f).eraseIdx k = (l.eraseIdx k).map f
  | [], _ => rfl
  | a :: r, 0 => rfl
  | a :: r, k + 1 => by
    simp only [List.map_cons, List.eraseIdx_cons_succ, eraseIdx_map' f r k]
theorem erase_perm {α : Type} : ∀ (l : List α) (k : Nat) (h : k < l.length), (l[k] :: l.eraseIdx k).Perm l
  | [], _, h => absurd h (by simp)
  | a :: r, 0, _ => List.Perm.refl _
  | a :: r, k + 1, h => by
    have h' : k < r.length := by simpa using h
    have ih := erase_perm r k h'
    simp only [List.getElem_cons_succ, List.eraseIdx_cons_succ]
    exact (List.Perm.swap a r[k] (r.eraseIdx k)).trans (ih.cons a)
theorem fstsT_snoc {t : T} {x : Str} (h : fstT t = some x) : ∀ {ts : List T} {ks : List Str}, fstsT ts = some ks → fstsT (ts ++ [t]) = some (ks ++ [x])
  | [], ks, e => by
    cases e
    simp only [List.nil_append, fstsT, h]
  | a :: r, ks, e => by
    simp only [fstsT] at e
    split at e
    · rename_i k ks' e1 e2
      cases e
      simp only [List.cons_append, fstsT, e1, fstsT_snoc h e2]
    · cases e
theorem fstsT_len : ∀ {ts : List T} {ks : List Str}, fstsT ts = some ks → ks.length = ts.length
  | [], ks, e => by
    cases e
    rfl
  | a :: r, ks, e => by
    simp only [fstsT] at e
    split at e
    · rename_i k ks' e1 e2
      cases e
      simp [fstsT_len e2]
    · cases e
theorem sortF_len {ks : List Str} {ts : List T} (h : ks.length = ts.length) : (sortF ks ts).length = ts.length := by
  unfold sortF
  rw [List.length_map, List.length_mergeSort, List.length_zip, h, Nat.min_self]
theorem sortF_mem {ks : List Str} {ts : List T} : ∀ t ∈ sortF ks ts, t ∈ ts := by
  intro t h
  unfold sortF at h
  obtain ⟨p, hp, rfl⟩ := List.mem_map.mp h
  exact (List.of_mem_zip (a := p.1) (b := p.2) (List.mem_mergeSort.mp hp)).2
theorem strs?_none {ts : List T} {ks : List Str} (h : fstsT ts = some ks) (hn : ts ≠ []) : strs? ts = none := by
  cases ts with
  | nil => exact absurd rfl hn
  | cons a r =>
    cases a with
    | str x =>
      simp only [fstsT, fstT] at h
      cases h
    | _ => rfl
theorem sorted_firstsT {ts : List T} {ks : List Str} (h : fstsT ts = some ks) (hn : ks.Nodup) : ∃ us, sortedT [.lst ts] = some (.lst us) ∧ us.length = ts.length ∧ ∀ t ∈ us, t ∈ ts := by
  by_cases h0 : ts = []
  · subst h0
    refine ⟨[], ?_, rfl, fun t h => h⟩
    have e := sorted_strs (ys := []) (by decide)
    have e0 : sortS [] = [] := by simp [sortS]
    rw [e0] at e
    exact e
  · refine ⟨sortF ks ts, ?_, sortF_len (fstsT_len h), sortF_mem⟩
    have e1 : sortST [.lst ts] = none := by
      simp only [sortST, strs?_none h h0]
    have e2 : sortFT [.lst ts] = some (.lst (sortF ks ts)) := by
      simp only [sortFT, h]
      exact if_pos ⟨hn, fstsT_len h⟩
    simp only [sortedT, opOr, e1, e2]
theorem ev_oTup {Z : Res} {gs : EFos Z} {τ τ1 : List SV} {s s1 : Z.S} {as : List T} (h : gs τ s = some (as, τ1, s1)) (hz : as.length ≤ sizeLine) : oTup gs τ s = some (.tup as, τ1, s1) := by
  unfold oTup
  simp only [h]
  exact if_pos hz
theorem ev_oCons {Z : Res} {g : EFo Z} {gs : EFos Z} {τ τ1 τ2 : List SV} {s s1 s2 : Z.S} {a : T} {as : List T} (h : g τ s = some (a, τ1, s1)) (h2 : gs τ1 s1 = some (as, τ2, s2)) : oCons g gs τ s = some (a :: as, τ2, s2) := by
  unfold oCons
  simp only [h, h2]
abbrev poolS : List Str := ["box", "half", "k", "lock", "open", "pair", "zzzzzzzz"]
abbrev openS : List Str := ["y", "first", "get", "untie"]
theorem poolS_ok : ∀ x ∈ poolS, kwB x = true := by decide +kernel
theorem poolS_nd : poolS.Nodup := by decide +kernel
theorem openS_nd : openS.Nodup := by decide +kernel
def PInv (d : Addr) (n : Nat) (τ : List SV) : Prop := ∃ (pool : List Str) (kinds : List T) (ns : List Str) (x3 : SV), τ = [.im (.adr d), .ow (.lst (pool.map T.str)), .ow (.lst kinds), x3, .un, .un, .un, .un, .un] ∧ pool.length + n = 7 ∧ kinds.length = n ∧ (∀ x ∈ pool, kwB x = true) ∧ fstsT kinds = some ns ∧ (ns ++ pool).Nodup ∧ ∀ e ∈ kinds, kindT e
def OInv (d : Addr) (ks : List T) (n : Nat) (τ : List SV) : Prop := ∃ (x1 x3 x5 x6 x7 x8 : SV) (ops : List T), τ = [.im (.adr d), x1, .im (.tup ks), x3, .ow (.lst ops), x5, x6, x7, x8] ∧ isOw x8 = false ∧ ops.length = n ∧ fstsT ops = some (openS.take n)
section
variable {d c : Addr}
theorem plan_kinds (k : Nat) (hk : k < 4) (τ : List SV) (s : Deck) (i : PInv d k τ) : ∃ τ1, gSet 3 (.int (k : Int)) τ = some τ1 ∧
    Wn ((sDropO (oApp 2 (oTup (oCons (oPopAt 1 (xCallF (drawT dp dq d c) (xCons (xName 0) (xCons (xRead 1 (xCall lenT (xCons (xName 1) (xNil)))) (xNil))))) (oCons (oPure (x2 addX (xC (T.int 1)) (xCallF (drawT dp dq d c) (xCons (xName 0) (xCons (xC (T.int 3)) (xNil)))))) (oNil)))))) τ1 s) fun τ2 _ => PInv d (k + 1) τ2 := by
  obtain ⟨pool, kinds, ns, x3, rfl, hp, hl, hw, hf, hn, hK⟩ := i
  refine ⟨[.im (.adr d), .ow (.lst (pool.map T.str)), .ow (.lst kinds), .im (.int k), .un, .un, .un, .un, .un], rfl, ?_⟩
  obtain ⟨p, s1, e1, hp1⟩ := drawT_some dp dq d c s ((pool.map T.str).length : Int) (by rw [List.length_map]; omega) (by rw [List.length_map]; omega)
  have hpl : p < pool.length := by
    rw [List.length_map] at hp1
    omega
  obtain ⟨m, s2, e2, hm⟩ := drawT_some dp dq d c s1 3 (by decide) (by decide)
  have rd : xRead (Z := deckZ d c) 1 (xCall lenT (xCons (xName 1) (xNil))) [.im (.adr d), .ow (.lst (pool.map T.str)), .ow (.lst kinds), .im (.int k), .un, .un, .un, .un, .un] s = some (.int ((pool.map T.str).length : Int), s) :=
    ev_read (a := .lst (pool.map T.str)) rfl (ev_call (ev_cons (ev_name rfl) ev_nil) rfl) rfl
  have pp : oPopAt (Z := deckZ d c) 1 (xCallF (drawT dp dq d c) (xCons (xName 0) (xCons (xRead 1 (xCall lenT (xCons (xName 1) (xNil)))) (xNil)))) [.im (.adr d), .ow (.lst (pool.map T.str)), .ow (.lst kinds), .im (.int k), .un, .un, .un, .un, .un] s
      = some (.str pool[p], [.im (.adr d), .ow (.lst ((pool.map T.str).eraseIdx p)), .ow (.lst kinds), .im (.int k), .un, .un, .un, .un, .un], s1) :=
    ev_popAt rfl (ev_callF (ev_cons (ev_name rfl) (ev_cons rd ev_nil)) e1) (by rw [List.getElem?_map, List.getElem?_eq_getElem hpl]; rfl) (by omega)
  rw [eraseIdx_map'] at pp
  have on : oPure (Z := deckZ d c) (x2 addX (xC (T.int 1)) (xCallF (drawT dp dq d c) (xCons (xName 0) (xCons (xC (T.int 3)) (xNil))))) [.im (.adr d), .ow (.lst ((pool.eraseIdx p).map T.str)), .ow (.lst kinds), .im (.int k), .un, .un, .un, .un, .un] s1
      = some (.int (1 + (m : Int)), [.im (.adr d), .ow (.lst ((pool.eraseIdx p).map T.str)), .ow (.lst kinds), .im (.int k), .un, .un, .un, .un, .un], s2) :=
    ev_pure (ev_x2 rfl (ev_callF (ev_cons (ev_name rfl) (ev_cons rfl ev_nil)) e2) rfl)
  refine ⟨_, _, ev_dropO (ev_app rfl (ev_oTup (ev_oCons pp (ev_oCons on rfl)) (sz (by simp))) rfl (Nat.lt_of_lt_of_le (by omega : kinds.length < 1000) (sz (by decide)))), ?_⟩
  have pm := erase_perm pool p hpl
  refine ⟨pool.eraseIdx p, kinds ++ [.tup [.str pool[p], .int (1 + (m : Int))]], ns ++ [pool[p]], _, rfl, ?_, by simp [hl], fun x hx => hw x (List.mem_of_mem_eraseIdx hx), fstsT_snoc rfl hf, ?_, ?_⟩
  · rw [List.length_eraseIdx_of_lt hpl]
    omega
  · rw [List.append_assoc]
    exact ((List.Perm.append_left ns pm).nodup_iff).mpr hn
  · intro e he
    rcases List.mem_append.mp he with h | h
    · exact hK e h
    · rw [List.mem_singleton] at h
      exact ⟨_, _, h, hw _ (List.getElem_mem hpl), by omega, by omega⟩
theorem plan_opens {ks : List T} (hks : ∀ e ∈ ks, kindT e) (l1 : 1 ≤ ks.length) (l2 : ks.length ≤ 1000) (k : Nat) (hk : k < 4) (τ : List SV) (s : Deck) (i : OInv d ks k τ) : ∃ τ1, gSet 3 (.int (k : Int)) τ = some τ1 ∧
    Wn ((sSeq (sAsg (xCallF (f_law_pick d c) (xCons (xName 0) (xCons (xName 2) (xNil)))) (gTupT 2 (gsCons (gSet 5) (gsCons (gSet 6) (gsNil)))))
    (sSeq (sSetO 7 (xLc [8] (iRng (xCallF (f_law_pick d c) (xCons (xName 0) (xCons (xLst (xCons (xC (T.int 0)) (xCons (xC (T.int 1)) (xCons (xC (T.int 1)) (xCons (xC (T.int 2)) (xNil)))))) (xNil))))) (gSet 8) (xYes) (xCallF (f_law_need d c) (xCons (xName 0) (xCons (xName 2) (xCons (xName 6) (xNil)))))))
    (sFreeze 7 (sDropO (oApp 4 (oPure (xTup (xCons (x2 ixT (xLst (xCons (xC (T.str "y")) (xCons (xC (T.str "first")) (xCons (xC (T.str "get")) (xCons (xC (T.str "untie")) (xNil)))))) (xName 3)) (xCons (xName 5) (xCons (xCallF (drawT dp dq d c) (xCons (xName 0) (xCons (xName 6) (xNil)))) (xCons (xCall tupleT (xCons (xName 7) (xNil))) (xNil)))))))))))) τ1 s) fun τ2 _ => OInv d ks (k + 1) τ2 := by
  obtain ⟨x1, x3, x5, x6, x7, x8, ops, rfl, h8, hl, hf⟩ := i
  refine ⟨[.im (.adr d), x1, .im (.tup ks), .im (.int k), .ow (.lst ops), x5, x6, x7, x8], rfl, ?_⟩
  refine wn_seq (wn_asg (we_pickT rfl (we_name rfl ⟨ks, rfl, l1, l2, fun t ht s1 => ?_⟩)))
  obtain ⟨kk, mm, rfl, hkk, m1, m3⟩ := hks t ht
  refine ⟨[.im (.adr d), x1, .im (.tup ks), .im (.int k), .ow (.lst ops), .im (.str kk), .im (.int mm), x7, x8], rfl, ?_⟩
  obtain ⟨q, hq, s2, e2⟩ := pick_lst (d := d) (c := c) [.int 0, .int 1, .int 1, .int 2] (by decide) (by decide) s1
  obtain ⟨n, rfl, hn⟩ : ∃ n : Nat, q = .int (n : Int) ∧ n ≤ 2 := by
    simp only [List.mem_cons, List.not_mem_nil, or_false] at hq
    rcases hq with h | h | h | h
    · exact ⟨0, h, by decide⟩
    · exact ⟨1, h, by decide⟩
    · exact ⟨1, h, by decide⟩
    · exact ⟨2, h, by decide⟩
  obtain ⟨bs, s3, eg, hb, _⟩ := lcGo_all (Z := deckZ d c) (gt := gSet 8) (fe := xCallF (f_law_need d c) (xCons (xName 0) (xCons (xName 2) (xCons (xName 6) (xNil))))) (τ := wipeT [.im (.adr d), x1, .im (.tup ks), .im (.int k), .ow (.lst ops), .im (.str kk), .im (.int mm), x7, x8] [8]) (P := fun _ => True) (fun a => ⟨[.im (.adr d), x1, .im (.tup ks), .im (.int k), .ow (.lst ops), .im (.str kk), .im (.int mm), x7, .im a], rfl, fun s => by
    obtain ⟨b, s', e, _⟩ := need_some (d := d) (c := c) hks l2 m1 m3 s
    exact ⟨b, s', ev_callF (ev_cons (ev_name rfl) (ev_cons (ev_name rfl) (ev_cons (ev_name rfl) ev_nil))) e, trivial⟩⟩) (intsFrom 0 n) s2
  rw [intsFrom_len] at hb
  have lc : xLc (Z := deckZ d c) [8] (iRng (xCallF (f_law_pick d c) (xCons (xName 0) (xCons (xLst (xCons (xC (T.int 0)) (xCons (xC (T.int 1)) (xCons (xC (T.int 1)) (xCons (xC (T.int 2)) (xNil)))))) (xNil))))) (gSet 8) (xYes) (xCallF (f_law_need d c) (xCons (xName 0) (xCons (xName 2) (xCons (xName 6) (xNil))))) [.im (.adr d), x1, .im (.tup ks), .im (.int k), .ow (.lst ops), .im (.str kk), .im (.int mm), x7, x8] s1 = some (.lst bs, s3) :=
    ev_lc (ev_rng (n := (n : Int)) (ev_callF (ev_cons (ev_name rfl) (ev_cons (ev_lst (ev_cons rfl (ev_cons rfl (ev_cons rfl (ev_cons rfl rfl)))) (sz (by simp))) ev_nil)) e2) ⟨by omega, by omega⟩) (by rw [Int.toNat_natCast, intsFrom_len]; exact sz (by omega)) (by simp [h8]) (by rw [Int.toNat_natCast]; exact eg)
  refine wn_seq ⟨_, s3, ev_setO lc (by simp), ?_⟩
  refine wn_freeze (a := .lst bs) rfl ?_
  show Wn ((_ : SF (deckZ d c)) [.im (.adr d), x1, .im (.tup ks), .im (.int k), .ow (.lst ops), .im (.str kk), .im (.int mm), .im (.lst bs), x8] s3) _
  obtain ⟨g, s4, e4, _⟩ := drawT_some dp dq d c s3 mm (by omega) (by omega)
  have hk' : k < ([T.str "y", T.str "first", T.str "get", T.str "untie"] : List T).length := hk
  have hk2 : k < openS.length := hk
  have ix : ixT (.lst [T.str "y", T.str "first", T.str "get", T.str "untie"]) (.int (k : Int)) = some (.str openS[k]) := by
    show atI ([T.str "y", T.str "first", T.str "get", T.str "untie"] : List T) (k : Int) = _
    rw [atI_nat' hk']
    have e : ([T.str "y", T.str "first", T.str "get", T.str "untie"] : List T) = openS.map T.str := rfl
    simp only [e, List.getElem_map]
  have tu : xTup (Z := deckZ d c) (xCons (x2 ixT (xLst (xCons (xC (T.str "y")) (xCons (xC (T.str "first")) (xCons (xC (T.str "get")) (xCons (xC (T.str "untie")) (xNil)))))) (xName 3)) (xCons (xName 5) (xCons (xCallF (drawT dp dq d c) (xCons (xName 0) (xCons (xName 6) (xNil)))) (xCons (xCall tupleT (xCons (xName 7) (xNil))) (xNil))))) [.im (.adr d), x1, .im (.tup ks), .im (.int k), .ow (.lst ops), .im (.str kk), .im (.int mm), .im (.lst bs), x8] s3 = some (.tup [.str openS[k], .str kk, .int g, .tup bs], s4) :=
    ev_tup (ev_cons (ev_x2 (ev_lst (ev_cons rfl (ev_cons rfl (ev_cons rfl (ev_cons rfl rfl)))) (sz (by simp))) (ev_name rfl) ix) (ev_cons (ev_name rfl) (ev_cons (ev_callF (ev_cons (ev_name rfl) (ev_cons (ev_name rfl) ev_nil)) e4) (ev_cons (ev_call (ev_cons (ev_name rfl) ev_nil) rfl) ev_nil)))) (sz (by simp))
  refine ⟨_, _, ev_dropO (ev_app rfl (ev_pure tu) rfl (Nat.lt_of_lt_of_le (by omega : ops.length < 1000) (sz (by decide)))), ?_⟩
  refine ⟨x1, _, _, _, _, x8, _, rfl, h8, by simp [hl], ?_⟩
  rw [List.take_succ_eq_append_getElem hk2]
  exact fstsT_snoc rfl hf
theorem plan_some (s : Deck) : We (f_law_plan d c [.adr d] s) fun a _ => WOk a := by
  refine we_ff rfl ?_
  show Wr (g_law_plan d c [.im (.adr d), .un, .un, .un, .un, .un, .un, .un, .un] s) _
  refine wr_if_seq (we_eqi (we_drawn rfl 3 (we_c ⟨rfl, by decide, by decide, fun k s1 hk => ⟨_, rfl, fun _ => ?_, fun _ => ?_⟩⟩)))
  · obtain ⟨w, e, ok⟩ := std_ok
    exact ⟨w, s1, ev_ret (ev_callP ev_nil e), ok⟩
  refine wr_seq ⟨[.im (.adr d), .ow (.lst (poolS.map T.str)), .ow (.lst []), .un, .un, .un, .un, .un, .un], s1, ev_parN (k := true) (l := true) (ev_lst (ev_cons rfl (ev_cons rfl (ev_cons rfl (ev_cons rfl (ev_cons rfl (ev_cons rfl (ev_cons rfl rfl))))))) (sz (by simp))) (ev_lst rfl (sz (by simp))) (by simp) (by simp), ?_⟩
  obtain ⟨n, s2, e2, hn⟩ := drawT_some dp dq d c s1 4 (by decide) (by decide)
  refine wr_seq (wn_rng ⟨_, s2, ev_x2 rfl (ev_callF (ev_cons (ev_name rfl) (ev_cons rfl ev_nil)) e2) rfl, 1 + n, by congr 1, by omega, wn_imp (sFor_ix0 (PInv d) (1 + n) _ _ (fun k hk τ s i => plan_kinds k (by omega) τ s i) ⟨poolS, [], [], _, rfl, rfl, rfl, poolS_ok, rfl, poolS_nd, fun e h => by cases h⟩) ?_⟩)
  rintro τ s3 ⟨pool, kinds, ns, x3, rfl, hp, hl, hw, hf, hd, hK⟩
  refine wr_freeze (a := .lst kinds) rfl ?_
  show Wr ((_ : SF (deckZ d c)) [.im (.adr d), .ow (.lst (pool.map T.str)), .im (.lst kinds), x3, .un, .un, .un, .un, .un] s3) _
  obtain ⟨us, eu, ul, um⟩ := sorted_firstsT hf (List.nodup_append.mp hd).1
  refine wr_seq ⟨[.im (.adr d), .ow (.lst (pool.map T.str)), .im (.tup us), x3, .ow (.lst []), .un, .un, .un, .un], s3, ev_parN (k := false) (l := true) (ev_call (ev_cons (ev_call (ev_cons (ev_name rfl) ev_nil) eu) ev_nil) rfl) (ev_lst rfl (sz (by simp))) (by simp) (by simp), ?_⟩
  have uK : ∀ e ∈ us, kindT e := fun e he => hK e (um e he)
  obtain ⟨m, s4, e4, hm⟩ := drawT_some dp dq d c s3 5 (by decide) (by decide)
  refine wr_seq (wn_rng ⟨_, s4, ev_callF (ev_cons (ev_name rfl) (ev_cons rfl ev_nil)) e4, m, rfl, by omega, wn_imp (sFor_ix0 (OInv d us) m _ _ (fun k hk τ s i => plan_opens uK (by omega) (by omega) k (by omega) τ s i) ⟨_, _, _, _, _, _, [], rfl, rfl, rfl, rfl⟩) ?_⟩)
  rintro τ s5 ⟨x1, x3', x5, x6, x7, x8, ops, rfl, h8, hol, hof⟩
  refine wr_freeze (a := .lst ops) rfl ?_
  show Wr ((_ : SF (deckZ d c)) [.im (.adr d), x1, .im (.tup us), x3', .im (.lst ops), x5, x6, x7, x8] s5) _
  obtain ⟨vs, ev, _, _⟩ := sorted_firstsT hof (openS_nd.sublist (List.take_sublist _ _))
  refine ⟨_, s5, ev_ret (ev_dict (as := [.tup us, .tup vs]) (ev_cons (ev_name rfl) (ev_cons (ev_call (ev_cons (ev_call (ev_cons (ev_name rfl) ev_nil) ev) ev_nil) rfl) ev_nil)) ⟨rfl, by decide, by decide⟩), ?_⟩
  exact ⟨_, us, rfl, by first | rfl | kernel_rfl, by omega, by omega, uK⟩
end
end L2.TL
namespace L2.TL
open PySem PySem.Spec
open PyProof.Rows
theorem fine_of {n : Nat} {a : T} (h : Drawn n a) (hn : n ≤ 3) : ∃ t : Th, a = t.t ∧ Fine t := by
  obtain ⟨t, rfl, ⟨o, s, c⟩, hd, hp⟩ := h
  refine ⟨t, rfl, o, s, c, ?_, by omega⟩
  have : Bd n ≤ 40 := by
    match n, hn with
    | 0, _ => decide
    | 1, _ => decide
    | 2, _ => decide
    | 3, _ => decide
  omega
abbrev exT : Th := .n "pair" [.n "lock" [.a "k", .a "K"], .n "pair" [.a "K", .a "K0"]]
abbrev exO : Th := .n "lock" [.a "K", .a "K0"]
theorem exT_fine : Fine exT := by
  have w : ∀ x : Str, kwB x = true → TOk (.a x) := fun x h => word_ok h
  have hk := kwB_ok (x := "k") (by decide +kernel)
  have hK := kwB_ok (x := "K") (by decide +kernel)
  have hK0 := kwB_ok (x := "K0") (by decide +kernel)
  have hp := kwB_ok (x := "pair") (by decide +kernel)
  have hl := kwB_ok (x := "lock") (by decide +kernel)
  exact ⟨⟨hp.1, by simp, ⟨⟨hl.1, by simp, ⟨hk.1, hK.1, trivial⟩⟩, ⟨hp.1, by simp, ⟨hK.1, hK0.1, trivial⟩⟩, trivial⟩⟩,
    ⟨hp.2.1, ⟨⟨hl.2.1, ⟨hk.2.1, hK.2.1, trivial⟩⟩, ⟨hp.2.1, ⟨hK.2.1, hK0.2.1, trivial⟩⟩, trivial⟩⟩,
    ⟨hp.2.2, by simp, ⟨⟨hl.2.2, by simp, ⟨hk.2.2, hK.2.2, trivial⟩⟩, ⟨hp.2.2, by simp, ⟨hK.2.2, hK0.2.2, trivial⟩⟩, trivial⟩⟩, by decide, by decide⟩
theorem ex_names : ∀ c : Th, (c ∈ exT.post ∧ nmB c = true) ↔ c ∈ ([.a "K", .a "K0"] : List Th) := by
  have e : exT.post = [.a "k", .a "K", .n "lock" [.a "k", .a "K"], .a "K", .a "K0", .n "pair" [.a "K", .a "K0"], exT] := rfl
  have h1 : nmB (.a "k") = false := by first | rfl | kernel_rfl
  have h2 : nmB (.a "K") = true := by first | rfl | kernel_rfl
  have h3 : nmB (.a "K0") = true := by first | rfl | kernel_rfl
  have h4 : nmB (.n "lock" [.a "k", .a "K"]) = false := by first | rfl | kernel_rfl
  have h5 : nmB (.n "pair" [.a "K", .a "K0"]) = false := by first | rfl | kernel_rfl
  have h6 : nmB exT = false := by first | rfl | kernel_rfl
  intro c
  rw [e]
  simp only [List.mem_cons, List.not_mem_nil, or_false]
  constructor
  · rintro ⟨h | h | h | h | h | h | h, hb⟩
    · rw [h, h1] at hb; cases hb
    · exact .inl h
    · rw [h, h4] at hb; cases hb
    · exact .inl h
    · exact .inr h
    · rw [h, h5] at hb; cases hb
    · rw [h, h6] at hb; cases hb
  · rintro (h | h)
    · exact ⟨.inr (.inl h), by rw [h, h2]⟩
    · exact ⟨.inr (.inr (.inr (.inr (.inl h)))), by rw [h, h3]⟩
theorem ex_asc : Asc [.a "K", .a "K0"] := by
  refine List.pairwise_cons.mpr ⟨fun b hb => ?_, List.pairwise_cons.mpr ⟨fun _ h => (by cases h), List.Pairwise.nil⟩⟩
  rw [List.mem_singleton] at hb
  subst hb
  exact ⟨by decide +kernel, by decide +kernel⟩
theorem names_ex : f_names_in [exT.t] = some (.tup [.str "K", .str "K0"]) := by
  have g := exT_fine.good
  obtain ⟨R, hA, hm, hl, hp⟩ := pieces_of_eq g.inj exT_fine.ok exT_fine.few
  have e := names_in_eq g hm hp (by omega)
  have hR : R.filter nmB = [.a "K", .a "K0"] := asc_uniq (asc_filter nmB hA) ex_asc fun c => by
    rw [List.mem_filter, hm c]
    exact ex_names c
  rw [hR] at e
  exact e
abbrev exD : T := .tup [.str "pair", .tup [.str "lock", .str "k", .tup [.str "lock", .str "K", .str "K0"]], .tup [.str "pair", .tup [.str "lock", .str "K", .str "K0"], .str "K0"]]
abbrev exL : T := .lst [exD, .int 7, .str "pair(lock(k,K),pair(K,K0))", .tup [.str "K", .str "K0"]]
theorem put_ex : (exT.put "K" exO).t = exD := by first | rfl | decide +kernel | kernel_rfl
theorem text_ex : exT.text = "pair(lock(k,K),pair(K,K0))" := by first | rfl | decide +kernel | kernel_rfl
theorem eq_ex : eqX false exL exL = some (.bl true) := by first | rfl | kernel_rfl
def LInv (d : Addr) (v0 : SV) (τ : List SV) : Prop := ∃ x2 x3 x4 x5 x6 x7 : SV, τ = [v0, .im (.adr d), x2, x3, x4, x5, x6, x7, .un, .un]
def MInv (d : Addr) (v0 : SV) (w : T) (τ : List SV) : Prop := ∃ x2 x4 x5 x6 x7 : SV, τ = [v0, .im (.adr d), x2, .im w, x4, x5, x6, x7, .un, .un]
section
variable {d c : Addr}
theorem law_turn {v0 : SV} {w : T} (hw : WOk w) (k : Nat) (τ : List SV) (s : Deck) (i : MInv d v0 w τ) : ∃ τ1, gSet 4 (.int (k : Int)) τ = some τ1 ∧
    Wn ((sSeq (sPar 5 6 (xCons (xCallF (f_law_thing d c 4) (xCons (xName 1) (xCons (xName 3) (xCons (xC (T.int 3)) (xNil))))) (xCons (xCallF (f_law_thing d c 4) (xCons (xName 1) (xCons (xName 3) (xCons (xC (T.int 1)) (xNil))))) (xNil))))
    (sSeq (sSet 7 (xCallF (f_law_pick d c) (xCons (xName 1) (xCons (xLst (xCons (xC (T.str "K")) (xCons (xC (T.str "K")) (xCons (xC (T.str "L")) (xCons (xC (T.str "K0")) (xCons (xC (T.str "Q")) (xNil))))))) (xNil)))))
    (sIf (xbOr (xbNot (xTru (xCallP (f_law_right) (xCons (xName 5) (xNil))))) (xbNot (xTru (xCallP (f_law_put_right) (xCons (xName 5) (xCons (xName 7) (xCons (xName 6) (xNil)))))))) (sRet (xC (T.bl false))) (sSkip)))) τ1 s) fun τ2 _ => MInv d v0 w τ2 := by
  obtain ⟨x2, x4, x5, x6, x7, rfl⟩ := i
  refine ⟨[v0, .im (.adr d), x2, .im w, .im (.int k), x5, x6, x7, .un, .un], rfl, ?_⟩
  obtain ⟨a, s1, e1, p1⟩ := thing_some (d := d) (c := c) hw 4 3 s (by decide)
  obtain ⟨b, s2, e2, p2⟩ := thing_some (d := d) (c := c) hw 4 1 s1 (by decide)
  obtain ⟨t, rfl, ft⟩ := fine_of p1 (by decide)
  obtain ⟨o, rfl, fo⟩ := fine_of p2 (by decide)
  refine wn_seq ⟨[v0, .im (.adr d), x2, .im w, .im (.int k), .im t.t, .im o.t, x7, .un, .un], s2, ev_par (ev_cons (ev_callF (ev_cons (ev_name rfl) (ev_cons (ev_name rfl) (ev_cons rfl ev_nil))) e1) (ev_cons (ev_callF (ev_cons (ev_name rfl) (ev_cons (ev_name rfl) (ev_cons rfl ev_nil))) e2) ev_nil)) (by simp) (by simp), ?_⟩
  obtain ⟨q, hq, s3, e3⟩ := pick_lst (d := d) (c := c) [.str "K", .str "K", .str "L", .str "K0", .str "Q"] (by decide) (by decide) s2
  obtain ⟨x, rfl⟩ : ∃ x : Str, q = .str x := by
    simp only [List.mem_cons, List.not_mem_nil, or_false] at hq
    rcases hq with h | h | h | h | h <;> exact ⟨_, h⟩
  refine wn_seq ⟨[v0, .im (.adr d), x2, .im w, .im (.int k), .im t.t, .im o.t, .im (.str x), .un, .un], s3, ev_set (ev_callF (ev_cons (ev_name rfl) (ev_cons (ev_lst (ev_cons rfl (ev_cons rfl (ev_cons rfl (ev_cons rfl (ev_cons rfl rfl))))) (sz (by simp))) ev_nil)) e3) (by simp), ?_⟩
  refine ⟨_, s3, ev_if_f (ev_or_f (ev_bnot (k := true) (ev_tru (ev_callP (ev_cons (ev_name rfl) ev_nil) (right_all ft)) rfl)) (ev_bnot (k := true) (ev_tru (ev_callP (ev_cons (ev_name rfl) (ev_cons (ev_name rfl) (ev_cons (ev_name rfl) ev_nil))) (put_right_all ft fo)) rfl))) rfl, ?_⟩
  exact ⟨x2, _, _, _, _, rfl⟩
theorem law_some (s : Deck) (v0 : SV) : Wr (g_law d c [v0, .im (.adr d), .un, .un, .un, .un, .un, .un, .un, .un] s) fun a _ => a = .bl true := by
  refine wr_seq (wn_rng ⟨_, s, rfl, 3, rfl, by decide, wn_imp (sFor_ix0 (fun _ => LInv d v0) 3 _ _ (fun k hk τ s i => ?_) ⟨_, _, _, _, _, _, rfl⟩) ?_⟩)
  · obtain ⟨x2, x3, x4, x5, x6, x7, rfl⟩ := i
    refine ⟨[v0, .im (.adr d), .im (.int k), x3, x4, x5, x6, x7, .un, .un], rfl, ?_⟩
    obtain ⟨w, s1, e, hw⟩ := plan_some (d := d) (c := c) s
    refine wn_seq ⟨[v0, .im (.adr d), .im (.int k), .im w, x4, x5, x6, x7, .un, .un], s1, ev_set (ev_callF (ev_cons (ev_name rfl) ev_nil) e) (by simp), ?_⟩
    refine wn_rng ⟨_, s1, rfl, 4, rfl, by decide, wn_imp (sFor_ix0 (fun _ => MInv d v0 w) 4 _ _ (fun k hk τ s i => law_turn hw k τ s i) ⟨_, _, _, _, _, rfl⟩) ?_⟩
    rintro τ s2 ⟨y2, y4, y5, y6, y7, rfl⟩
    exact ⟨_, _, _, _, _, _, rfl⟩
  rintro τ s1 ⟨x2, x3, x4, x5, x6, x7, rfl⟩
  have f := exT_fine
  refine wr_seq ⟨[v0, .im (.adr d), x2, x3, x4, .im exT.t, x6, x7, .un, .un], s1, ev_set (ev_tup (ev_cons rfl (ev_cons (ev_tup (ev_cons rfl (ev_cons rfl (ev_cons rfl rfl))) (sz (by decide))) (ev_cons (ev_tup (ev_cons rfl (ev_cons rfl (ev_cons rfl rfl))) (sz (by decide))) rfl))) (sz (by decide))) (by simp), ?_⟩
  have e1 : f_replaced [exT.t, .str "K", exO.t] = some exD := by
    rw [replaced_eq exT exO "K" f.ok (by decide), put_ex]
  have e2 : f_size_of [exT.t] = some (.int 7) := size_of_eq exT (by decide)
  have e3 : f_text_of [exT.t] = some (.str "pair(lock(k,K),pair(K,K0))") := by
    rw [text_of_eq exT f.ok (by decide), text_ex]
  refine wr_seq ⟨[v0, .im (.adr d), x2, x3, x4, .im exT.t, x6, x7, .im exL, .un], s1, ev_set (ev_lst (ev_cons (ev_callP (ev_cons (ev_name rfl) (ev_cons rfl (ev_cons (ev_tup (ev_cons rfl (ev_cons rfl (ev_cons rfl rfl))) (sz (by simp))) ev_nil))) e1) (ev_cons (ev_callP (ev_cons (ev_name rfl) ev_nil) e2) (ev_cons (ev_callP (ev_cons (ev_name rfl) ev_nil) e3) (ev_cons (ev_callP (ev_cons (ev_name rfl) ev_nil) names_ex) rfl)))) (sz (by simp))) (by simp), ?_⟩
  have tl : ∀ τ : List SV, xTup (Z := deckZ d c) (xCons (xC (T.str "lock")) (xCons (xC (T.str "K")) (xCons (xC (T.str "K0")) (xNil)))) τ s1 = some (.tup [.str "lock", .str "K", .str "K0"], s1) := fun τ => ev_tup (ev_cons rfl (ev_cons rfl (ev_cons rfl rfl))) (sz (by simp))
  refine wr_seq ⟨[v0, .im (.adr d), x2, x3, x4, .im exT.t, x6, x7, .im exL, .im exD], s1, ev_set (ev_tup (ev_cons rfl (ev_cons (ev_tup (ev_cons rfl (ev_cons rfl (ev_cons (tl _) rfl))) (sz (by simp))) (ev_cons (ev_tup (ev_cons rfl (ev_cons (tl _) (ev_cons rfl rfl))) (sz (by simp))) rfl))) (sz (by simp))) (by simp), ?_⟩
  exact wr_ret ⟨_, s1, ev_x2 (ev_name rfl) (ev_lst (ev_cons (ev_name rfl) (ev_cons rfl (ev_cons rfl (ev_cons (ev_tup (ev_cons rfl (ev_cons rfl rfl)) (sz (by simp))) rfl)))) (sz (by simp))) eq_ex, rfl⟩
end
end L2.TL
namespace L2.TL
open PySem PySem.Spec
open PyProof.Rows
def spLaw (K : PySem.W.Frag) : Sp := fun vs H Q _ => ∃ (a : Addr) (ns : List Int), vs = [.ref a] ∧ SqL K H a (ns.map V.int) ∧ ns.length ≤ 63 ∧ ∀ H' : Hp, Q (.bl true) H'
def noH : Hp := fun _ => none
section
variable {P : Program} {w : World} {K : PySem.W.Frag} {mg : Str → Option Value} {base : Heap}
theorem ok_law (W : Txt K mg) {f : Addr} {fd : FuncData} (F : Fun K "law" "law" s_law f fd) : FnG P w K mg base 9 f fd ["_law_script"] (spLaw K) := by
  refine fn_g F sc_law (fun vs H Q E h => ?_) fun cdv A out z H vs Q E gd hr h => ?_
  · obtain ⟨a, ns, rfl, _⟩ := h
    rfl
  · obtain ⟨a, ns, rfl, hS, hl, q⟩ := h
    refine ⟨_, pss_cons (ps_set (i := 1) sc_law.nd rfl (.inl rfl) (pe_call (ok_deck W.d_law_deck.F ⟨W.b_int, W.b_list⟩) (hr.mono (by decide)) (by rfl) W.d_law_deck.m W.d_law_deck.F.kp W.d_law_deck.b .nil pass0 (pa_cons (pv 0) pa_nil)))
      (pss_ex fun i : Addr × Addr => (rest_law W i.1 i.2 f cdv A out z H E gd hr).pss), ?_⟩
    refine ⟨_, rfl, a, ns, rfl, hS, hl, fun H' d c s sub hd hc dk => ?_⟩
    obtain ⟨t, s', e, rfl⟩ := law_some (d := d) (c := c) s .un
    refine ⟨(d, c), noH, noH, [.un, .im (.adr d), .un, .un, .un, .un, .un, .un, .un, .un], s, _, ?_, e, ?_⟩
    · have no : ∀ (i : Nat) (t : L2.TL.T), ([.un, .im (.adr d), .un, .un, .un, .un, .un, .un, .un, .un] : List SV)[i]? ≠ some (.ow t) := fun i t h => by
        match i, h with
        | 0, h => cases h
        | 1, h => cases h
        | 2, h => cases h
        | 3, h => cases h
        | 4, h => cases h
        | 5, h => cases h
        | 6, h => cases h
        | 7, h => cases h
        | 8, h => cases h
        | 9, h => cases h
        | n + 10, h => cases h
      exact
        { sub := fun _ _ h => by cases h
          res := dk
          rf := fun _ _ => ⟨rfl, rfl⟩
          fr := fun _ _ h => by cases h
          len := rfl
          im := fun i t h => by
            match i, h with
            | 0, h => cases h
            | 1, h =>
              cases h
              exact ⟨.ref d, rfl, rfl⟩
            | 2, h => cases h
            | 3, h => cases h
            | 4, h => cases h
            | 5, h => cases h
            | 6, h => cases h
            | 7, h => cases h
            | 8, h => cases h
            | 9, h => cases h
            | n + 10, h => cases h
          ow := fun i t h => absurd h (no i t)
          inj := fun i j t u p _ h => absurd h (no i t) }
    · intro I' H1 v _ _ hv
      have hv : v = .bl true := hv
      subst hv
      exact q _
end
end L2.TL
namespace L2.TL
open PySem PySem.Spec
open PyProof.Rows
/-! the end: what the top has written -/
theorem all_mk {l : PySem.W.OpenLaw} {w : World} {K : PySem.W.Frag} {h : Heap} {mg : Str → Option Value} {fa : Addr} (X : K.In h) (G : h.Ns mainGlobals mg) (hfa : mg "law" = some (.ref fa))
    {f0 : Addr} {od0 an0 : Option Addr} {sl0 : Array (Option Value)} {oc0 kV0 dc0 pm0 cd0 ct0 : Value}
    (a0 : PySem.W.nsIn K mainGlobals "is_name" = some (some (.ref f0))) (l0 : K.lookup f0 = some ⟨oc0, od0, .func (PySem.W.fnOf "is_name" "is_name" (defArgs s_is_name) (defBody s_is_name) (defScope s_is_name) .none kV0 dc0 pm0 an0 cd0 ct0), sl0⟩) (c0 : PySem.W.codeIn K cd0 "is_name" = true) (k0 : PySem.W.keepIn K (.ref f0) = true)
    {f1 : Addr} {od1 an1 : Option Addr} {sl1 : Array (Option Value)} {oc1 kV1 dc1 pm1 cd1 ct1 : Value}
    (a1 : PySem.W.nsIn K mainGlobals "walk" = some (some (.ref f1))) (l1 : K.lookup f1 = some ⟨oc1, od1, .func (PySem.W.fnOf "walk" "walk" (defArgs s_walk) (defBody s_walk) (defScope s_walk) .none kV1 dc1 pm1 an1 cd1 ct1), sl1⟩) (c1 : PySem.W.codeIn K cd1 "walk" = true) (k1 : PySem.W.keepIn K (.ref f1) = true)
    {f2 : Addr} {od2 an2 : Option Addr} {sl2 : Array (Option Value)} {oc2 kV2 dc2 pm2 cd2 ct2 : Value}
    (a2 : PySem.W.nsIn K mainGlobals "texts_of" = some (some (.ref f2))) (l2 : K.lookup f2 = some ⟨oc2, od2, .func (PySem.W.fnOf "texts_of" "texts_of" (defArgs s_texts_of) (defBody s_texts_of) (defScope s_texts_of) .none kV2 dc2 pm2 an2 cd2 ct2), sl2⟩) (c2 : PySem.W.codeIn K cd2 "texts_of" = true) (k2 : PySem.W.keepIn K (.ref f2) = true)
    {f3 : Addr} {od3 an3 : Option Addr} {sl3 : Array (Option Value)} {oc3 kV3 dc3 pm3 cd3 ct3 : Value}
    (a3 : PySem.W.nsIn K mainGlobals "text_of" = some (some (.ref f3))) (l3 : K.lookup f3 = some ⟨oc3, od3, .func (PySem.W.fnOf "text_of" "text_of" (defArgs s_text_of) (defBody s_text_of) (defScope s_text_of) .none kV3 dc3 pm3 an3 cd3 ct3), sl3⟩) (c3 : PySem.W.codeIn K cd3 "text_of" = true) (k3 : PySem.W.keepIn K (.ref f3) = true)
    {f4 : Addr} {od4 an4 : Option Addr} {sl4 : Array (Option Value)} {oc4 kV4 dc4 pm4 cd4 ct4 : Value}
    (a4 : PySem.W.nsIn K mainGlobals "pieces_among" = some (some (.ref f4))) (l4 : K.lookup f4 = some ⟨oc4, od4, .func (PySem.W.fnOf "pieces_among" "pieces_among" (defArgs s_pieces_among) (defBody s_pieces_among) (defScope s_pieces_among) .none kV4 dc4 pm4 an4 cd4 ct4), sl4⟩) (c4 : PySem.W.codeIn K cd4 "pieces_among" = true) (k4 : PySem.W.keepIn K (.ref f4) = true)
    {f5 : Addr} {od5 an5 : Option Addr} {sl5 : Array (Option Value)} {oc5 kV5 dc5 pm5 cd5 ct5 : Value}
    (a5 : PySem.W.nsIn K mainGlobals "pieces_of" = some (some (.ref f5))) (l5 : K.lookup f5 = some ⟨oc5, od5, .func (PySem.W.fnOf "pieces_of" "pieces_of" (defArgs s_pieces_of) (defBody s_pieces_of) (defScope s_pieces_of) .none kV5 dc5 pm5 an5 cd5 ct5), sl5⟩) (c5 : PySem.W.codeIn K cd5 "pieces_of" = true) (k5 : PySem.W.keepIn K (.ref f5) = true)
    {f6 : Addr} {od6 an6 : Option Addr} {sl6 : Array (Option Value)} {oc6 kV6 dc6 pm6 cd6 ct6 : Value}
    (a6 : PySem.W.nsIn K mainGlobals "size_of" = some (some (.ref f6))) (l6 : K.lookup f6 = some ⟨oc6, od6, .func (PySem.W.fnOf "size_of" "size_of" (defArgs s_size_of) (defBody s_size_of) (defScope s_size_of) .none kV6 dc6 pm6 an6 cd6 ct6), sl6⟩) (c6 : PySem.W.codeIn K cd6 "size_of" = true) (k6 : PySem.W.keepIn K (.ref f6) = true)
    {f7 : Addr} {od7 an7 : Option Addr} {sl7 : Array (Option Value)} {oc7 kV7 dc7 pm7 cd7 ct7 : Value}
    (a7 : PySem.W.nsIn K mainGlobals "names_in" = some (some (.ref f7))) (l7 : K.lookup f7 = some ⟨oc7, od7, .func (PySem.W.fnOf "names_in" "names_in" (defArgs s_names_in) (defBody s_names_in) (defScope s_names_in) .none kV7 dc7 pm7 an7 cd7 ct7), sl7⟩) (c7 : PySem.W.codeIn K cd7 "names_in" = true) (k7 : PySem.W.keepIn K (.ref f7) = true)
    {f8 : Addr} {od8 an8 : Option Addr} {sl8 : Array (Option Value)} {oc8 kV8 dc8 pm8 cd8 ct8 : Value}
    (a8 : PySem.W.nsIn K mainGlobals "swapped" = some (some (.ref f8))) (l8 : K.lookup f8 = some ⟨oc8, od8, .func (PySem.W.fnOf "swapped" "swapped" (defArgs s_swapped) (defBody s_swapped) (defScope s_swapped) .none kV8 dc8 pm8 an8 cd8 ct8), sl8⟩) (c8 : PySem.W.codeIn K cd8 "swapped" = true) (k8 : PySem.W.keepIn K (.ref f8) = true)
    {f9 : Addr} {od9 an9 : Option Addr} {sl9 : Array (Option Value)} {oc9 kV9 dc9 pm9 cd9 ct9 : Value}
    (a9 : PySem.W.nsIn K mainGlobals "replaced" = some (some (.ref f9))) (l9 : K.lookup f9 = some ⟨oc9, od9, .func (PySem.W.fnOf "replaced" "replaced" (defArgs s_replaced) (defBody s_replaced) (defScope s_replaced) .none kV9 dc9 pm9 an9 cd9 ct9), sl9⟩) (c9 : PySem.W.codeIn K cd9 "replaced" = true) (k9 : PySem.W.keepIn K (.ref f9) = true)
    {f10 : Addr} {od10 an10 : Option Addr} {sl10 : Array (Option Value)} {oc10 kV10 dc10 pm10 cd10 ct10 : Value}
    (a10 : PySem.W.nsIn K mainGlobals "_law_deck" = some (some (.ref f10))) (l10 : K.lookup f10 = some ⟨oc10, od10, .func (PySem.W.fnOf "_law_deck" "_law_deck" (defArgs sDeck) (defBody sDeck) (defScope sDeck) .none kV10 dc10 pm10 an10 cd10 ct10), sl10⟩) (c10 : PySem.W.codeIn K cd10 "_law_deck" = true) (k10 : PySem.W.keepIn K (.ref f10) = true)
    {f11 : Addr} {od11 an11 : Option Addr} {sl11 : Array (Option Value)} {oc11 kV11 dc11 pm11 cd11 ct11 : Value}
    (a11 : PySem.W.nsIn K mainGlobals "_law_draw" = some (some (.ref f11))) (l11 : K.lookup f11 = some ⟨oc11, od11, .func (PySem.W.fnOf "_law_draw" "_law_draw" (defArgs sDraw) (defBody sDraw) (defScope sDraw) .none kV11 dc11 pm11 an11 cd11 ct11), sl11⟩) (c11 : PySem.W.codeIn K cd11 "_law_draw" = true) (k11 : PySem.W.keepIn K (.ref f11) = true)
    {f12 : Addr} {od12 an12 : Option Addr} {sl12 : Array (Option Value)} {oc12 kV12 dc12 pm12 cd12 ct12 : Value}
    (a12 : PySem.W.nsIn K mainGlobals "_law_pick" = some (some (.ref f12))) (l12 : K.lookup f12 = some ⟨oc12, od12, .func (PySem.W.fnOf "_law_pick" "_law_pick" (defArgs s_law_pick) (defBody s_law_pick) (defScope s_law_pick) .none kV12 dc12 pm12 an12 cd12 ct12), sl12⟩) (c12 : PySem.W.codeIn K cd12 "_law_pick" = true) (k12 : PySem.W.keepIn K (.ref f12) = true)
    {f13 : Addr} {od13 an13 : Option Addr} {sl13 : Array (Option Value)} {oc13 kV13 dc13 pm13 cd13 ct13 : Value}
    (a13 : PySem.W.nsIn K mainGlobals "_law_standard" = some (some (.ref f13))) (l13 : K.lookup f13 = some ⟨oc13, od13, .func (PySem.W.fnOf "_law_standard" "_law_standard" (defArgs s_law_standard) (defBody s_law_standard) (defScope s_law_standard) .none kV13 dc13 pm13 an13 cd13 ct13), sl13⟩) (c13 : PySem.W.codeIn K cd13 "_law_standard" = true) (k13 : PySem.W.keepIn K (.ref f13) = true)
    {f14 : Addr} {od14 an14 : Option Addr} {sl14 : Array (Option Value)} {oc14 kV14 dc14 pm14 cd14 ct14 : Value}
    (a14 : PySem.W.nsIn K mainGlobals "_law_need" = some (some (.ref f14))) (l14 : K.lookup f14 = some ⟨oc14, od14, .func (PySem.W.fnOf "_law_need" "_law_need" (defArgs s_law_need) (defBody s_law_need) (defScope s_law_need) .none kV14 dc14 pm14 an14 cd14 ct14), sl14⟩) (c14 : PySem.W.codeIn K cd14 "_law_need" = true) (k14 : PySem.W.keepIn K (.ref f14) = true)
    {f15 : Addr} {od15 an15 : Option Addr} {sl15 : Array (Option Value)} {oc15 kV15 dc15 pm15 cd15 ct15 : Value}
    (a15 : PySem.W.nsIn K mainGlobals "_law_plan" = some (some (.ref f15))) (l15 : K.lookup f15 = some ⟨oc15, od15, .func (PySem.W.fnOf "_law_plan" "_law_plan" (defArgs s_law_plan) (defBody s_law_plan) (defScope s_law_plan) .none kV15 dc15 pm15 an15 cd15 ct15), sl15⟩) (c15 : PySem.W.codeIn K cd15 "_law_plan" = true) (k15 : PySem.W.keepIn K (.ref f15) = true)
    {f16 : Addr} {od16 an16 : Option Addr} {sl16 : Array (Option Value)} {oc16 kV16 dc16 pm16 cd16 ct16 : Value}
    (a16 : PySem.W.nsIn K mainGlobals "_law_thing" = some (some (.ref f16))) (l16 : K.lookup f16 = some ⟨oc16, od16, .func (PySem.W.fnOf "_law_thing" "_law_thing" (defArgs s_law_thing) (defBody s_law_thing) (defScope s_law_thing) .none kV16 dc16 pm16 an16 cd16 ct16), sl16⟩) (c16 : PySem.W.codeIn K cd16 "_law_thing" = true) (k16 : PySem.W.keepIn K (.ref f16) = true)
    {f17 : Addr} {od17 an17 : Option Addr} {sl17 : Array (Option Value)} {oc17 kV17 dc17 pm17 cd17 ct17 : Value}
    (a17 : PySem.W.nsIn K mainGlobals "_law_text" = some (some (.ref f17))) (l17 : K.lookup f17 = some ⟨oc17, od17, .func (PySem.W.fnOf "_law_text" "_law_text" (defArgs s_law_text) (defBody s_law_text) (defScope s_law_text) .none kV17 dc17 pm17 an17 cd17 ct17), sl17⟩) (c17 : PySem.W.codeIn K cd17 "_law_text" = true) (k17 : PySem.W.keepIn K (.ref f17) = true)
    {f18 : Addr} {od18 an18 : Option Addr} {sl18 : Array (Option Value)} {oc18 kV18 dc18 pm18 cd18 ct18 : Value}
    (a18 : PySem.W.nsIn K mainGlobals "_law_in_order" = some (some (.ref f18))) (l18 : K.lookup f18 = some ⟨oc18, od18, .func (PySem.W.fnOf "_law_in_order" "_law_in_order" (defArgs s_law_in_order) (defBody s_law_in_order) (defScope s_law_in_order) .none kV18 dc18 pm18 an18 cd18 ct18), sl18⟩) (c18 : PySem.W.codeIn K cd18 "_law_in_order" = true) (k18 : PySem.W.keepIn K (.ref f18) = true)
    {f19 : Addr} {od19 an19 : Option Addr} {sl19 : Array (Option Value)} {oc19 kV19 dc19 pm19 cd19 ct19 : Value}
    (a19 : PySem.W.nsIn K mainGlobals "_law_pieces" = some (some (.ref f19))) (l19 : K.lookup f19 = some ⟨oc19, od19, .func (PySem.W.fnOf "_law_pieces" "_law_pieces" (defArgs s_law_pieces) (defBody s_law_pieces) (defScope s_law_pieces) .none kV19 dc19 pm19 an19 cd19 ct19), sl19⟩) (c19 : PySem.W.codeIn K cd19 "_law_pieces" = true) (k19 : PySem.W.keepIn K (.ref f19) = true)
    {f20 : Addr} {od20 an20 : Option Addr} {sl20 : Array (Option Value)} {oc20 kV20 dc20 pm20 cd20 ct20 : Value}
    (a20 : PySem.W.nsIn K mainGlobals "_law_is_name" = some (some (.ref f20))) (l20 : K.lookup f20 = some ⟨oc20, od20, .func (PySem.W.fnOf "_law_is_name" "_law_is_name" (defArgs s_law_is_name) (defBody s_law_is_name) (defScope s_law_is_name) .none kV20 dc20 pm20 an20 cd20 ct20), sl20⟩) (c20 : PySem.W.codeIn K cd20 "_law_is_name" = true) (k20 : PySem.W.keepIn K (.ref f20) = true)
    {f21 : Addr} {od21 an21 : Option Addr} {sl21 : Array (Option Value)} {oc21 kV21 dc21 pm21 cd21 ct21 : Value}
    (a21 : PySem.W.nsIn K mainGlobals "_law_put" = some (some (.ref f21))) (l21 : K.lookup f21 = some ⟨oc21, od21, .func (PySem.W.fnOf "_law_put" "_law_put" (defArgs s_law_put) (defBody s_law_put) (defScope s_law_put) .none kV21 dc21 pm21 an21 cd21 ct21), sl21⟩) (c21 : PySem.W.codeIn K cd21 "_law_put" = true) (k21 : PySem.W.keepIn K (.ref f21) = true)
    {f22 : Addr} {od22 an22 : Option Addr} {sl22 : Array (Option Value)} {oc22 kV22 dc22 pm22 cd22 ct22 : Value}
    (a22 : PySem.W.nsIn K mainGlobals "_law_right" = some (some (.ref f22))) (l22 : K.lookup f22 = some ⟨oc22, od22, .func (PySem.W.fnOf "_law_right" "_law_right" (defArgs s_law_right) (defBody s_law_right) (defScope s_law_right) .none kV22 dc22 pm22 an22 cd22 ct22), sl22⟩) (c22 : PySem.W.codeIn K cd22 "_law_right" = true) (k22 : PySem.W.keepIn K (.ref f22) = true)
    {f23 : Addr} {od23 an23 : Option Addr} {sl23 : Array (Option Value)} {oc23 kV23 dc23 pm23 cd23 ct23 : Value}
    (a23 : PySem.W.nsIn K mainGlobals "_law_put_right" = some (some (.ref f23))) (l23 : K.lookup f23 = some ⟨oc23, od23, .func (PySem.W.fnOf "_law_put_right" "_law_put_right" (defArgs s_law_put_right) (defBody s_law_put_right) (defScope s_law_put_right) .none kV23 dc23 pm23 an23 cd23 ct23), sl23⟩) (c23 : PySem.W.codeIn K cd23 "_law_put_right" = true) (k23 : PySem.W.keepIn K (.ref f23) = true)
    {f24 : Addr} {od24 an24 : Option Addr} {sl24 : Array (Option Value)} {oc24 kV24 dc24 pm24 cd24 ct24 : Value}
    (a24 : PySem.W.nsIn K mainGlobals "law" = some (some (.ref f24))) (l24 : K.lookup f24 = some ⟨oc24, od24, .func (PySem.W.fnOf "law" "law" (defArgs s_law) (defBody s_law) (defScope s_law) .none kV24 dc24 pm24 an24 cd24 ct24), sl24⟩) (c24 : PySem.W.codeIn K cd24 "law" = true) (k24 : PySem.W.keepIn K (.ref f24) = true)
    (z_dict : PySem.W.nsIn K mainGlobals "dict" = some none)
    (z_int : PySem.W.nsIn K mainGlobals "int" = some none)
    (z_isinstance : PySem.W.nsIn K mainGlobals "isinstance" = some none)
    (z_len : PySem.W.nsIn K mainGlobals "len" = some none)
    (z_list : PySem.W.nsIn K mainGlobals "list" = some none)
    (z_range : PySem.W.nsIn K mainGlobals "range" = some none)
    (z_repr : PySem.W.nsIn K mainGlobals "repr" = some none)
    (z_sorted : PySem.W.nsIn K mainGlobals "sorted" = some none)
    (z_str : PySem.W.nsIn K mainGlobals "str" = some none)
    (z_tuple : PySem.W.nsIn K mainGlobals "tuple" = some none)
    (z_zip : PySem.W.nsIn K mainGlobals "zip" = some none)
    {t_LONGEST : Tok} (v_LONGEST : PySem.W.nsIn K mainGlobals "LONGEST" = some (some (.int 8 t_LONGEST)))
    : ∃ fd : FuncData, (∀ (s : Shared) (v : Value), BindsTo s fd ⟨[v], []⟩ [("_law_script", v)]) ∧ ∀ base : Heap, K.In base → base.Ns mainGlobals mg → FnG l.prog w K mg base 9 fa fd ["_law_script"] (spLaw K) := by
  have e := hfa.symm.trans (PySem.W.mg_of X G a24)
  cases e
  have F0 := fun_mk (st := s_is_name) l0 c0 k0
  have B0 := F0.binds (ps := ["thing"]) fun _ _ _ _ _ _ us hl => match us, hl with | [_], _ => rfl
  have F1 := fun_mk (st := s_walk) l1 c1 k1
  have B1 := F1.binds (ps := ["thing"]) fun _ _ _ _ _ _ us hl => match us, hl with | [_], _ => rfl
  have F2 := fun_mk (st := s_texts_of) l2 c2 k2
  have B2 := F2.binds (ps := ["pieces"]) fun _ _ _ _ _ _ us hl => match us, hl with | [_], _ => rfl
  have F3 := fun_mk (st := s_text_of) l3 c3 k3
  have B3 := F3.binds (ps := ["thing"]) fun _ _ _ _ _ _ us hl => match us, hl with | [_], _ => rfl
  have F4 := fun_mk (st := s_pieces_among) l4 c4 k4
  have B4 := F4.binds (ps := ["things"]) fun _ _ _ _ _ _ us hl => match us, hl with | [_], _ => rfl
  have F5 := fun_mk (st := s_pieces_of) l5 c5 k5
  have B5 := F5.binds (ps := ["thing"]) fun _ _ _ _ _ _ us hl => match us, hl with | [_], _ => rfl
  have F6 := fun_mk (st := s_size_of) l6 c6 k6
  have B6 := F6.binds (ps := ["thing"]) fun _ _ _ _ _ _ us hl => match us, hl with | [_], _ => rfl
  have F7 := fun_mk (st := s_names_in) l7 c7 k7
  have B7 := F7.binds (ps := ["thing"]) fun _ _ _ _ _ _ us hl => match us, hl with | [_], _ => rfl
  have F8 := fun_mk (st := s_swapped) l8 c8 k8
  have B8 := F8.binds (ps := ["thing", "table"]) fun _ _ _ _ _ _ us hl => match us, hl with | [_, _], _ => rfl
  have F9 := fun_mk (st := s_replaced) l9 c9 k9
  have B9 := F9.binds (ps := ["thing", "name", "other"]) fun _ _ _ _ _ _ us hl => match us, hl with | [_, _, _], _ => rfl
  have F10 := fun_mk (st := sDeck) l10 c10 k10
  have B10 := F10.binds (ps := ["_law_script"]) fun _ _ _ _ _ _ us hl => match us, hl with | [_], _ => rfl
  have F11 := fun_mk (st := sDraw) l11 c11 k11
  have B11 := F11.binds (ps := ["_law_deck_here", "_law_many"]) fun _ _ _ _ _ _ us hl => match us, hl with | [_, _], _ => rfl
  have F12 := fun_mk (st := s_law_pick) l12 c12 k12
  have B12 := F12.binds (ps := ["_law_deck_here", "_law_some"]) fun _ _ _ _ _ _ us hl => match us, hl with | [_, _], _ => rfl
  have F13 := fun_mk (st := s_law_standard) l13 c13 k13
  have B13 := F13.binds (ps := []) fun _ _ _ _ _ _ us hl => match us, hl with | [], _ => rfl
  have F14 := fun_mk (st := s_law_need) l14 c14 k14
  have B14 := F14.binds (ps := ["_law_deck_here", "_law_kinds", "_law_many"]) fun _ _ _ _ _ _ us hl => match us, hl with | [_, _, _], _ => rfl
  have F15 := fun_mk (st := s_law_plan) l15 c15 k15
  have B15 := F15.binds (ps := ["_law_deck_here"]) fun _ _ _ _ _ _ us hl => match us, hl with | [_], _ => rfl
  have F16 := fun_mk (st := s_law_thing) l16 c16 k16
  have B16 := F16.binds (ps := ["_law_deck_here", "_law_w", "_law_deep"]) fun _ _ _ _ _ _ us hl => match us, hl with | [_, _, _], _ => rfl
  have F17 := fun_mk (st := s_law_text) l17 c17 k17
  have B17 := F17.binds (ps := ["_law_it"]) fun _ _ _ _ _ _ us hl => match us, hl with | [_], _ => rfl
  have F18 := fun_mk (st := s_law_in_order) l18 c18 k18
  have B18 := F18.binds (ps := ["_law_some"]) fun _ _ _ _ _ _ us hl => match us, hl with | [_], _ => rfl
  have F19 := fun_mk (st := s_law_pieces) l19 c19 k19
  have B19 := F19.binds (ps := ["_law_it"]) fun _ _ _ _ _ _ us hl => match us, hl with | [_], _ => rfl
  have F20 := fun_mk (st := s_law_is_name) l20 c20 k20
  have B20 := F20.binds (ps := ["_law_it"]) fun _ _ _ _ _ _ us hl => match us, hl with | [_], _ => rfl
  have F21 := fun_mk (st := s_law_put) l21 c21 k21
  have B21 := F21.binds (ps := ["_law_it", "_law_name", "_law_other"]) fun _ _ _ _ _ _ us hl => match us, hl with | [_, _, _], _ => rfl
  have F22 := fun_mk (st := s_law_right) l22 c22 k22
  have B22 := F22.binds (ps := ["_law_it"]) fun _ _ _ _ _ _ us hl => match us, hl with | [_], _ => rfl
  have F23 := fun_mk (st := s_law_put_right) l23 c23 k23
  have B23 := F23.binds (ps := ["_law_it", "_law_name", "_law_other"]) fun _ _ _ _ _ _ us hl => match us, hl with | [_, _, _], _ => rfl
  have W : Txt K mg :=
    { b_dict := PySem.W.mg_none_of X G z_dict
      b_int := PySem.W.mg_none_of X G z_int
      b_isinstance := PySem.W.mg_none_of X G z_isinstance
      b_len := PySem.W.mg_none_of X G z_len
      b_list := PySem.W.mg_none_of X G z_list
      b_range := PySem.W.mg_none_of X G z_range
      b_repr := PySem.W.mg_none_of X G z_repr
      b_sorted := PySem.W.mg_none_of X G z_sorted
      b_str := PySem.W.mg_none_of X G z_str
      b_tuple := PySem.W.mg_none_of X G z_tuple
      b_zip := PySem.W.mg_none_of X G z_zip
      c_LONGEST := ⟨_, PySem.W.mg_of X G v_LONGEST⟩
      d_is_name := ⟨_, _, F0, PySem.W.mg_of X G a0, B0⟩
      d_walk := ⟨_, _, F1, PySem.W.mg_of X G a1, B1⟩
      d_texts_of := ⟨_, _, F2, PySem.W.mg_of X G a2, B2⟩
      d_text_of := ⟨_, _, F3, PySem.W.mg_of X G a3, B3⟩
      d_pieces_among := ⟨_, _, F4, PySem.W.mg_of X G a4, B4⟩
      d_pieces_of := ⟨_, _, F5, PySem.W.mg_of X G a5, B5⟩
      d_size_of := ⟨_, _, F6, PySem.W.mg_of X G a6, B6⟩
      d_names_in := ⟨_, _, F7, PySem.W.mg_of X G a7, B7⟩
      d_swapped := ⟨_, _, F8, PySem.W.mg_of X G a8, B8⟩
      d_replaced := ⟨_, _, F9, PySem.W.mg_of X G a9, B9⟩
      d_law_deck := ⟨_, _, F10, PySem.W.mg_of X G a10, B10⟩
      d_law_draw := ⟨_, _, F11, PySem.W.mg_of X G a11, B11⟩
      d_law_pick := ⟨_, _, F12, PySem.W.mg_of X G a12, B12⟩
      d_law_standard := ⟨_, _, F13, PySem.W.mg_of X G a13, B13⟩
      d_law_need := ⟨_, _, F14, PySem.W.mg_of X G a14, B14⟩
      d_law_plan := ⟨_, _, F15, PySem.W.mg_of X G a15, B15⟩
      d_law_thing := ⟨_, _, F16, PySem.W.mg_of X G a16, B16⟩
      d_law_text := ⟨_, _, F17, PySem.W.mg_of X G a17, B17⟩
      d_law_in_order := ⟨_, _, F18, PySem.W.mg_of X G a18, B18⟩
      d_law_pieces := ⟨_, _, F19, PySem.W.mg_of X G a19, B19⟩
      d_law_is_name := ⟨_, _, F20, PySem.W.mg_of X G a20, B20⟩
      d_law_put := ⟨_, _, F21, PySem.W.mg_of X G a21, B21⟩
      d_law_right := ⟨_, _, F22, PySem.W.mg_of X G a22, B22⟩
      d_law_put_right := ⟨_, _, F23, PySem.W.mg_of X G a23, B23⟩ }
  exact ⟨PySem.W.fnOf "law" "law" (defArgs s_law) (defBody s_law) (defScope s_law) .none kV24 dc24 pm24 an24 cd24 ct24, fun s v => .of_eq rfl, fun base _ _ => ok_law W (fun_mk (st := s_law) l24 c24 k24)⟩
end L2.TL
open PySem PySem.W PyProof.Rows in
set_option maxRecDepth 100000 in
set_option maxHeartbeats 0 in
theorem PySem.Challenge.cw_circlekeep_k03_pieces_texts_names_holds : PySem.Challenge.rw_circlekeep_k03_pieces_texts_names.Holds := by
  w_on; o_law; k_head; (case hw => w_witness2)
  k_fill
  refine L2.TL.walk_g (l := PySem.Challenge.rw_circlekeep_k03_pieces_texts_names) (n := 63) (k := 9) (x := "_law_script") (sp := L2.TL.spLaw) rfl (by decide) rfl ⟨rfl, by decide, by decide⟩ (fun w h Y => PySem.W.kIn_of Y) ?F (fun _ _ a ns hl _ hS => ⟨a, ns, rfl, hS, hl, fun _ => rfl⟩)
  case F =>
    intro w mg fa h KX G hmg
    refine' L2.TL.all_mk KX G hmg ?a0 ?l0 ?c0 ?k0 ?a1 ?l1 ?c1 ?k1 ?a2 ?l2 ?c2 ?k2 ?a3 ?l3 ?c3 ?k3 ?a4 ?l4 ?c4 ?k4 ?a5 ?l5 ?c5 ?k5 ?a6 ?l6 ?c6 ?k6 ?a7 ?l7 ?c7 ?k7 ?a8 ?l8 ?c8 ?k8 ?a9 ?l9 ?c9 ?k9 ?a10 ?l10 ?c10 ?k10 ?a11 ?l11 ?c11 ?k11 ?a12 ?l12 ?c12 ?k12 ?a13 ?l13 ?c13 ?k13 ?a14 ?l14 ?c14 ?k14 ?a15 ?l15 ?c15 ?k15 ?a16 ?l16 ?c16 ?k16 ?a17 ?l17 ?c17 ?k17 ?a18 ?l18 ?c18 ?k18 ?a19 ?l19 ?c19 ?k19 ?a20 ?l20 ?c20 ?k20 ?a21 ?l21 ?c21 ?k21 ?a22 ?l22 ?c22 ?k22 ?a23 ?l23 ?c23 ?k23 ?a24 ?l24 ?c24 ?k24 ?z_dict ?z_int ?z_isinstance ?z_len ?z_list ?z_range ?z_repr ?z_sorted ?z_str ?z_tuple ?z_zip ?v_LONGEST
    (case a0 => k_is)
    (case l0 => k_is)
    (case c0 => k_is)
    (case k0 => k_is)
    (case a1 => k_is)
    (case l1 => k_is)
    (case c1 => k_is)
    (case k1 => k_is)
    (case a2 => k_is)
    (case l2 => k_is)
    (case c2 => k_is)
    (case k2 => k_is)
    (case a3 => k_is)
    (case l3 => k_is)
    (case c3 => k_is)
    (case k3 => k_is)
    (case a4 => k_is)
    (case l4 => k_is)
    (case c4 => k_is)
    (case k4 => k_is)
    (case a5 => k_is)
    (case l5 => k_is)
    (case c5 => k_is)
    (case k5 => k_is)
    (case a6 => k_is)
    (case l6 => k_is)
    (case c6 => k_is)
    (case k6 => k_is)
    (case a7 => k_is)
    (case l7 => k_is)
    (case c7 => k_is)
    (case k7 => k_is)
    (case a8 => k_is)
    (case l8 => k_is)
    (case c8 => k_is)
    (case k8 => k_is)
    (case a9 => k_is)
    (case l9 => k_is)
    (case c9 => k_is)
    (case k9 => k_is)
    (case a10 => k_is)
    (case l10 => k_is)
    (case c10 => k_is)
    (case k10 => k_is)
    (case a11 => k_is)
    (case l11 => k_is)
    (case c11 => k_is)
    (case k11 => k_is)
    (case a12 => k_is)
    (case l12 => k_is)
    (case c12 => k_is)
    (case k12 => k_is)
    (case a13 => k_is)
    (case l13 => k_is)
    (case c13 => k_is)
    (case k13 => k_is)
    (case a14 => k_is)
    (case l14 => k_is)
    (case c14 => k_is)
    (case k14 => k_is)
    (case a15 => k_is)
    (case l15 => k_is)
    (case c15 => k_is)
    (case k15 => k_is)
    (case a16 => k_is)
    (case l16 => k_is)
    (case c16 => k_is)
    (case k16 => k_is)
    (case a17 => k_is)
    (case l17 => k_is)
    (case c17 => k_is)
    (case k17 => k_is)
    (case a18 => k_is)
    (case l18 => k_is)
    (case c18 => k_is)
    (case k18 => k_is)
    (case a19 => k_is)
    (case l19 => k_is)
    (case c19 => k_is)
    (case k19 => k_is)
    (case a20 => k_is)
    (case l20 => k_is)
    (case c20 => k_is)
    (case k20 => k_is)
    (case a21 => k_is)
    (case l21 => k_is)
    (case c21 => k_is)
    (case k21 => k_is)
    (case a22 => k_is)
    (case l22 => k_is)
    (case c22 => k_is)
    (case k22 => k_is)
    (case a23 => k_is)
    (case l23 => k_is)
    (case c23 => k_is)
    (case k23 => k_is)
    (case a24 => k_is)
    (case l24 => k_is)
    (case c24 => k_is)
    (case k24 => k_is)
    (case z_dict => k_is)
    (case z_int => k_is)
    (case z_isinstance => k_is)
    (case z_len => k_is)
    (case z_list => k_is)
    (case z_range => k_is)
    (case z_repr => k_is)
    (case z_sorted => k_is)
    (case z_str => k_is)
    (case z_tuple => k_is)
    (case z_zip => k_is)
    (case v_LONGEST => k_is)
