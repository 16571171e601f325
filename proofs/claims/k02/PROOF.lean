import PyProof.Rows.All
import Wide.All
import OpenK.AllK
import Wide.FinOn
import HandS.ForMost
import HandS.IsInst
import HandS.StrMore
import HandS.TupAny
import HandS.Flow
import HandS.Style
import HandS.FStr
import PySem.Challenge.RW_circlekeep_k02_words_and_names_of_any_va
import PyProof.StrLawsRepr
set_option Elab.async false
set_option linter.all false
set_option maxRecDepth 100000
set_option maxHeartbeats 4000000
set_option autoImplicit false
/-! TL0: trees, what stands for a tree, the state of a body told by trees. -/
namespace L2.TL
open PySem PySem.Spec
open PyProof.Rows
/-- what a value is, without places -/
inductive T where
  | non | bl (b : Bool) | int (i : Int) | str (x : Str)
  | tup (ts : List T) | lst (ts : List T) | dct (ps : List (Key × T)) | ins (C : Addr) (fs : List (Str × T)) | adr (a : Addr)
mutual
/-- the value v stands for the tree, all its parts lying in the lasting heap I -/
def Is (K : PySem.W.Frag) (I : Hp) : T → V → Prop
  | .non, v => v = .non
  | .bl b, v => v = .bl b
  | .int i, v => v = .int i
  | .str x, v => v = .str x
  | .tup ts, v => ∃ a xs, v = .ref a ∧ SqT K I a xs ∧ IsL K I ts xs
  | .lst ts, v => ∃ a xs, v = .ref a ∧ I a = some (.lst xs) ∧ IsL K I ts xs
  | .dct ps, v => ∃ a xs, v = .ref a ∧ I a = some (.dK xs) ∧ IsD K I ps xs
  | .ins C fs, v => ∃ a dx xs, v = .ref a ∧ I a = some (.ins C dx xs) ∧ IsF K I fs xs
  | .adr a, v => v = .ref a
def IsL (K : PySem.W.Frag) (I : Hp) : List T → List V → Prop
  | [], xs => xs = []
  | t :: ts, xs => ∃ x r, xs = x :: r ∧ Is K I t x ∧ IsL K I ts r
def IsD (K : PySem.W.Frag) (I : Hp) : List (Key × T) → List (Key × V) → Prop
  | [], xs => xs = []
  | (k, t) :: ts, xs => ∃ x r, xs = (k, x) :: r ∧ Is K I t x ∧ IsD K I ts r
def IsF (K : PySem.W.Frag) (I : Hp) : List (Str × T) → List (Str × V) → Prop
  | [], xs => xs = []
  | (k, t) :: ts, xs => ∃ x r, xs = (k, x) :: r ∧ Is K I t x ∧ IsF K I ts r
end
theorem sqt_mono {K : PySem.W.Frag} {I I' : Hp} {a : Addr} {xs : List V} (m : Same I I') (h : SqT K I a xs) : SqT K I' a xs := by
  rcases h with (h | ⟨o, h⟩) | h
  · exact .inl (.inl (m _ _ h))
  · exact .inl (.inr ⟨o, m _ _ h⟩)
  · exact .inr h
section
variable {K : PySem.W.Frag} {I I' : Hp}
mutual
theorem Is.mono (m : Same I I') : ∀ {t : T} {v : V}, Is K I t v → Is K I' t v
  | .non, _, h => h
  | .bl _, _, h => h
  | .int _, _, h => h
  | .str _, _, h => h
  | .tup _, _, h => by
    obtain ⟨a, xs, e, q, r⟩ := h
    exact ⟨a, xs, e, sqt_mono m q, IsL.mono m r⟩
  | .lst _, _, h => by
    obtain ⟨a, xs, e, q, r⟩ := h
    exact ⟨a, xs, e, m _ _ q, IsL.mono m r⟩
  | .dct _, _, h => by
    obtain ⟨a, xs, e, q, r⟩ := h
    exact ⟨a, xs, e, m _ _ q, IsD.mono m r⟩
  | .ins _ _, _, h => by
    obtain ⟨a, dx, xs, e, q, r⟩ := h
    exact ⟨a, dx, xs, e, m _ _ q, IsF.mono m r⟩
  | .adr _, _, h => h
theorem IsL.mono (m : Same I I') : ∀ {ts : List T} {xs : List V}, IsL K I ts xs → IsL K I' ts xs
  | [], _, h => h
  | _ :: _, _, h => by
    obtain ⟨x, r, e, q, z⟩ := h
    exact ⟨x, r, e, Is.mono m q, IsL.mono m z⟩
theorem IsD.mono (m : Same I I') : ∀ {ts : List (Key × T)} {xs : List (Key × V)}, IsD K I ts xs → IsD K I' ts xs
  | [], _, h => h
  | (_, _) :: _, _, h => by
    obtain ⟨x, r, e, q, z⟩ := h
    exact ⟨x, r, e, Is.mono m q, IsD.mono m z⟩
theorem IsF.mono (m : Same I I') : ∀ {ts : List (Str × T)} {xs : List (Str × V)}, IsF K I ts xs → IsF K I' ts xs
  | [], _, h => h
  | (_, _) :: _, _, h => by
    obtain ⟨x, r, e, q, z⟩ := h
    exact ⟨x, r, e, Is.mono m q, IsF.mono m z⟩
end
theorem IsL.nil : IsL K I [] [] := by
  show ([] : List V) = []
  rfl
theorem IsL.cons {t : T} {ts : List T} {x : V} {xs : List V} (h : Is K I t x) (r : IsL K I ts xs) : IsL K I (t :: ts) (x :: xs) := ⟨x, xs, rfl, h, r⟩
theorem IsL.len : ∀ {ts : List T} {xs : List V}, IsL K I ts xs → xs.length = ts.length
  | [], _, h => by
    have h : _ = [] := h
    rw [h]; rfl
  | _ :: _, _, h => by
    obtain ⟨x, r, rfl, _, z⟩ := h
    rw [List.length_cons, List.length_cons, IsL.len z]
theorem IsL.app : ∀ {ts us : List T} {xs ys : List V}, IsL K I ts xs → IsL K I us ys → IsL K I (ts ++ us) (xs ++ ys)
  | [], _, _, _, h, g => by
    have h : _ = [] := h
    subst h
    exact g
  | _ :: _, _, _, _, h, g => by
    obtain ⟨x, r, rfl, q, z⟩ := h
    exact ⟨x, _, rfl, q, IsL.app z g⟩
theorem IsL.at : ∀ {ts : List T} {xs : List V} {i : Nat} {t : T}, IsL K I ts xs → ts[i]? = some t → ∃ x, xs[i]? = some x ∧ Is K I t x
  | [], _, _, _, _, e => by simp at e
  | _ :: _, _, 0, _, h, e => by
    obtain ⟨x, r, rfl, q, z⟩ := h
    simp at e
    subst e
    exact ⟨x, rfl, q⟩
  | _ :: _, _, i + 1, _, h, e => by
    obtain ⟨x, r, rfl, q, z⟩ := h
    obtain ⟨y, e1, e2⟩ := IsL.at (i := i) z (by simpa using e)
    exact ⟨y, by simpa using e1, e2⟩
theorem IsL.atV {ts : List T} {xs : List V} {i : Nat} {x : V} (h : IsL K I ts xs) (e : xs[i]? = some x) : ∃ t, ts[i]? = some t ∧ Is K I t x := by
  have hi : i < ts.length := by
    rw [← h.len]
    exact (List.getElem?_eq_some_iff.mp e).1
  obtain ⟨y, e1, e2⟩ := h.at (List.getElem?_eq_getElem hi)
  rw [e] at e1
  cases e1
  exact ⟨_, List.getElem?_eq_getElem hi, e2⟩
theorem IsL.take : ∀ {ts : List T} {xs : List V} (n : Nat), IsL K I ts xs → IsL K I (ts.take n) (xs.take n)
  | _, _, 0, _ => by
    simp only [List.take_zero]
    exact IsL.nil
  | [], _, _ + 1, h => by
    have h : _ = [] := h
    subst h
    exact IsL.nil
  | _ :: _, _, n + 1, h => by
    obtain ⟨x, r, rfl, q, z⟩ := h
    exact ⟨x, _, rfl, q, IsL.take n z⟩
theorem IsL.drop : ∀ {ts : List T} {xs : List V} (n : Nat), IsL K I ts xs → IsL K I (ts.drop n) (xs.drop n)
  | _, _, 0, h => h
  | [], _, _ + 1, h => by
    have h : _ = [] := h
    subst h
    exact IsL.nil
  | _ :: _, _, n + 1, h => by
    obtain ⟨x, r, rfl, q, z⟩ := h
    exact IsL.drop n z
theorem IsL.dropLast {ts : List T} {xs : List V} (h : IsL K I ts xs) : IsL K I ts.dropLast xs.dropLast := by
  rw [List.dropLast_eq_take, List.dropLast_eq_take, h.len]
  exact h.take _
theorem IsL.rev : ∀ {ts : List T} {xs : List V}, IsL K I ts xs → IsL K I ts.reverse xs.reverse
  | [], _, h => by
    have h : _ = [] := h
    subst h
    exact IsL.nil
  | _ :: _, _, h => by
    obtain ⟨x, r, rfl, q, z⟩ := h
    rw [List.reverse_cons, List.reverse_cons]
    exact IsL.app (IsL.rev z) (IsL.cons q IsL.nil)
theorem IsL.erase : ∀ {ts : List T} {xs : List V} (n : Nat), IsL K I ts xs → IsL K I (ts.eraseIdx n) (xs.eraseIdx n)
  | [], _, _, h => by
    have h : _ = [] := h
    subst h
    exact IsL.nil
  | _ :: _, _, 0, h => by
    obtain ⟨x, r, rfl, q, z⟩ := h
    exact z
  | _ :: _, _, n + 1, h => by
    obtain ⟨x, r, rfl, q, z⟩ := h
    exact ⟨x, _, rfl, q, IsL.erase n z⟩
theorem IsL.strs : ∀ {ss : List Str} {xs : List V}, IsL K I (ss.map T.str) xs → xs = ss.map V.str
  | [], _, h => h
  | _ :: _, _, h => by
    obtain ⟨x, r, rfl, q, z⟩ := h
    have q : x = _ := q
    subst q
    rw [IsL.strs z]
    rfl
theorem IsL.ofStrs : ∀ (ss : List Str), IsL K I (ss.map T.str) (ss.map V.str)
  | [] => IsL.nil
  | _ :: ss => IsL.cons rfl (IsL.ofStrs ss)
theorem IsL.one {t : T} {xs : List V} (h : IsL K I [t] xs) : ∃ x, xs = [x] ∧ Is K I t x := by
  obtain ⟨x, r, rfl, q, z⟩ := h
  have z : r = [] := z
  subst z
  exact ⟨x, rfl, q⟩
theorem IsL.two {t u : T} {xs : List V} (h : IsL K I [t, u] xs) : ∃ x y, xs = [x, y] ∧ Is K I t x ∧ Is K I u y := by
  obtain ⟨x, r, rfl, q, z⟩ := h
  obtain ⟨y, rfl, q2⟩ := z.one
  exact ⟨x, y, rfl, q, q2⟩
theorem IsL.zero {xs : List V} (h : IsL K I [] xs) : xs = [] := h
/-- what an object holds, by its tree -/
def Cn (K : PySem.W.Frag) (I : Hp) (t : T) (o : HO) : Prop :=
  match t, o with
  | .lst ts, .lst xs => IsL K I ts xs
  | .dct ps, .dK xs => IsD K I ps xs
  | .ins C fs, .ins C' _ xs => C = C' ∧ IsF K I fs xs
  | _, _ => False
theorem Cn.mono (m : Same I I') {t : T} {o : HO} (h : Cn K I t o) : Cn K I' t o := by
  cases t <;> cases o <;> first | exact h.elim | exact IsL.mono m h | exact IsD.mono m h | exact ⟨h.1, IsF.mono m h.2⟩
/-- an object that lasts from now on stands for its tree -/
theorem Cn.is {t : T} {o : HO} {a : Addr} (h : Cn K I t o) (e : I a = some o) : Is K I t (.ref a) := by
  cases t <;> cases o <;> first
    | exact h.elim
    | exact ⟨a, _, rfl, e, h⟩
    | (obtain ⟨rfl, h⟩ := h; exact ⟨a, _, _, rfl, e, h⟩)
theorem Cn.lst {ts : List T} {o : HO} (h : Cn K I (.lst ts) o) : ∃ xs, o = .lst xs ∧ IsL K I ts xs := by
  cases o <;> first | exact h.elim | exact ⟨_, rfl, h⟩
end
/-! ### the state -/
/-- what stands in a slot: nothing known; a lasting tree; an object that is this slot's alone -/
inductive SV where
  | un | im (t : T) | ow (t : T)
/-- a resource that is handed on (a deck, a ledger): its states, the places that it owns, what stands there -/
structure Res where
  S : Type
  F : Addr → Prop
  R : S → Hp → Hp → Prop
  dom : ∀ s I H p, R s I H → F p → ∃ o, H p = some o
  loc : ∀ s I H I' H', R s I H → Same I I' → (∀ p, F p → H' p = H p) → R s I' H'
/-- none -/
def Z0 : Res where
  S := Unit
  F := fun _ => False
  R := fun _ _ _ => True
  dom := fun _ _ _ _ _ h => h.elim
  loc := fun _ _ _ _ _ _ _ _ => trivial
/-- the lasting heap I within H; G: what others own, left alone -/
structure Rep0 (Z : Res) (G I H : Hp) (s : Z.S) : Prop where
  sub : Same I H
  res : Z.R s I H
  rf : ∀ p, Z.F p → I p = none ∧ G p = none
  fr : ∀ p o, G p = some o → I p = none ∧ H p = some o
structure Rep (K : PySem.W.Frag) (Z : Res) (G I H : Hp) (σ : St) (τ : List SV) (s : Z.S) : Prop extends Rep0 Z G I H s where
  len : σ.length = τ.length
  im : ∀ (i : Nat) (t : T), τ[i]? = some (SV.im t) → ∃ v : V, σ[i]? = some (some v) ∧ Is K I t v
  ow : ∀ (i : Nat) (t : T), τ[i]? = some (SV.ow t) → ∃ (p : Addr) (o : HO), σ[i]? = some (some (V.ref p)) ∧ I p = none ∧ G p = none ∧ ¬ Z.F p ∧ H p = some o ∧ Cn K I t o
  inj : ∀ (i j : Nat) (t u : T) (p : Addr), i ≠ j → τ[i]? = some (SV.ow t) → τ[j]? = some (SV.ow u) → σ[i]? = some (some (V.ref p)) → σ[j]? ≠ some (some (V.ref p))
/-- what a step does to heaps: the lasting one grows, what is owned (but the resource's) stands -/
structure Ext (F : Addr → Prop) (I H I' H' : Hp) : Prop where
  im : Same I I'
  sub : Same I' H'
  own : ∀ p o, I p = none → ¬ F p → H p = some o → I' p = none ∧ H' p = some o
  nof : ∀ p, F p → I p = none → I' p = none
theorem Ext.refl {F : Addr → Prop} {I H : Hp} (h : Same I H) : Ext F I H I H := ⟨Same.refl _, h, fun _ _ a _ b => ⟨a, b⟩, fun _ _ h => h⟩
theorem Ext.trans {F : Addr → Prop} {I H I1 H1 I2 H2 : Hp} (a : Ext F I H I1 H1) (b : Ext F I1 H1 I2 H2) : Ext F I H I2 H2 :=
  ⟨a.im.trans b.im, b.sub, fun p o h1 h2 h3 => let ⟨q1, q2⟩ := a.own p o h1 h2 h3; b.own p o q1 h2 q2, fun p h1 h2 => b.nof p h1 (a.nof p h1 h2)⟩
section
variable {K : PySem.W.Frag} {Z : Res} {G I H I' H' : Hp} {σ : St} {τ : List SV} {s s' : Z.S}
theorem Rep0.ext (r : Rep0 Z G I H s) (e : Ext Z.F I H I' H') (q : Z.R s' I' H') : Rep0 Z G I' H' s' :=
  ⟨e.sub, q, fun p hp => ⟨e.nof p hp (r.rf p hp).1, (r.rf p hp).2⟩, fun p o hp => by
    have nf : ¬ Z.F p := fun z => by
      rw [(r.rf p z).2] at hp
      cases hp
    obtain ⟨a, b⟩ := r.fr p o hp
    exact e.own p o a nf b⟩
theorem Rep.ext (r : Rep K Z G I H σ τ s) (e : Ext Z.F I H I' H') (q : Z.R s' I' H') : Rep K Z G I' H' σ τ s' := by
  refine ⟨r.toRep0.ext e q, r.len, fun i t h => ?_, fun i t h => ?_, r.inj⟩
  · obtain ⟨v, h1, h2⟩ := r.im i t h
    exact ⟨v, h1, h2.mono e.im⟩
  · obtain ⟨p, o, h1, h2, h3, h4, h5, h6⟩ := r.ow i t h
    obtain ⟨a, b⟩ := e.own p o h2 h4 h5
    exact ⟨p, o, h1, a, h3, h4, b, h6.mono e.im⟩
/-- nothing of the resource is touched -/
theorem Rep.extN (r : Rep K Z G I H σ τ s) (e : Ext (fun _ => False) I H I' H') : Rep K Z G I' H' σ τ s := by
  have hF : ∀ p, Z.F p → I' p = none ∧ H' p = H p := fun p hp => by
    obtain ⟨o, ho⟩ := Z.dom s I H p r.res hp
    obtain ⟨a, b⟩ := e.own p o (r.rf p hp).1 (fun z => z) ho
    exact ⟨a, by rw [b, ho]⟩
  exact r.ext ⟨e.im, e.sub, fun p o a _ b => e.own p o a (fun z => z) b, fun p hp _ => (hF p hp).1⟩ (Z.loc s I H I' H' r.res e.im fun p hp => (hF p hp).2)
theorem Rep.ext' (r : Rep K Z G I H σ τ s) (e : Ext Z.F I H I' H') (q : Z.R s' I' H') : Same I I' ∧ Rep K Z G I' H' σ τ s' := ⟨e.im, r.ext e q⟩
/-- a new object, lasting -/
theorem ext_new {F : Addr → Prop} {p : Addr} {o : HO} (hs : Same I H) (hp : H p = none) (hF : ¬ F p) : Ext F I H (upd I p o) (upd H p o) := by
  have hI : I p = none := hs.free hp
  refine ⟨fun b u e => by rw [upd_ne (ne_of_none e hI)]; exact e, fun b u e => ?_, fun b u h1 h2 h3 => ?_, fun b h1 h2 => by rw [upd_ne (show b ≠ p from fun z => hF (by rw [← z]; exact h1))]; exact h2⟩
  · by_cases hb : b = p
    · subst hb
      rw [upd_same] at e ⊢
      exact e
    · rw [upd_ne hb] at e ⊢
      exact hs b u e
  · have hb : b ≠ p := ne_of_none h3 hp
    rw [upd_ne hb, upd_ne hb]
    exact ⟨h1, h3⟩
/-- a new object, owned -/
theorem ext_newO {F : Addr → Prop} {p : Addr} {o : HO} (hs : Same I H) (hp : H p = none) : Ext F I H I (upd H p o) :=
  ⟨Same.refl _, fun b u e => by rw [upd_ne (ne_of_none (hs b u e) hp)]; exact hs b u e, fun b u h1 _ h3 => ⟨h1, by rw [upd_ne (ne_of_none h3 hp)]; exact h3⟩, fun _ _ h => h⟩
theorem Rep0.nF {p : Addr} (r : Rep0 Z G I H s) (hp : H p = none) : ¬ Z.F p := fun z => by
  obtain ⟨o, e⟩ := Z.dom s I H p r.res z
  rw [hp] at e
  cases e
theorem Rep0.nG {p : Addr} (r : Rep0 Z G I H s) (hp : H p = none) : G p = none := by
  cases e : G p with
  | none => rfl
  | some o =>
    have q := (r.fr p o e).2
    rw [hp] at q
    cases q
/-- a new object is laid, it lasts -/
theorem Rep.new {p : Addr} {o : HO} (r : Rep K Z G I H σ τ s) (hp : H p = none) : Same I (upd I p o) ∧ Rep K Z G (upd I p o) (upd H p o) σ τ s := by
  have e : Ext (fun _ => False) I H (upd I p o) (upd H p o) := ext_new r.sub hp (fun z => z)
  exact ⟨e.im, r.extN e⟩
/-- an object that is nobody's but ours now -/
structure Own1 (K : PySem.W.Frag) (Z : Res) (G I H : Hp) (σ : St) (τ : List SV) (p : Addr) (o : HO) (a : T) : Prop where
  ni : I p = none
  ng : G p = none
  nf : ¬ Z.F p
  at_ : H p = some o
  cn : Cn K I a o
  no : ∀ (i : Nat) (t : T), τ[i]? = some (SV.ow t) → σ[i]? ≠ some (some (V.ref p))
/-- it lasts from now on -/
theorem Rep.freeze1 {p : Addr} {o : HO} {a : T} (r : Rep K Z G I H σ τ s) (w : Own1 K Z G I H σ τ p o a) : Same I (upd I p o) ∧ Rep K Z G (upd I p o) H σ τ s := by
  have m : Same I (upd I p o) := fun b u e => by rw [upd_ne (ne_of_none e w.ni)]; exact e
  have sb : Same (upd I p o) H := fun b u e => by
    by_cases hb : b = p
    · subst hb
      rw [upd_same] at e
      cases e
      exact w.at_
    · rw [upd_ne hb] at e
      exact r.sub b u e
  refine ⟨m, ⟨⟨sb, Z.loc s I H _ H r.res m fun _ _ => rfl, fun q hq => ⟨?_, (r.rf q hq).2⟩, fun q u hq => ⟨?_, (r.fr q u hq).2⟩⟩, r.len, fun i t h => ?_, fun i t h => ?_, r.inj⟩⟩
  · rw [upd_ne (show q ≠ p from fun z => w.nf (by rw [← z]; exact hq))]
    exact (r.rf q hq).1
  · rw [upd_ne (ne_of_none hq w.ng)]
    exact (r.fr q u hq).1
  · obtain ⟨v, h1, h2⟩ := r.im i t h
    exact ⟨v, h1, h2.mono m⟩
  · obtain ⟨q, u, h1, h2, h3, h4, h5, h6⟩ := r.ow i t h
    have hq : q ≠ p := fun z => w.no i t h (by rw [← z]; exact h1)
    exact ⟨q, u, h1, by rw [upd_ne hq]; exact h2, h3, h4, h5, h6.mono m⟩
/-- a new object is laid, it is not known to last -/
theorem Rep.newO {p : Addr} {o : HO} (r : Rep K Z G I H σ τ s) (hp : H p = none) : Rep K Z G I (upd H p o) σ τ s :=
  r.extN (ext_newO (F := fun _ => False) r.sub hp)
theorem Rep.notOwned {p : Addr} (r : Rep K Z G I H σ τ s) (hp : H p = none) (i : Nat) (t : T) (h : τ[i]? = some (SV.ow t)) : σ[i]? ≠ some (some (V.ref p)) := fun e => by
  obtain ⟨q, u, h1, _, _, _, h5, _⟩ := r.ow i t h
  rw [e] at h1
  cases h1
  rw [hp] at h5
  cases h5
theorem Rep.made {p : Addr} {o : HO} {a : T} (r : Rep K Z G I H σ τ s) (hp : H p = none) (c : Cn K I a o) : Rep K Z G I (upd H p o) σ τ s ∧ Own1 K Z G I (upd H p o) σ τ p o a :=
  ⟨r.newO hp, ⟨r.sub.free hp, r.nG hp, r.nF hp, upd_same, c, fun i t h => r.notOwned hp i t h⟩⟩
/-! ### slots are stored -/
theorem Rep.setIm {i : Nat} {v : V} {a : T} (r : Rep K Z G I H σ τ s) (hi : i < τ.length) (h : Is K I a v) : Rep K Z G I H (σ.set i (some v)) (τ.set i (.im a)) s := by
  have hs : i < σ.length := by rw [r.len]; exact hi
  refine ⟨r.toRep0, by rw [List.length_set, List.length_set]; exact r.len, fun j t e => ?_, fun j t e => ?_, fun j k t u p hjk e1 e2 e3 => ?_⟩
  · by_cases hj : i = j
    · subst hj
      rw [List.getElem?_set_self hi] at e
      cases e
      exact ⟨v, List.getElem?_set_self hs, h⟩
    · rw [List.getElem?_set_ne hj] at e ⊢
      exact r.im j t e
  · have hj : i ≠ j := fun z => by
      subst z
      rw [List.getElem?_set_self hi] at e
      cases e
    rw [List.getElem?_set_ne hj] at e ⊢
    exact r.ow j t e
  · have hj : i ≠ j := fun z => by
      subst z
      rw [List.getElem?_set_self hi] at e1
      cases e1
    have hk : i ≠ k := fun z => by
      subst z
      rw [List.getElem?_set_self hi] at e2
      cases e2
    rw [List.getElem?_set_ne hj] at e1 e3
    rw [List.getElem?_set_ne hk] at e2 ⊢
    exact r.inj j k t u p hjk e1 e2 e3
theorem Rep.setOw {i : Nat} {p : Addr} {o : HO} {a : T} (r : Rep K Z G I H σ τ s) (hi : i < τ.length) (w : Own1 K Z G I H σ τ p o a) : Rep K Z G I H (σ.set i (some (.ref p))) (τ.set i (.ow a)) s := by
  have hs : i < σ.length := by rw [r.len]; exact hi
  refine ⟨r.toRep0, by rw [List.length_set, List.length_set]; exact r.len, fun j t e => ?_, fun j t e => ?_, fun j k t u q hjk e1 e2 e3 => ?_⟩
  · have hj : i ≠ j := fun z => by
      subst z
      rw [List.getElem?_set_self hi] at e
      cases e
    rw [List.getElem?_set_ne hj] at e ⊢
    exact r.im j t e
  · by_cases hj : i = j
    · subst hj
      rw [List.getElem?_set_self hi] at e
      cases e
      exact ⟨p, o, List.getElem?_set_self hs, w.ni, w.ng, w.nf, w.at_, w.cn⟩
    · rw [List.getElem?_set_ne hj] at e ⊢
      exact r.ow j t e
  · by_cases hj : i = j
    · subst hj
      rw [List.getElem?_set_self hs] at e3
      cases e3
      rw [List.getElem?_set_ne hjk] at e2 ⊢
      exact w.no k u e2
    · rw [List.getElem?_set_ne hj] at e1 e3
      by_cases hk : i = k
      · subst hk
        rw [List.getElem?_set_self hs]
        intro z
        cases z
        exact w.no j t e1 e3
      · rw [List.getElem?_set_ne hk] at e2 ⊢
        exact r.inj j k t u q hjk e1 e2 e3
/-- a slot's own object lasts from now on -/
theorem Rep.freeze {i : Nat} {a : T} (r : Rep K Z G I H σ τ s) (hi : τ[i]? = some (.ow a)) : ∃ I', Same I I' ∧ Rep K Z G I' H σ (τ.set i (.im a)) s := by
  obtain ⟨p, o, h1, h2, h3, h4, h5, h6⟩ := r.ow i a hi
  have hl : i < τ.length := (List.getElem?_eq_some_iff.mp hi).1
  have m : Same I (upd I p o) := fun b u e => by rw [upd_ne (ne_of_none e h2)]; exact e
  have sb : Same (upd I p o) H := fun b u e => by
    by_cases hb : b = p
    · subst hb
      rw [upd_same] at e
      cases e
      exact h5
    · rw [upd_ne hb] at e
      exact r.sub b u e
  refine ⟨upd I p o, m, ⟨⟨sb, Z.loc s I H _ H r.res m fun _ _ => rfl, fun q hq => ⟨?_, (r.rf q hq).2⟩, fun q u hq => ⟨?_, (r.fr q u hq).2⟩⟩, by rw [List.length_set]; exact r.len, fun j t h => ?_, fun j t h => ?_, fun j k t u q hjk e1 e2 e3 => ?_⟩⟩
  · rw [upd_ne (show q ≠ p from fun z => h4 (by rw [← z]; exact hq))]
    exact (r.rf q hq).1
  · rw [upd_ne (ne_of_none hq h3)]
    exact (r.fr q u hq).1
  · by_cases hj : i = j
    · subst hj
      rw [List.getElem?_set_self hl] at h
      cases h
      exact ⟨_, h1, (h6.mono m).is upd_same⟩
    · rw [List.getElem?_set_ne hj] at h
      obtain ⟨v, g1, g2⟩ := r.im j t h
      exact ⟨v, g1, g2.mono m⟩
  · have hj : i ≠ j := fun z => by
      subst z
      rw [List.getElem?_set_self hl] at h
      cases h
    rw [List.getElem?_set_ne hj] at h
    obtain ⟨q, u, g1, g2, g3, g4, g5, g6⟩ := r.ow j t h
    have hq : q ≠ p := fun z => r.inj i j a t p hj hi h h1 (by rw [← z]; exact g1)
    exact ⟨q, u, g1, by rw [upd_ne hq]; exact g2, g3, g4, g5, g6.mono m⟩
  · have hj : i ≠ j := fun z => by
      subst z
      rw [List.getElem?_set_self hl] at e1
      cases e1
    have hk : i ≠ k := fun z => by
      subst z
      rw [List.getElem?_set_self hl] at e2
      cases e2
    rw [List.getElem?_set_ne hj] at e1
    rw [List.getElem?_set_ne hk] at e2
    exact r.inj j k t u q hjk e1 e2 e3
/-- a slot's own object is changed -/
theorem Rep.change {i : Nat} {a b : T} {p : Addr} {o o' : HO} (r : Rep K Z G I H σ τ s) (hi : τ[i]? = some (.ow a)) (h1 : σ[i]? = some (some (V.ref p))) (h2 : I p = none) (h3 : G p = none) (h4 : ¬ Z.F p) (c : Cn K I b o') : Rep K Z G I (upd H p o') σ (τ.set i (.ow b)) s := by
  have hl : i < τ.length := (List.getElem?_eq_some_iff.mp hi).1
  have sb : Same I (upd H p o') := fun b u e => by rw [upd_ne (ne_of_none e h2)]; exact r.sub b u e
  refine ⟨⟨sb, Z.loc s I H _ _ r.res (Same.refl _) fun q hq => upd_ne fun z => h4 (by rw [← z]; exact hq), r.rf, fun q u hq => ⟨(r.fr q u hq).1, ?_⟩⟩, by rw [List.length_set]; exact r.len, fun j t h => ?_, fun j t h => ?_, fun j k t u q hjk e1 e2 e3 => ?_⟩
  · rw [upd_ne (ne_of_none hq h3)]
    exact (r.fr q u hq).2
  · have hj : i ≠ j := fun z => by
      subst z
      rw [List.getElem?_set_self hl] at h
      cases h
    rw [List.getElem?_set_ne hj] at h
    exact r.im j t h
  · by_cases hj : i = j
    · subst hj
      rw [List.getElem?_set_self hl] at h
      cases h
      exact ⟨p, o', h1, h2, h3, h4, upd_same, c⟩
    · rw [List.getElem?_set_ne hj] at h
      obtain ⟨q, u, g1, g2, g3, g4, g5, g6⟩ := r.ow j t h
      have hq : q ≠ p := fun z => r.inj i j a t p hj hi h h1 (by rw [← z]; exact g1)
      exact ⟨q, u, g1, g2, g3, g4, by rw [upd_ne hq]; exact g5, g6⟩
  · have ow' : ∀ (l : Nat) (t : T), (τ.set i (.ow b))[l]? = some (.ow t) → ∃ t', τ[l]? = some (.ow t') := fun l t e => by
      by_cases hl' : i = l
      · subst hl'
        exact ⟨a, hi⟩
      · rw [List.getElem?_set_ne hl'] at e
        exact ⟨t, e⟩
    obtain ⟨t', e1'⟩ := ow' j t e1
    obtain ⟨u', e2'⟩ := ow' k u e2
    exact r.inj j k t' u' q hjk e1' e2' e3
/-- less is left alone -/
theorem Rep.frame {G' : Hp} (r : Rep K Z G I H σ τ s) (h : ∀ p o, G' p = some o → G p = some o) : Rep K Z G' I H σ τ s := by
  have hn : ∀ p, G p = none → G' p = none := fun p hp => by
    cases e : G' p with
    | none => rfl
    | some o =>
      have q := h p o e
      rw [hp] at q
      cases q
  refine ⟨⟨r.sub, r.res, fun p hp => ⟨(r.rf p hp).1, hn p (r.rf p hp).2⟩, fun p o e => r.fr p o (h p o e)⟩, r.len, r.im, fun i t e => ?_, r.inj⟩
  obtain ⟨p, o, h1, h2, h3, h4, h5, h6⟩ := r.ow i t e
  exact ⟨p, o, h1, h2, hn p h3, h4, h5, h6⟩
/-- one more object that is left alone -/
theorem Rep.guard {p : Addr} {o : HO} {a : T} (r : Rep K Z G I H σ τ s) (w : Own1 K Z G I H σ τ p o a) : Rep K Z (upd G p o) I H σ τ s :=
  ⟨⟨r.sub, r.res, fun q hq => ⟨(r.rf q hq).1, by rw [upd_ne (show q ≠ p from fun z => w.nf (by rw [← z]; exact hq))]; exact (r.rf q hq).2⟩, fun q u e => by
    by_cases hq : q = p
    · subst hq
      rw [upd_same] at e
      cases e
      exact ⟨w.ni, w.at_⟩
    · rw [upd_ne hq] at e
      exact r.fr q u e⟩, r.len, r.im, fun i t e => by
    obtain ⟨q, u, h1, h2, h3, h4, h5, h6⟩ := r.ow i t e
    exact ⟨q, u, h1, h2, by rw [upd_ne (show q ≠ p from fun z => w.no i t e (by rw [← z]; exact h1))]; exact h3, h4, h5, h6⟩, r.inj⟩
/-- slots forgotten (a comprehension's own names) -/
def wipeT (τ : List SV) : List Nat → List SV
  | [] => τ
  | v :: vs => (wipeT τ vs).set v .un
theorem wipeT_length (τ : List SV) : ∀ vs : List Nat, (wipeT τ vs).length = τ.length
  | [] => rfl
  | v :: vs => by unfold wipeT; rw [List.length_set, wipeT_length τ vs]
theorem wipeT_get {τ : List SV} {i : Nat} {x : SV} : ∀ {vs : List Nat}, (wipeT τ vs)[i]? = some x → (i ∈ vs ∧ x = .un) ∨ (i ∉ vs ∧ τ[i]? = some x)
  | [], h => .inr ⟨by simp, h⟩
  | v :: vs, h => by
    unfold wipeT at h
    by_cases hi : v = i
    · subst hi
      by_cases hv : v < (wipeT τ vs).length
      · rw [List.getElem?_set_self hv] at h
        cases h
        exact .inl ⟨by simp, rfl⟩
      · rw [List.getElem?_eq_none (by simpa using hv)] at h
        cases h
    · rw [List.getElem?_set_ne hi] at h
      rcases wipeT_get h with ⟨h1, h2⟩ | ⟨h1, h2⟩
      · exact .inl ⟨by simp [h1], h2⟩
      · exact .inr ⟨by simp only [List.mem_cons, not_or]; exact ⟨fun e => hi e.symm, h1⟩, h2⟩
theorem wipe_out {σ : St} {i : Nat} : ∀ {vs : List Nat}, i ∉ vs → (wipe σ vs)[i]? = σ[i]?
  | [], _ => rfl
  | v :: vs, h => by
    simp only [List.mem_cons, not_or] at h
    unfold wipe
    rw [List.getElem?_set_ne (fun e => h.1 e.symm)]
    exact wipe_out h.2
theorem Rep.wipe {vs : List Nat} (r : Rep K Z G I H σ τ s) : Rep K Z G I H (wipe σ vs) (wipeT τ vs) s := by
  refine ⟨r.toRep0, by rw [wipe_length, wipeT_length]; exact r.len, fun i t e => ?_, fun i t e => ?_, fun i j t u p hij e1 e2 e3 => ?_⟩
  · rcases wipeT_get e with ⟨_, h⟩ | ⟨h1, h2⟩
    · cases h
    · rw [wipe_out h1]
      exact r.im i t h2
  · rcases wipeT_get e with ⟨_, h⟩ | ⟨h1, h2⟩
    · cases h
    · rw [wipe_out h1]
      exact r.ow i t h2
  · rcases wipeT_get e1 with ⟨_, h⟩ | ⟨h1, h2⟩
    · cases h
    · rcases wipeT_get e2 with ⟨_, h⟩ | ⟨h3, h4⟩
      · cases h
      · rw [wipe_out h1] at e3
        rw [wipe_out h3]
        exact r.inj i j t u p hij h2 h4 e3
/-- behind a comprehension: the slots are as they were -/
theorem Rep.unwipe {G0 I0 H0 : Hp} {s0 : Z.S} {vs : List Nat} (r : Rep K Z G0 I0 H0 σ τ s0) (m : Same I0 I) (q : Rep0 Z G I H s) (hw : ∀ (i : Nat) (t : T), τ[i]? = some (.ow t) → i ∉ vs)
    (own : ∀ (i : Nat) (t : T), (wipeT τ vs)[i]? = some (.ow t) → ∃ (p : Addr) (o : HO), (L2.wipe σ vs)[i]? = some (some (V.ref p)) ∧ I p = none ∧ G p = none ∧ ¬ Z.F p ∧ H p = some o ∧ Cn K I t o)
    (wt : ∀ (i : Nat) (t : T), i ∉ vs → τ[i]? = some (.ow t) → (wipeT τ vs)[i]? = some (.ow t)) : Rep K Z G I H σ τ s := by
  refine ⟨q, r.len, fun i t e => ?_, fun i t e => ?_, r.inj⟩
  · obtain ⟨v, h1, h2⟩ := r.im i t e
    exact ⟨v, h1, h2.mono m⟩
  · have hi := hw i t e
    have h := own i t (wt i t hi e)
    rw [wipe_out hi] at h
    exact h
theorem wipeT_out {τ : List SV} {i : Nat} : ∀ {vs : List Nat}, i ∉ vs → (wipeT τ vs)[i]? = τ[i]?
  | [], _ => rfl
  | v :: vs, h => by
    simp only [List.mem_cons, not_or] at h
    unfold wipeT
    rw [List.getElem?_set_ne (fun e => h.1 e.symm)]
    exact wipeT_out h.2
end
end L2.TL
/-! TL1: expressions told by trees. -/
namespace L2.TL
open PySem PySem.Spec
open PyProof.Rows
/-- a reckoning over the slots and the resource's state -/
abbrev EF (Z : Res) := List SV → Z.S → Option (T × Z.S)
abbrev EFs (Z : Res) := List SV → Z.S → Option (List T × Z.S)
abbrev EFb (Z : Res) := List SV → Z.S → Option (Bool × Z.S)
/-- behind an expression that hands out a -/
def Hand (X : Cx) (Z : Res) (G I : Hp) (σ : St) (τ : List SV) (s : Z.S) (a : T) (Q : VK) : Prop :=
  ∀ I' H' v, Same I I' → Rep X.K Z G I' H' σ τ s → Is X.K I' a v → Q v H'
def HandB (X : Cx) (Z : Res) (G I : Hp) (σ : St) (τ : List SV) (s : Z.S) (b : Bool) (Q : Bool → Hp → Prop) : Prop :=
  ∀ I' H', Same I I' → Rep X.K Z G I' H' σ τ s → Q b H'
def HandL (X : Cx) (Z : Res) (G I : Hp) (σ : St) (τ : List SV) (s : Z.S) (as : List T) (Q : List V → Hp → Prop) : Prop :=
  ∀ I' H' vs, Same I I' → Rep X.K Z G I' H' σ τ s → IsL X.K I' as vs → Q vs H'
def EX (X : Cx) (Z : Res) (e : Expr) (f : EF Z) : Prop :=
  ∃ t, PE X e t ∧ ∀ G I H σ τ s a s' Q, Rep X.K Z G I H σ τ s → f τ s = some (a, s') → Hand X Z G I σ τ s' a Q → t σ H Q
def EB (X : Cx) (Z : Res) (e : Expr) (f : EFb Z) : Prop :=
  ∃ t, PT X e t ∧ ∀ G I H σ τ s a s' Q, Rep X.K Z G I H σ τ s → f τ s = some (a, s') → HandB X Z G I σ τ s' a Q → t σ H Q
def EL (X : Cx) (Z : Res) (es : List Expr) (f : EFs Z) : Prop :=
  ∃ t, PA X es t ∧ ∀ G I H σ τ s as s' Q, Rep X.K Z G I H σ τ s → f τ s = some (as, s') → HandL X Z G I σ τ s' as Q → t σ H Q
section
variable {X : Cx} {Z : Res} {a b c e : Expr} {es : List Expr} {fa fb fc : EF Z} {pos : Pos}
/-! ### names, constants -/
def xName {Z : Res} (i : Nat) : EF Z := fun τ s => match τ[i]? with
  | some (.im t) => some (t, s)
  | _ => none
theorem ex_name (i : Nat) {x : Str} (hN : X.N[i]? = some x := by rfl) (hv : Vis X.env.scope x := by first | exact Or.inl rfl | exact Or.inr (Or.inl rfl) | exact Or.inr (Or.inr rfl)) (hd : (x == ("__debug__" : Str)) = false := by decide)
    (hcd : (x == ("__classdict__" : Str)) = false := by decide) : EX X Z (.Name x pos) (xName i) := by
  refine ⟨_, pe_var hN hv hd hcd, fun G I H σ τ s a s' Q r h q => ?_⟩
  unfold xName at h
  split at h
  · rename_i t e
    cases h
    obtain ⟨v, h1, h2⟩ := r.im i _ e
    exact ⟨v, h1, q I H v (Same.refl _) r h2⟩
  · cases h
def xC {Z : Res} (t : T) : EF Z := fun _ s => some (t, s)
theorem ex_int {i : Int} {j : Nat} : EX X Z (.Constant (.int i) j pos) (xC (.int i)) := ⟨_, pe_int, fun G I H σ τ s a s' Q r h q => by
  cases h
  exact q I H _ (Same.refl _) r rfl⟩
theorem ex_bl {i : Bool} {j : Nat} : EX X Z (.Constant (.bool i) j pos) (xC (.bl i)) := ⟨_, pe_bl, fun G I H σ τ s a s' Q r h q => by
  cases h
  exact q I H _ (Same.refl _) r rfl⟩
theorem ex_non {j : Nat} : EX X Z (.Constant .none j pos) (xC .non) := ⟨_, pe_non, fun G I H σ τ s a s' Q r h q => by
  cases h
  exact q I H _ (Same.refl _) r rfl⟩
theorem ex_str {x : Str} {j : Nat} : EX X Z (.Constant (.str x) j pos) (xC (.str x)) := ⟨_, pe_str, fun G I H σ τ s a s' Q r h q => by
  cases h
  exact q I H _ (Same.refl _) r rfl⟩
/-! ### two values -/
/-- an operation on trees that the values' operation r carries out, making new objects at most -/
def Op2 (X : Cx) (r : R2) (op : T → T → Option T) : Prop :=
  ∀ (Z : Res) G I H σ τ s a b c x y Q, Rep X.K Z G I H σ τ s → Is X.K I a x → Is X.K I b y → op a b = some c → Hand X Z G I σ τ s c Q → r x y H Q
def x2 {Z : Res} (op : T → T → Option T) (fa fb : EF Z) : EF Z := fun τ s => match fa τ s with
  | some (a, s1) => match fb τ s1 with
    | some (b, s2) => match op a b with
      | some c => some (c, s2)
      | none => none
    | none => none
  | none => none
theorem x2_run {r : R2} {op : T → T → Option T} {ta tb : TE} (hr : Op2 X r op) (h1 : ∀ G I H σ τ s a s' Q, Rep X.K Z G I H σ τ s → fa τ s = some (a, s') → Hand X Z G I σ τ s' a Q → ta σ H Q)
    (h2 : ∀ G I H σ τ s a s' Q, Rep X.K Z G I H σ τ s → fb τ s = some (a, s') → Hand X Z G I σ τ s' a Q → tb σ H Q) {G I H : Hp} {σ : St} {τ : List SV} {s s' : Z.S} {c : T} {Q : VK}
    (w : Rep X.K Z G I H σ τ s) (h : x2 op fa fb τ s = some (c, s')) (q : Hand X Z G I σ τ s' c Q) : tOp r ta tb σ H Q := by
  unfold x2 at h
  split at h
  · rename_i a s1 ea
    split at h
    · rename_i b s2 eb
      split at h
      · rename_i d ec
        cases h
        refine h1 _ _ _ _ _ _ _ _ _ w ea fun I1 H1 v m1 w1 i1 => ?_
        refine h2 _ _ _ _ _ _ _ _ _ w1 eb fun I2 H2 u m2 w2 i2 => ?_
        exact hr Z _ _ _ _ _ _ _ _ _ _ _ _ w2 (i1.mono m2) i2 ec fun I3 H3 z m3 w3 i3 => q I3 H3 z ((m1.trans m2).trans m3) w3 i3
      · cases h
    · cases h
  · cases h
theorem ex_bin {o : Operator} {r : R2} {op : T → T → Option T} (ho : OpR X (binaryOp o) r) (hr : Op2 X r op) (ha : EX X Z a fa) (hb : EX X Z b fb) : EX X Z (.BinOp a o b pos) (x2 op fa fb) := by
  obtain ⟨ta, pa, h1⟩ := ha
  obtain ⟨tb, pb, h2⟩ := hb
  exact ⟨_, pe_op ho pa pb, fun G I H σ τ s c s' Q w h q => x2_run hr h1 h2 w h q⟩
theorem ex_cmp {o : CmpOp} {r : R2} {op : T → T → Option T} (ho : OpR X (compareOp o) r) (hr : Op2 X r op) (ha : EX X Z a fa) (hb : EX X Z b fb) (hm : behindInMarks o b = false) : EX X Z (.Compare a [o] [b] pos) (x2 op fa fb) := by
  obtain ⟨ta, pa, h1⟩ := ha
  obtain ⟨tb, pb, h2⟩ := hb
  exact ⟨_, pe_cmpR ho pa pb hm, fun G I H σ τ s c s' Q w h q => x2_run hr h1 h2 w h q⟩
def xb {Z : Res} (f : EF Z) : EFb Z := fun τ s => match f τ s with
  | some (.bl k, s') => some (k, s')
  | _ => none
theorem xb_of {f : EF Z} {τ : List SV} {s s' : Z.S} {k : Bool} (h : xb f τ s = some (k, s')) : f τ s = some (.bl k, s') := by
  unfold xb at h
  split at h
  · rename_i e
    cases h
    exact e
  · cases h
theorem eb_cmp {o : CmpOp} {r : R2} {op : T → T → Option T} (ho : OpR X (compareOp o) r) (hr : Op2 X r op) (ha : EX X Z a fa) (hb : EX X Z b fb) (hm : behindInMarks o b = false) : EB X Z (.Compare a [o] [b] pos) (xb (x2 op fa fb)) := by
  obtain ⟨ta, pa, h1⟩ := ha
  obtain ⟨tb, pb, h2⟩ := hb
  exact ⟨_, pt_cmpR ho pa pb hm, fun G I H σ τ s c s' Q w h q => x2_run hr h1 h2 w (xb_of h) fun I' H' v m w' i => ⟨c, i, q I' H' m w'⟩⟩
theorem ex_ix {r : R2} {op : T → T → Option T} (ho : IxR X r) (hr : Op2 X r op) (ha : EX X Z a fa) (hb : EX X Z b fb) (hs : PlainIx b := by exact fun _ _ => rfl) : EX X Z (.Subscript a b pos) (x2 op fa fb) := by
  obtain ⟨ta, pa, h1⟩ := ha
  obtain ⟨tb, pb, h2⟩ := hb
  exact ⟨_, pe_ix ho pa pb hs, fun G I H σ τ s c s' Q w h q => x2_run hr h1 h2 w h q⟩
/-- a <= b < c and its like -/
def x3 {Z : Res} (op op' : T → T → Option T) (fa fb fc : EF Z) : EF Z := fun τ s => match fa τ s with
  | some (a, s1) => match fb τ s1 with
    | some (b, s2) => match op a b with
      | some (.bl true) => match fc τ s2 with
        | some (c, s3) => match op' b c with
          | some d => some (d, s3)
          | none => none
        | none => none
      | some (.bl false) => some (.bl false, s2)
      | _ => none
    | none => none
  | none => none
theorem OpR.or {f : Value → Value → Sem Value} {r r' : R2} (h : OpR X f r) (h' : OpR X f r') : OpR X f (fun x y H Q => r x y H Q ∨ r' x y H Q) := by
  intro pins s σ H x y v u Q I rx ry q
  rcases q with q | q
  · exact h pins s σ H x y v u Q I rx ry q
  · exact h' pins s σ H x y v u Q I rx ry q
theorem Op2.or {r r' : R2} {op op' : T → T → Option T} (h : Op2 X r op) (h' : Op2 X r' op') : Op2 X (fun x y H Q => r x y H Q ∨ r' x y H Q) (fun a b => match op a b with | some c => some c | none => op' a b) := by
  intro Z G I H σ τ s a b c x y Q w i1 i2 e q
  dsimp only at e
  split at e
  · rename_i d ed
    cases e
    exact .inl (h Z _ _ _ _ _ _ _ _ _ _ _ _ w i1 i2 ed q)
  · exact .inr (h' Z _ _ _ _ _ _ _ _ _ _ _ _ w i1 i2 e q)
theorem Hand.here {G I H : Hp} {σ : St} {τ : List SV} {s : Z.S} {t : T} {v : V} {Q : VK} (w : Rep X.K Z G I H σ τ s) (q : Hand X Z G I σ τ s t Q) (i : Is X.K I t v) : Q v H := q I H v (Same.refl _) w i
theorem Hand.new {G I H : Hp} {σ : St} {τ : List SV} {s : Z.S} {t : T} {Q : VK} {p : Addr} {o : HO} (w : Rep X.K Z G I H σ τ s) (q : Hand X Z G I σ τ s t Q) (hp : H p = none) (i : ∀ I', Same I I' → I' p = some o → Is X.K I' t (.ref p)) : Q (.ref p) (upd H p o) := by
  obtain ⟨m, w'⟩ := w.new (o := o) hp
  exact q _ _ _ m w' (i _ m upd_same)
/-! ### the operations -/
def addI : T → T → Option T
  | .int i, .int j => some (.int (i + j))
  | _, _ => none
def addS : T → T → Option T
  | .str x, .str y => if x.length + y.length ≤ sizeLine then some (.str (x ++ y)) else none
  | _, _ => none
def addL : T → T → Option T
  | .lst x, .lst y => if x.length + y.length ≤ sizeLine then some (.lst (x ++ y)) else none
  | _, _ => none
def addT : T → T → Option T
  | .tup x, .tup y => if x.length + y.length ≤ sizeLine then some (.tup (x ++ y)) else none
  | _, _ => none
def rAddS : R2 := fun x y H Q => ∃ i j, x = .str i ∧ y = .str j ∧ i.length + j.length ≤ sizeLine ∧ Q (.str (i ++ j)) H
theorem op2_addI : Op2 X (rI0 fun i j => .int (i + j)) addI := by
  intro Z G I H σ τ s a b c x y Q w i1 i2 e q
  unfold addI at e
  split at e
  · cases e
    have i1 : x = _ := i1
    have i2 : y = _ := i2
    exact ⟨_, _, i1, i2, q.here w rfl⟩
  · cases e
theorem op2_addS : Op2 X rAddS addS := by
  intro Z G I H σ τ s a b c x y Q w i1 i2 e q
  unfold addS at e
  split at e
  · split at e
    · rename_i hz
      cases e
      have i1 : x = _ := i1
      have i2 : y = _ := i2
      exact ⟨_, _, i1, i2, hz, q.here w rfl⟩
    · cases e
  · cases e
theorem op2_addL : Op2 X rCat addL := by
  intro Z G I H σ τ s a b c x y Q w i1 i2 e q
  unfold addL at e
  split at e
  · split at e
    · rename_i hz
      cases e
      obtain ⟨l, xs, rfl, h1, j1⟩ := i1
      obtain ⟨l', ys, rfl, h2, j2⟩ := i2
      refine ⟨l, l', xs, ys, rfl, rfl, w.sub _ _ h1, w.sub _ _ h2, by rw [j1.len, j2.len]; exact hz, fun p hp => q.new w hp fun I' m e => ⟨p, _, rfl, e, (j1.app j2).mono m⟩⟩
    · cases e
  · cases e
theorem op2_addT : Op2 X (rCatA X.K) addT := by
  intro Z G I H σ τ s a b c x y Q w i1 i2 e q
  unfold addT at e
  split at e
  · split at e
    · rename_i us vs hz
      cases e
      obtain ⟨l, xs, rfl, h1, j1⟩ := i1
      obtain ⟨l', ys, rfl, h2, j2⟩ := i2
      have n1 := j1.len
      have n2 := j2.len
      refine ⟨l, l', xs, ys, rfl, rfl, sqt_mono w.sub h1, sqt_mono w.sub h2, by rw [n1, n2]; exact hz, fun e => ?_, fun _ e => ?_, fun _ _ p hp => q.new w hp fun I' m e => ⟨p, _, rfl, .of e, (j1.app j2).mono m⟩⟩
      · subst e
        have e1 : us = [] := by cases us with | nil => rfl | cons _ _ => simp at n1
        subst e1
        exact q.here w ⟨l', ys, rfl, h2, j2⟩
      · subst e
        have e1 : vs = [] := by cases vs with | nil => rfl | cons _ _ => simp at n2
        subst e1
        rw [List.append_nil] at q
        exact q.here w ⟨l, xs, rfl, h1, j1⟩
    · cases e
  · cases e
def subI : T → T → Option T
  | .int i, .int j => some (.int (i - j))
  | _, _ => none
theorem op2_subI : Op2 X (rI0 fun i j => .int (i - j)) subI := by
  intro Z G I H σ τ s a b c x y Q w i1 i2 e q
  unfold subI at e
  split at e
  · cases e
    have i1 : x = _ := i1
    have i2 : y = _ := i2
    exact ⟨_, _, i1, i2, q.here w rfl⟩
  · cases e
def mulI : T → T → Option T
  | .int i, .int j => if (-(2 ^ 64) < i ∧ i < 2 ^ 64) ∨ (-(2 ^ 64) < j ∧ j < 2 ^ 64) then some (.int (i * j)) else none
  | _, _ => none
theorem op2_mulI : Op2 X (rI CMul fun i j => .int (i * j)) mulI := by
  intro Z G I H σ τ s a b c x y Q w i1 i2 e q
  unfold mulI at e
  split at e
  · split at e
    · rename_i hz
      cases e
      have i1 : x = _ := i1
      have i2 : y = _ := i2
      exact ⟨_, _, i1, i2, hz, q.here w rfl⟩
    · cases e
  · cases e
def modI : T → T → Option T
  | .int i, .int j => if 0 < j then some (.int (i % j)) else none
  | _, _ => none
theorem op2_modI : Op2 X (rI (fun _ j => 0 < j) fun i j => .int (i % j)) modI := by
  intro Z G I H σ τ s a b c x y Q w i1 i2 e q
  unfold modI at e
  split at e
  · split at e
    · rename_i hz
      cases e
      have i1 : x = _ := i1
      have i2 : y = _ := i2
      exact ⟨_, _, i1, i2, hz, q.here w rfl⟩
    · cases e
  · cases e
def divI : T → T → Option T
  | .int i, .int j => if 0 < j ∧ j < 1073741824 then some (.int (i / j)) else none
  | _, _ => none
theorem op2_divI : Op2 X (rI CDiv fun i j => .int (i / j)) divI := by
  intro Z G I H σ τ s a b c x y Q w i1 i2 e q
  unfold divI at e
  split at e
  · split at e
    · rename_i hz
      cases e
      have i1 : x = _ := i1
      have i2 : y = _ := i2
      exact ⟨_, _, i1, i2, hz, q.here w rfl⟩
    · cases e
  · cases e
/-- comparisons of ints -/
def cmpI (g : Int → Int → Bool) : T → T → Option T
  | .int i, .int j => some (.bl (g i j))
  | _, _ => none
theorem op2_cmpI {g : Int → Int → Bool} : Op2 X (rI0 fun i j => .bl (g i j)) (cmpI g) := by
  intro Z G I H σ τ s a b c x y Q w i1 i2 e q
  unfold cmpI at e
  split at e
  · cases e
    have i1 : x = _ := i1
    have i2 : y = _ := i2
    exact ⟨_, _, i1, i2, q.here w rfl⟩
  · cases e
/-- comparisons of texts -/
def cmpS (g : Str → Str → Bool) : T → T → Option T
  | .str i, .str j => some (.bl (g i j))
  | _, _ => none
def rS (g : Str → Str → Bool) : R2 := fun x y H Q => ∃ i j, x = .str i ∧ y = .str j ∧ Q (.bl (g i j)) H
theorem op2_cmpS {g : Str → Str → Bool} : Op2 X (rS g) (cmpS g) := by
  intro Z G I H σ τ s a b c x y Q w i1 i2 e q
  unfold cmpS at e
  split at e
  · cases e
    have i1 : x = _ := i1
    have i2 : y = _ := i2
    exact ⟨_, _, i1, i2, q.here w rfl⟩
  · cases e
/-- a sign in a text -/
def inS (neg : Bool) : T → T → Option T
  | .str ⟨⟨[c]⟩⟩, .str z => some (.bl (if neg then !decide (c ∈ z.cps.toList) else decide (c ∈ z.cps.toList)))
  | _, _ => none
def rInS (neg : Bool) : R2 := fun x y H Q => ∃ (c : Nat) (z : Str), x = .str ⟨#[c]⟩ ∧ y = .str z ∧ Q (.bl (if neg then !decide (c ∈ z.cps.toList) else decide (c ∈ z.cps.toList))) H
theorem op2_inS {neg : Bool} : Op2 X (rInS neg) (inS neg) := by
  intro Z G I H σ τ s a b c x y Q w i1 i2 e q
  unfold inS at e
  split at e
  · cases e
    have i1 : x = _ := i1
    have i2 : y = _ := i2
    exact ⟨_, _, i1, i2, q.here w rfl⟩
  · cases e
end
end L2.TL
/-! TL2: arguments, built-ins, tests, slices. -/
namespace L2.TL
open PySem PySem.Spec
open PyProof.Rows
section
variable {X : Cx} {Z : Res} {a b c e : Expr} {es : List Expr} {fa fb fc f : EF Z} {fs : EFs Z} {ft fu : EFb Z} {pos : Pos}
/-! ### argument lists -/
def xNil {Z : Res} : EFs Z := fun _ s => some ([], s)
def xCons {Z : Res} (f : EF Z) (fs : EFs Z) : EFs Z := fun τ s => match f τ s with
  | some (a, s1) => match fs τ s1 with
    | some (as, s2) => some (a :: as, s2)
    | none => none
  | none => none
theorem el_nil : EL X Z [] xNil := ⟨_, pa_nil, fun G I H σ τ s as s' Q w h q => by
  cases h
  exact q I H [] (Same.refl _) w IsL.nil⟩
theorem el_cons (he : EX X Z e f) (hr : EL X Z es fs) (hs : starEach (e :: es) X.env = (false, eval e X.env) :: starEach es X.env := by rfl) : EL X Z (e :: es) (xCons f fs) := by
  obtain ⟨te, pe, h1⟩ := he
  obtain ⟨tr, pr, h2⟩ := hr
  refine ⟨_, pa_cons pe pr hs, fun G I H σ τ s as s' Q w h q => ?_⟩
  unfold xCons at h
  split at h
  · rename_i a s1 ea
    split at h
    · rename_i as' s2 eb
      cases h
      refine h1 _ _ _ _ _ _ _ _ _ w ea fun I1 H1 v m1 w1 i1 => ?_
      refine h2 _ _ _ _ _ _ _ _ _ w1 eb fun I2 H2 vs m2 w2 i2 => ?_
      exact q I2 H2 (v :: vs) (m1.trans m2) w2 (IsL.cons (i1.mono m2) i2)
    · cases h
  · cases h
/-! ### displays -/
def xTup {Z : Res} (fs : EFs Z) : EF Z := fun τ s => match fs τ s with
  | some (as, s') => if as.length ≤ sizeLine then some (.tup as, s') else none
  | none => none
def xLst {Z : Res} (fs : EFs Z) : EF Z := fun τ s => match fs τ s with
  | some (as, s') => if as.length ≤ sizeLine then some (.lst as, s') else none
  | none => none
theorem ex_tup {k : Nat} (h : EL X Z es fs) : EX X Z (.Tuple es k pos) (xTup fs) := by
  obtain ⟨t, p, h1⟩ := h
  refine ⟨_, pe_tup p, fun G I H σ τ s a s' Q w h q => ?_⟩
  unfold xTup at h
  split at h
  · rename_i as s2 ea
    split at h
    · rename_i hz
      cases h
      refine h1 _ _ _ _ _ _ _ _ _ w ea fun I1 H1 vs m1 w1 i1 => ⟨by rw [i1.len]; exact hz, fun p hp => ?_⟩
      obtain ⟨m2, w2⟩ := w1.new (o := .tup vs) hp
      exact q _ _ _ (m1.trans m2) w2 ⟨p, vs, rfl, .of upd_same, i1.mono m2⟩
    · cases h
  · cases h
/-! ### what is freshly made: no one else has it -/
/-- behind an expression that makes a new object for the tree a -/
def HandF (X : Cx) (Z : Res) (G I : Hp) (σ : St) (τ : List SV) (s : Z.S) (a : T) (Q : VK) : Prop :=
  ∀ I' H' p o, Same I I' → Rep X.K Z G I' H' σ τ s → Own1 X.K Z G I' H' σ τ p o a → Q (.ref p) H'
theorem HandF.new {G I H : Hp} {σ : St} {τ : List SV} {s : Z.S} {t : T} {Q : VK} {p : Addr} {o : HO} (w : Rep X.K Z G I H σ τ s) (q : HandF X Z G I σ τ s t Q) (hp : H p = none) (c : Cn X.K I t o) : Q (.ref p) (upd H p o) := by
  obtain ⟨w', u⟩ := w.made hp c
  exact q _ _ _ _ (Same.refl _) w' u
def EN (X : Cx) (Z : Res) (e : Expr) (f : EF Z) : Prop :=
  ∃ t, PE X e t ∧ ∀ G I H σ τ s a s' Q, Rep X.K Z G I H σ τ s → f τ s = some (a, s') → HandF X Z G I σ τ s' a Q → t σ H Q
theorem ex_of_new (h : EN X Z e f) : EX X Z e f := by
  obtain ⟨t, p, h1⟩ := h
  refine ⟨t, p, fun G I H σ τ s a s' Q w h q => h1 _ _ _ _ _ _ _ _ _ w h fun I1 H1 p o m1 w1 u => ?_⟩
  obtain ⟨m2, w2⟩ := w1.freeze1 u
  exact q _ _ _ (m1.trans m2) w2 ((u.cn.mono m2).is upd_same)
theorem en_lst (h : EL X Z es fs) : EN X Z (.List es pos) (xLst fs) := by
  obtain ⟨t, p, h1⟩ := h
  refine ⟨_, pe_lst p, fun G I H σ τ s a s' Q w h q => ?_⟩
  unfold xLst at h
  split at h
  · rename_i as s2 ea
    split at h
    · rename_i hz
      cases h
      refine h1 _ _ _ _ _ _ _ _ _ w ea fun I1 H1 vs m1 w1 i1 => ⟨by rw [i1.len]; exact hz, fun p hp => HandF.new w1 (fun I2 H2 p o m2 => q I2 H2 p o (m1.trans m2)) hp i1⟩
    · cases h
  · cases h
/-! ### calls of built-ins -/
def Op1 (X : Cx) (r : List V → Hp → VK → Prop) (op : List T → Option T) : Prop :=
  ∀ (Z : Res) G I H σ τ s as c xs Q, Rep X.K Z G I H σ τ s → IsL X.K I as xs → op as = some c → Hand X Z G I σ τ s c Q → r xs H Q
def Op1N (X : Cx) (r : List V → Hp → VK → Prop) (op : List T → Option T) : Prop :=
  ∀ (Z : Res) G I H σ τ s as c xs Q, Rep X.K Z G I H σ τ s → IsL X.K I as xs → op as = some c → HandF X Z G I σ τ s c Q → r xs H Q
def xCall {Z : Res} (op : List T → Option T) (fs : EFs Z) : EF Z := fun τ s => match fs τ s with
  | some (as, s') => match op as with
    | some c => some (c, s')
    | none => none
  | none => none
theorem xCall_of {op : List T → Option T} {τ : List SV} {s s' : Z.S} {c : T} (h : xCall op fs τ s = some (c, s')) : ∃ as, fs τ s = some (as, s') ∧ op as = some c := by
  unfold xCall at h
  split at h
  · rename_i as s2 ea
    split at h
    · rename_i d ed
      cases h
      exact ⟨as, ea, ed⟩
    · cases h
  · cases h
theorem ex_callB {x : Str} {p : Pos} {id : String} {r : List V → Hp → VK → Prop} {op : List T → Option T} (hc : CallR X (.builtin id) r) (hr : Op1 X r op) (hg : Gl X x) (hm : X.mg x = none) (ha : EL X Z (e :: es) fs)
    (hv : bootBuiltins x = some (.builtin id) := by decide +kernel) (hn : x ≠ "__name__" := by decide) (hdb : (x == ("__debug__" : Str)) = false := by decide)
    (he : starEach (e :: es) X.env = (false, eval e X.env) :: starEach es X.env := by rfl) (hpl : (backTo pos (starEach es X.env)).any (·.1) = false := by rfl) : EX X Z (.Call (.Name x p) (e :: es) [] pos) (xCall op fs) := by
  obtain ⟨t, pa, h1⟩ := ha
  refine ⟨_, pe_callB hc hg hm hv pa hn hdb he hpl, fun G I H σ τ s a s' Q w h q => ?_⟩
  obtain ⟨as, ea, eo⟩ := xCall_of h
  exact h1 _ _ _ _ _ _ _ _ _ w ea fun I1 H1 vs m1 w1 i1 => hr Z _ _ _ _ _ _ _ _ _ _ w1 i1 eo fun I2 H2 v m2 w2 i2 => q I2 H2 v (m1.trans m2) w2 i2
theorem ex_callTy {x : Str} {p : Pos} {id : String} {r : List V → Hp → VK → Prop} {op : List T → Option T} (hc : CallR X (.type id) r) (hr : Op1 X r op) (hg : Gl X x) (hm : X.mg x = none) (ha : EL X Z (e :: es) fs)
    (hv : bootBuiltins x = some (.type id) := by decide +kernel) (hn : x ≠ "__name__" := by decide) (hdb : (x == ("__debug__" : Str)) = false := by decide)
    (he : starEach (e :: es) X.env = (false, eval e X.env) :: starEach es X.env := by rfl) (hpl : (backTo pos (starEach es X.env)).any (·.1) = false := by rfl) : EX X Z (.Call (.Name x p) (e :: es) [] pos) (xCall op fs) := by
  obtain ⟨t, pa, h1⟩ := ha
  refine ⟨_, pe_callTy hc hg hm hv pa hn hdb he hpl, fun G I H σ τ s a s' Q w h q => ?_⟩
  obtain ⟨as, ea, eo⟩ := xCall_of h
  exact h1 _ _ _ _ _ _ _ _ _ w ea fun I1 H1 vs m1 w1 i1 => hr Z _ _ _ _ _ _ _ _ _ _ w1 i1 eo fun I2 H2 v m2 w2 i2 => q I2 H2 v (m1.trans m2) w2 i2
theorem en_callB {x : Str} {p : Pos} {id : String} {r : List V → Hp → VK → Prop} {op : List T → Option T} (hc : CallR X (.builtin id) r) (hr : Op1N X r op) (hg : Gl X x) (hm : X.mg x = none) (ha : EL X Z (e :: es) fs)
    (hv : bootBuiltins x = some (.builtin id) := by decide +kernel) (hn : x ≠ "__name__" := by decide) (hdb : (x == ("__debug__" : Str)) = false := by decide)
    (he : starEach (e :: es) X.env = (false, eval e X.env) :: starEach es X.env := by rfl) (hpl : (backTo pos (starEach es X.env)).any (·.1) = false := by rfl) : EN X Z (.Call (.Name x p) (e :: es) [] pos) (xCall op fs) := by
  obtain ⟨t, pa, h1⟩ := ha
  refine ⟨_, pe_callB hc hg hm hv pa hn hdb he hpl, fun G I H σ τ s a s' Q w h q => ?_⟩
  obtain ⟨as, ea, eo⟩ := xCall_of h
  exact h1 _ _ _ _ _ _ _ _ _ w ea fun I1 H1 vs m1 w1 i1 => hr Z _ _ _ _ _ _ _ _ _ _ w1 i1 eo fun I2 H2 p o m2 w2 u => q I2 H2 p o (m1.trans m2) w2 u
theorem en_callTy {x : Str} {p : Pos} {id : String} {r : List V → Hp → VK → Prop} {op : List T → Option T} (hc : CallR X (.type id) r) (hr : Op1N X r op) (hg : Gl X x) (hm : X.mg x = none) (ha : EL X Z (e :: es) fs)
    (hv : bootBuiltins x = some (.type id) := by decide +kernel) (hn : x ≠ "__name__" := by decide) (hdb : (x == ("__debug__" : Str)) = false := by decide)
    (he : starEach (e :: es) X.env = (false, eval e X.env) :: starEach es X.env := by rfl) (hpl : (backTo pos (starEach es X.env)).any (·.1) = false := by rfl) : EN X Z (.Call (.Name x p) (e :: es) [] pos) (xCall op fs) := by
  obtain ⟨t, pa, h1⟩ := ha
  refine ⟨_, pe_callTy hc hg hm hv pa hn hdb he hpl, fun G I H σ τ s a s' Q w h q => ?_⟩
  obtain ⟨as, ea, eo⟩ := xCall_of h
  exact h1 _ _ _ _ _ _ _ _ _ w ea fun I1 H1 vs m1 w1 i1 => hr Z _ _ _ _ _ _ _ _ _ _ w1 i1 eo fun I2 H2 p o m2 w2 u => q I2 H2 p o (m1.trans m2) w2 u
/-- a built-in class as a value -/
def xTy {Z : Res} (n : String) : EF Z := fun _ _ => none
/-! ### isinstance with a built-in class -/
def tyName : T → Option String
  | .non => some "NoneType"
  | .bl _ => some "bool"
  | .int _ => some "int"
  | .str _ => some "str"
  | .tup _ => some "tuple"
  | .lst _ => some "list"
  | .dct _ => some "dict"
  | _ => none
def isTy (n : String) (t : T) : Option Bool := match tyName t with
  | some m => some (m == n || (m == "bool" && n == "int"))
  | none => none
theorem tyX_of {G I H : Hp} {σ : St} {τ : List SV} {s : Z.S} (w : Rep X.K Z G I H σ τ s) {t : T} {x : V} {n : String} (i : Is X.K I t x) (h : tyName t = some n) : TyX X.K H x (.type n) := by
  cases t with
  | non => cases h; have i : x = _ := i; subst i; exact .base .non
  | bl k => cases h; have i : x = _ := i; subst i; exact .base (.bl k)
  | int k => cases h; have i : x = _ := i; subst i; exact .base (.int k)
  | str k => cases h; have i : x = _ := i; subst i; exact .base (.str k)
  | lst ts =>
    cases h
    obtain ⟨a, xs, rfl, h1, _⟩ := i
    exact .base (.lst (w.sub _ _ h1))
  | dct ts =>
    cases h
    obtain ⟨a, xs, rfl, h1, _⟩ := i
    exact .base (.dK (w.sub _ _ h1))
  | tup ts =>
    cases h
    obtain ⟨a, xs, rfl, h1, _⟩ := i
    rcases h1 with (h1 | ⟨o, h1⟩) | ⟨o, its, m, h1, h2, _⟩
    · exact .base (.tup (w.sub _ _ h1))
    · exact .fTuple (w.sub _ _ h1)
    · exact .kTuple h1 h2
  | ins C fs => cases h
  | adr C => cases h
def xIs {Z : Res} (n : String) (f : EF Z) : EF Z := fun τ s => match f τ s with
  | some (a, s') => match isTy n a with
    | some k => some (.bl k, s')
    | none => none
  | none => none
theorem kit_ty {K : PySem.W.Frag} {t : T} {m n : String} (hm : tyName t = some m) (hn : n = "str" ∨ n = "int" ∨ n = "bool" ∨ n = "tuple" ∨ n = "list" ∨ n = "dict") :
    PySem.W.kitOne K (.type m) (.type n) = some (m == n || (m == "bool" && n == "int")) := by
  cases t <;> first | (cases hm; rcases hn with rfl | rfl | rfl | rfl | rfl | rfl <;> rfl) | (cases hm; done)
theorem ex_isi {x y : Str} {p p' : Pos} {n : String} (hg : Gl X x) (hm : X.mg x = none) (he : EX X Z e f) (hgy : Gl X y) (hmy : X.mg y = none) (hvy : bootBuiltins y = some (.type n) := by decide +kernel)
    (hn : n = "str" ∨ n = "int" ∨ n = "bool" ∨ n = "tuple" ∨ n = "list" ∨ n = "dict" := by decide) (hv : bootBuiltins x = some (.builtin "isinstance") := by decide +kernel) (hnn : x ≠ "__name__" := by decide) (hdb : (x == ("__debug__" : Str)) = false := by decide)
    (hnny : y ≠ "__name__" := by decide) (hdby : (y == ("__debug__" : Str)) = false := by decide)
    (hst : starEach (e :: [.Name y p']) X.env = (false, eval e X.env) :: starEach [.Name y p'] X.env := by rfl) (hpl : (backTo pos (starEach [.Name y p'] X.env)).any (·.1) = false := by rfl) :
    EX X Z (.Call (.Name x p) [e, .Name y p'] [] pos) (xIs n f) := by
  obtain ⟨t, pe, h1⟩ := he
  refine ⟨_, pe_callB call_isi hg hm hv (pa_cons pe (pa_cons (pe_bltn hgy hmy hvy (v := .ty n) rfl hnny hdby) pa_nil) hst) hnn hdb hst hpl, fun G I H σ τ s a s' Q w h q => ?_⟩
  unfold xIs at h
  split at h
  · rename_i a s2 ea
    split at h
    · rename_i k ek
      cases h
      refine h1 _ _ _ _ _ _ _ _ _ w ea fun I1 H1 v m1 w1 i1 => ?_
      unfold isTy at ek
      split at ek
      · rename_i m em
        cases ek
        exact ⟨v, .ty n, _, _, _, rfl, .ty n, tyX_of w1 i1 em, kit_ty em hn, q I1 H1 _ m1 w1 rfl⟩
      · cases ek
    · cases h
  · cases h
/-! ### truth, tests -/
def tru : T → Option Bool
  | .non => some false
  | .bl b => some b
  | .int i => some (i != 0)
  | .str x => if x.length ≤ sizeLine then some ((x.length : Int) != 0) else none
  | .tup ts => some (!ts.isEmpty)
  | .lst ts => some (!ts.isEmpty)
  | .dct ps => some (!ps.isEmpty)
  | _ => none
theorem isEmpty_len {α β : Type} {xs : List α} {ys : List β} (h : xs.length = ys.length) : (!ys.isEmpty) = !xs.isEmpty := by
  cases xs <;> cases ys <;> simp_all
theorem IsD.len {K : PySem.W.Frag} {I : Hp} : ∀ {ts : List (Key × T)} {xs : List (Key × V)}, IsD K I ts xs → xs.length = ts.length
  | [], _, h => by
    have h : _ = [] := h
    rw [h]; rfl
  | (_, _) :: _, _, h => by
    obtain ⟨x, r, rfl, _, z⟩ := h
    rw [List.length_cons, List.length_cons, IsD.len z]
theorem truV_of {G I H : Hp} {σ : St} {τ : List SV} {s : Z.S} (w : Rep X.K Z G I H σ τ s) {t : T} {x : V} {k : Bool} (i : Is X.K I t x) (h : tru t = some k) : TruV X.K x H k := by
  cases t with
  | non => cases h; have i : x = _ := i; subst i; rfl
  | bl b => cases h; have i : x = _ := i; subst i; rfl
  | int b => cases h; have i : x = _ := i; subst i; rfl
  | str b =>
    have i : x = _ := i
    subst i
    have h : (if b.length ≤ sizeLine then some ((b.length : Int) != 0) else none) = some k := h
    split at h
    · rename_i hz
      cases h
      exact ⟨hz, rfl⟩
    · cases h
  | lst ts =>
    cases h
    obtain ⟨a, xs, rfl, h1, j⟩ := i
    exact .inl ⟨xs, .of (w.sub _ _ h1), isEmpty_len j.len⟩
  | dct ts =>
    cases h
    obtain ⟨a, xs, rfl, h1, j⟩ := i
    exact .inr (.inr ⟨xs, w.sub _ _ h1, isEmpty_len j.len⟩)
  | tup ts =>
    cases h
    obtain ⟨a, xs, rfl, h1, j⟩ := i
    exact .inr (.inl ⟨xs, sqt_mono w.sub h1, isEmpty_len j.len⟩)
  | ins C fs => cases h
  | adr C => cases h
def xTru {Z : Res} (f : EF Z) : EFb Z := fun τ s => match f τ s with
  | some (a, s') => match tru a with
    | some k => some (k, s')
    | none => none
  | none => none
theorem eb_tru (ha : EX X Z a fa) (he : ∀ whole, isTrue a X.env whole = (do let v ← whole; standAt a.pos; holding [v] (truthy v)) := by intro _; rfl) : EB X Z a (xTru fa) := by
  obtain ⟨t, p, h1⟩ := ha
  refine ⟨_, pt_truth p he, fun G I H σ τ s k s' Q w h q => ?_⟩
  unfold xTru at h
  split at h
  · rename_i a s2 ea
    split at h
    · rename_i d ed
      cases h
      exact h1 _ _ _ _ _ _ _ _ _ w ea fun I1 H1 v m1 w1 i1 => ⟨_, truV_of w1 i1 ed, q I1 H1 m1 w1⟩
    · cases h
  · cases h
def xbNot {Z : Res} (f : EFb Z) : EFb Z := fun τ s => match f τ s with
  | some (k, s') => some (!k, s')
  | none => none
theorem eb_not (ha : EB X Z a ft) : EB X Z (.UnaryOp .Not a pos) (xbNot ft) := by
  obtain ⟨t, p, h1⟩ := ha
  refine ⟨_, pt_not p, fun G I H σ τ s k s' Q w h q => ?_⟩
  unfold xbNot at h
  split at h
  · rename_i d s2 ea
    cases h
    exact h1 _ _ _ _ _ _ _ _ _ w ea fun I1 H1 m1 w1 => q I1 H1 m1 w1
  · cases h
/-- tests whatever their whole is -/
def EW (X : Cx) (Z : Res) (e : Expr) (f : EFb Z) : Prop :=
  ∃ t, PW X e t ∧ ∀ G I H σ τ s a s' Q, Rep X.K Z G I H σ τ s → f τ s = some (a, s') → HandB X Z G I σ τ s' a Q → t σ H Q
theorem eb_w (h : EW X Z e ft) : EB X Z e ft := by
  obtain ⟨t, p, h1⟩ := h
  exact ⟨t, p.pt, h1⟩
def xbAnd {Z : Res} (f g : EFb Z) : EFb Z := fun τ s => match f τ s with
  | some (true, s') => g τ s'
  | some (false, s') => some (false, s')
  | none => none
def xbOr {Z : Res} (f g : EFb Z) : EFb Z := fun τ s => match f τ s with
  | some (true, s') => some (true, s')
  | some (false, s') => g τ s'
  | none => none
theorem ew_and1 (ha : EB X Z a ft) : EW X Z (.BoolOp .And [a] pos) ft := by
  obtain ⟨t, p, h1⟩ := ha
  exact ⟨t, pw_and1 p, h1⟩
theorem ew_or1 (ha : EB X Z a ft) : EW X Z (.BoolOp .Or [a] pos) ft := by
  obtain ⟨t, p, h1⟩ := ha
  exact ⟨t, pw_or1 p, h1⟩
theorem ew_and (ha : EB X Z a ft) (hb : EW X Z (.BoolOp .And (b :: es) pos) fu) : EW X Z (.BoolOp .And (a :: b :: es) pos) (xbAnd ft fu) := by
  obtain ⟨t, p, h1⟩ := ha
  obtain ⟨u, p', h2⟩ := hb
  refine ⟨_, pw_and p p', fun G I H σ τ s k s' Q w h q => ?_⟩
  unfold xbAnd at h
  split at h
  · rename_i s2 ea
    exact h1 _ _ _ _ _ _ _ _ _ w ea fun I1 H1 m1 w1 => iteT (h2 _ _ _ _ _ _ _ _ _ w1 h fun I2 H2 m2 w2 => q I2 H2 (m1.trans m2) w2)
  · rename_i s2 ea
    cases h
    exact h1 _ _ _ _ _ _ _ _ _ w ea fun I1 H1 m1 w1 => iteF (q I1 H1 m1 w1)
  · cases h
theorem ew_or (ha : EB X Z a ft) (hb : EW X Z (.BoolOp .Or (b :: es) pos) fu) : EW X Z (.BoolOp .Or (a :: b :: es) pos) (xbOr ft fu) := by
  obtain ⟨t, p, h1⟩ := ha
  obtain ⟨u, p', h2⟩ := hb
  refine ⟨_, pw_or p p', fun G I H σ τ s k s' Q w h q => ?_⟩
  unfold xbOr at h
  split at h
  · rename_i s2 ea
    cases h
    exact h1 _ _ _ _ _ _ _ _ _ w ea fun I1 H1 m1 w1 => iteT (q I1 H1 m1 w1)
  · rename_i s2 ea
    exact h1 _ _ _ _ _ _ _ _ _ w ea fun I1 H1 m1 w1 => iteF (h2 _ _ _ _ _ _ _ _ _ w1 h fun I2 H2 m2 w2 => q I2 H2 (m1.trans m2) w2)
  · cases h
/-- .. as values -/
def xAnd {Z : Res} (f g : EF Z) : EF Z := fun τ s => match f τ s with
  | some (a, s') => match tru a with
    | some true => g τ s'
    | some false => some (a, s')
    | none => none
  | none => none
def xOr {Z : Res} (f g : EF Z) : EF Z := fun τ s => match f τ s with
  | some (a, s') => match tru a with
    | some true => some (a, s')
    | some false => g τ s'
    | none => none
  | none => none
def xNot {Z : Res} (f : EF Z) : EF Z := fun τ s => match f τ s with
  | some (a, s') => match tru a with
    | some k => some (.bl (!k), s')
    | none => none
  | none => none
theorem ex_bop1 {op : BoolOp} (h : EX X Z a fa) : EX X Z (.BoolOp op [a] pos) fa := by
  obtain ⟨t, p, h1⟩ := h
  exact ⟨t, pe_one p, h1⟩
theorem ex_and (ha : EX X Z a fa) (hb : EX X Z (.BoolOp .And (b :: es) pos) fb) : EX X Z (.BoolOp .And (a :: b :: es) pos) (xAnd fa fb) := by
  obtain ⟨t, p, h1⟩ := ha
  obtain ⟨u, p', h2⟩ := hb
  refine ⟨_, pe_andT p p', fun G I H σ τ s k s' Q w h q => ?_⟩
  unfold xAnd at h
  split at h
  · rename_i a s2 ea
    refine h1 _ _ _ _ _ _ _ _ _ w ea fun I1 H1 v m1 w1 i1 => ?_
    split at h
    · rename_i et
      exact ⟨true, truV_of w1 i1 et, iteT (h2 _ _ _ _ _ _ _ _ _ w1 h fun I2 H2 v m2 w2 i2 => q I2 H2 v (m1.trans m2) w2 i2)⟩
    · rename_i et
      cases h
      exact ⟨false, truV_of w1 i1 et, iteF (q I1 H1 v m1 w1 i1)⟩
    · cases h
  · cases h
theorem ex_or (ha : EX X Z a fa) (hb : EX X Z (.BoolOp .Or (b :: es) pos) fb) : EX X Z (.BoolOp .Or (a :: b :: es) pos) (xOr fa fb) := by
  obtain ⟨t, p, h1⟩ := ha
  obtain ⟨u, p', h2⟩ := hb
  refine ⟨_, pe_orT p p', fun G I H σ τ s k s' Q w h q => ?_⟩
  unfold xOr at h
  split at h
  · rename_i a s2 ea
    refine h1 _ _ _ _ _ _ _ _ _ w ea fun I1 H1 v m1 w1 i1 => ?_
    split at h
    · rename_i et
      cases h
      exact ⟨true, truV_of w1 i1 et, iteT (q I1 H1 v m1 w1 i1)⟩
    · rename_i et
      exact ⟨false, truV_of w1 i1 et, iteF (h2 _ _ _ _ _ _ _ _ _ w1 h fun I2 H2 v m2 w2 i2 => q I2 H2 v (m1.trans m2) w2 i2)⟩
    · cases h
  · cases h
theorem ex_not (ha : EX X Z a fa) : EX X Z (.UnaryOp .Not a pos) (xNot fa) := by
  obtain ⟨t, p, h1⟩ := ha
  refine ⟨_, pe_notT p, fun G I H σ τ s k s' Q w h q => ?_⟩
  unfold xNot at h
  split at h
  · rename_i a s2 ea
    refine h1 _ _ _ _ _ _ _ _ _ w ea fun I1 H1 v m1 w1 i1 => ?_
    split at h
    · rename_i k et
      cases h
      exact ⟨k, truV_of w1 i1 et, q I1 H1 _ m1 w1 rfl⟩
    · cases h
  · cases h
def xIf {Z : Res} (ft : EFb Z) (fa fb : EF Z) : EF Z := fun τ s => match ft τ s with
  | some (true, s') => fa τ s'
  | some (false, s') => fb τ s'
  | none => none
theorem ex_if (hc : EB X Z c ft) (ha : EX X Z a fa) (hb : EX X Z b fb) : EX X Z (.IfExp c a b pos) (xIf ft fa fb) := by
  obtain ⟨tc, pc, h0⟩ := hc
  obtain ⟨ta, pa, h1⟩ := ha
  obtain ⟨tb, pb, h2⟩ := hb
  refine ⟨_, pe_ifExp pc pa pb, fun G I H σ τ s k s' Q w h q => ?_⟩
  unfold xIf at h
  split at h
  · rename_i s2 ea
    exact h0 _ _ _ _ _ _ _ _ _ w ea fun I1 H1 m1 w1 => iteT (h1 _ _ _ _ _ _ _ _ _ w1 h fun I2 H2 v m2 w2 i2 => q I2 H2 v (m1.trans m2) w2 i2)
  · rename_i s2 ea
    exact h0 _ _ _ _ _ _ _ _ _ w ea fun I1 H1 m1 w1 => iteF (h2 _ _ _ _ _ _ _ _ _ w1 h fun I2 H2 v m2 w2 i2 => q I2 H2 v (m1.trans m2) w2 i2)
  · cases h
/-! ### methods of built-in types -/
def OpM (X : Cx) (r : V → List V → Hp → VK → Prop) (op : T → List T → Option T) : Prop :=
  ∀ (Z : Res) G I H σ τ s a as c x xs Q, Rep X.K Z G I H σ τ s → Is X.K I a x → IsL X.K I as xs → op a as = some c → Hand X Z G I σ τ s c Q → r x xs H Q
def xMeth {Z : Res} (ty : String) (op : T → List T → Option T) (f : EF Z) (fs : EFs Z) : EF Z := fun τ s => match f τ s with
  | some (a, s1) => if tyName a = some ty then match fs τ s1 with
      | some (as, s2) => match op a as with
        | some c => some (c, s2)
        | none => none
      | none => none
    else none
  | none => none
theorem tyV_of {G I H : Hp} {σ : St} {τ : List SV} {s : Z.S} (w : Rep X.K Z G I H σ τ s) {t : T} {x : V} {n : String} (i : Is X.K I t x) (h : tyName t = some n) (hn : n = "str" ∨ n = "dict" ∨ n = "list") : tyV X.K n x H := by
  cases t with
  | str k => cases h; have i : x = _ := i; subst i; rfl
  | lst ts =>
    cases h
    obtain ⟨a, xs, rfl, h1, _⟩ := i
    exact .inl ⟨rfl, xs, .of (w.sub _ _ h1)⟩
  | dct ts =>
    cases h
    obtain ⟨a, xs, rfl, h1, _⟩ := i
    exact .inr (.inr (.inl ⟨rfl, .inl ⟨xs, w.sub _ _ h1⟩⟩))
  | _ => first | (cases h; done) | (cases h; rcases hn with h | h | h <;> exact absurd h (by decide))
theorem ex_m0 {o : Expr} {fo : EF Z} {name : Str} {apos cpos : Pos} {Ty id : String} {r : V → List V → Hp → VK → Prop} {op : T → List T → Option T} (pa : PlainAttrs Ty) (slot : Slot Ty name id) (hty : typeOf (.builtin id) = pure (.type "method_descriptor"))
    (hm : MtR X id r) (hr : OpM X r op) (ho : EX X Z o fo) (hn : Ty = "str" ∨ Ty = "dict" ∨ Ty = "list" := by decide) (hbase : attributeBase o name X.env (eval o X.env) = eval o X.env := by rfl) (hline : (apos.endLine == cpos.line) = true := by rfl) :
    EX X Z (.Call (.Attribute o name apos) [] [] cpos) (xMeth Ty op fo xNil) := by
  obtain ⟨t, p, h1⟩ := ho
  refine ⟨_, pe_bm0 pa slot hty hm p hbase hline, fun G I H σ τ s a s' Q w h q => ?_⟩
  unfold xMeth at h
  split at h
  · rename_i a s1 ea
    split at h
    · rename_i et
      refine h1 _ _ _ _ _ _ _ _ _ w ea fun I1 H1 v m1 w1 i1 => ⟨tyV_of w1 i1 et hn, ?_⟩
      unfold xNil at h
      dsimp only at h
      split at h
      · rename_i c ec
        cases h
        exact hr Z _ _ _ _ _ _ _ _ _ _ _ _ w1 i1 IsL.nil ec fun I2 H2 v m2 w2 i2 => q I2 H2 v (m1.trans m2) w2 i2
      · cases h
    · cases h
  · cases h
theorem ex_m {o : Expr} {fo : EF Z} {name : Str} {apos cpos : Pos} {Ty id : String} {r : V → List V → Hp → VK → Prop} {op : T → List T → Option T} (pa : PlainAttrs Ty) (slot : Slot Ty name id) (hty : typeOf (.builtin id) = pure (.type "method_descriptor"))
    (hm : MtR X id r) (hr : OpM X r op) (ho : EX X Z o fo) (ha : EL X Z (e :: es) fs) (hn : Ty = "str" ∨ Ty = "dict" ∨ Ty = "list" := by decide) (hbase : attributeBase o name X.env (eval o X.env) = eval o X.env := by rfl)
    (hfew : ((backTo cpos (starEach (e :: es) X.env)).all (fun x => !x.1) && (backToKw cpos (keywordEach [] X.env)).all (fun x => x.1.isSome)
      && decide ((e :: es).length + ([] : List Keyword).length + (if ([] : List Keyword).isEmpty then 0 else 1) < 30)) = true := by rfl)
    (hline : (apos.endLine == cpos.line) = true := by rfl) (hs : starEach (e :: es) X.env = (false, eval e X.env) :: starEach es X.env := by rfl) (hplain : (backTo cpos (starEach es X.env)).any (·.1) = false := by rfl) :
    EX X Z (.Call (.Attribute o name apos) (e :: es) [] cpos) (xMeth Ty op fo fs) := by
  obtain ⟨t, p, h1⟩ := ho
  obtain ⟨ta, pas, h2⟩ := ha
  refine ⟨_, pe_bm pa slot hty hm p pas hbase hfew hline hs hplain, fun G I H σ τ s a s' Q w h q => ?_⟩
  unfold xMeth at h
  split at h
  · rename_i a s1 ea
    split at h
    · rename_i et
      split at h
      · rename_i as s2 eas
        split at h
        · rename_i c ec
          cases h
          refine h1 _ _ _ _ _ _ _ _ _ w ea fun I1 H1 v m1 w1 i1 => ⟨tyV_of w1 i1 et hn, ?_⟩
          refine h2 _ _ _ _ _ _ _ _ _ w1 eas fun I2 H2 vs m2 w2 i2 => ?_
          exact hr Z _ _ _ _ _ _ _ _ _ _ _ _ w2 (i1.mono m2) i2 ec fun I3 H3 v m3 w3 i3 => q I3 H3 v ((m1.trans m2).trans m3) w3 i3
        · cases h
      · cases h
    · cases h
  · cases h
end
end L2.TL
/-! TL3: statements told by trees. -/
namespace L2.TL
open PySem PySem.Spec
open PyProof.Rows
/-- how a statement ends -/
inductive Out (S : Type) where
  | nx (τ : List SV) (s : S) | rt (a : T) (s : S) | bk (τ : List SV) (s : S) | ct (τ : List SV) (s : S)
abbrev SF (Z : Res) := List SV → Z.S → Option (Out Z.S)
def Post (X : Cx) (Z : Res) (G I : Hp) (D : Ends) : Out Z.S → Prop
  | .nx τ s => ∀ I' H' σ', Same I I' → Rep X.K Z G I' H' σ' τ s → D.nx σ' H'
  | .bk τ s => ∀ I' H' σ', Same I I' → Rep X.K Z G I' H' σ' τ s → D.bk σ' H'
  | .ct τ s => ∀ I' H' σ', Same I I' → Rep X.K Z G I' H' σ' τ s → D.ct σ' H'
  | .rt a s => ∀ I' H' v, Same I I' → Rep0 Z G I' H' s → Is X.K I' a v → D.rt v H'
theorem Post.mono {X : Cx} {Z : Res} {G I I1 : Hp} {D : Ends} {o : Out Z.S} (m : Same I I1) (h : Post X Z G I D o) : Post X Z G I1 D o := by
  cases o with
  | nx τ s => exact fun I' H' σ' m' => h I' H' σ' (m.trans m')
  | bk τ s => exact fun I' H' σ' m' => h I' H' σ' (m.trans m')
  | ct τ s => exact fun I' H' σ' m' => h I' H' σ' (m.trans m')
  | rt a s => exact fun I' H' v m' => h I' H' v (m.trans m')
def SX (X : Cx) (Z : Res) (st : Stmt) (g : SF Z) : Prop :=
  ∃ t, PS X st t ∧ ∀ G I H σ τ s o D, Rep X.K Z G I H σ τ s → g τ s = some o → Post X Z G I D o → t D σ H
def SS (X : Cx) (Z : Res) (st : List Stmt) (g : SF Z) : Prop :=
  ∃ t, PSs X st t ∧ ∀ G I H σ τ s o D, Rep X.K Z G I H σ τ s → g τ s = some o → Post X Z G I D o → t D σ H
section
variable {X : Cx} {Z : Res} {st : Stmt} {sts : List Stmt} {g g1 g2 : SF Z} {e e1 e2 c : Expr} {f f1 f2 : EF Z} {fs : EFs Z} {fb : EFb Z} {pos : Pos}
def sSkip {Z : Res} : SF Z := fun τ s => some (.nx τ s)
def sSeq {Z : Res} (g1 g2 : SF Z) : SF Z := fun τ s => match g1 τ s with
  | some (.nx τ' s') => g2 τ' s'
  | o => o
theorem ss_nil : SS X Z [] sSkip := ⟨_, pss_nil, fun G I H σ τ s o D w h q => by
  cases h
  exact q I H σ (Same.refl _) w⟩
theorem ss_one (h : SX X Z st g) : SS X Z [st] g := by
  obtain ⟨t, p, h1⟩ := h
  exact ⟨t, pss_one p, h1⟩
theorem ss_cons (h1 : SX X Z st g1) (h2 : SS X Z sts g2) : SS X Z (st :: sts) (sSeq g1 g2) := by
  obtain ⟨t, p, q1⟩ := h1
  obtain ⟨u, p', q2⟩ := h2
  refine ⟨_, pss_cons p p', fun G I H σ τ s o D w h q => ?_⟩
  show t { D with nx := u D } σ H
  unfold sSeq at h
  split at h
  · rename_i τ' s' e1
    exact q1 _ _ _ _ _ _ _ _ w e1 fun I' H' σ' m w' => q2 _ _ _ _ _ _ _ _ w' h (q.mono m)
  · rename_i hn
    cases o with
    | nx τ' s' => exact absurd h (hn _ _)
    | bk τ' s' => exact q1 _ _ _ _ _ _ _ _ w h q
    | ct τ' s' => exact q1 _ _ _ _ _ _ _ _ w h q
    | rt a s' => exact q1 _ _ _ _ _ _ _ _ w h q
theorem sx_pass : SX X Z (.Pass pos) sSkip := ⟨_, ps_pass, fun G I H σ τ s o D w h q => by
  cases h
  exact q I H σ (Same.refl _) w⟩
theorem sx_doc {x : Str} {j : Nat} {pos' : Pos} : SX X Z (.Expr (.Constant (.str x) j pos) pos') sSkip := ⟨_, ps_doc, fun G I H σ τ s o D w h q => by
  cases h
  exact q I H σ (Same.refl _) w⟩
def sBk {Z : Res} : SF Z := fun τ s => some (.bk τ s)
def sCt {Z : Res} : SF Z := fun τ s => some (.ct τ s)
theorem sx_bk : SX X Z (.Break pos) sBk := ⟨_, ps_break, fun G I H σ τ s o D w h q => by
  cases h
  exact q I H σ (Same.refl _) w⟩
theorem sx_ct : SX X Z (.Continue pos) sCt := ⟨_, ps_continue, fun G I H σ τ s o D w h q => by
  cases h
  exact q I H σ (Same.refl _) w⟩
def sRet {Z : Res} (f : EF Z) : SF Z := fun τ s => match f τ s with
  | some (a, s') => some (.rt a s')
  | none => none
theorem sx_ret (h : EX X Z e f) : SX X Z (.Return (some e) pos) (sRet f) := by
  obtain ⟨t, p, h1⟩ := h
  refine ⟨_, ps_ret p, fun G I H σ τ s o D w h q => ?_⟩
  unfold sRet at h
  split at h
  · rename_i a s' ea
    cases h
    exact h1 _ _ _ _ _ _ _ _ _ w ea fun I' H' v m w' i => q I' H' v m w'.toRep0 i
  · cases h
def sRetN {Z : Res} : SF Z := fun _ s => some (.rt .non s)
theorem sx_retN : SX X Z (.Return none pos) sRetN := ⟨_, ps_retN, fun G I H σ τ s o D w h q => by
  cases h
  exact q I H .non (Same.refl _) w.toRep0 rfl⟩
def sDrop {Z : Res} (f : EF Z) : SF Z := fun τ s => match f τ s with
  | some (_, s') => some (.nx τ s')
  | none => none
theorem sx_expr (h : EX X Z e f) (hs : swapsWith e none pos.line X.env = pure false := by rfl) : SX X Z (.Expr e pos) (sDrop f) := by
  obtain ⟨t, p, h1⟩ := h
  refine ⟨_, ps_expr p hs, fun G I H σ τ s o D w h q => ?_⟩
  unfold sDrop at h
  split at h
  · rename_i a s' ea
    cases h
    exact h1 _ _ _ _ _ _ _ _ _ w ea fun I' H' v m w' i => q I' H' σ m w'
  · cases h
def sIf {Z : Res} (c : EFb Z) (g1 g2 : SF Z) : SF Z := fun τ s => match c τ s with
  | some (true, s') => g1 τ s'
  | some (false, s') => g2 τ s'
  | none => none
theorem sx_if {a b : List Stmt} (hc : EB X Z c fb) (ha : SS X Z a g1) (hb : SS X Z b g2) : SX X Z (.If c a b pos) (sIf fb g1 g2) := by
  obtain ⟨t, p, h0⟩ := hc
  obtain ⟨ta, pa, h1⟩ := ha
  obtain ⟨tb, pb, h2⟩ := hb
  refine ⟨_, ps_if p pa pb, fun G I H σ τ s o D w h q => ?_⟩
  unfold sIf at h
  split at h
  · rename_i s' ec
    exact h0 _ _ _ _ _ _ _ _ _ w ec fun I' H' m w' => iteT (h1 _ _ _ _ _ _ _ _ w' h (q.mono m))
  · rename_i s' ec
    exact h0 _ _ _ _ _ _ _ _ _ w ec fun I' H' m w' => iteF (h2 _ _ _ _ _ _ _ _ w' h (q.mono m))
  · cases h
/-! ### stores -/
def sSet {Z : Res} (i : Nat) (f : EF Z) : SF Z := fun τ s => match f τ s with
  | some (a, s') => if i < τ.length then some (.nx (τ.set i (.im a)) s') else none
  | none => none
/-- .. of a new object, the slot's own -/
def sSetO {Z : Res} (i : Nat) (f : EF Z) : SF Z := fun τ s => match f τ s with
  | some (a, s') => if i < τ.length then some (.nx (τ.set i (.ow a)) s') else none
  | none => none
theorem sx_set {i : Nat} {x : Str} {pos' : Pos} (hN : X.N.Nodup) (hi : X.N[i]? = some x := by rfl) (he : EX X Z e f) (hx : Loc X.env.scope x := by first | exact Or.inl rfl | exact Or.inr rfl) (hs : swapsWith e (some (.Name x pos')) pos.line X.env = pure false := by rfl)
    (hf : X.fn x = true ∨ X.env.scope.names.lookup x = some .local := by first | exact .inl rfl | exact .inr rfl | assumption) : SX X Z (.Assign [.Name x pos'] e pos) (sSet i f) := by
  obtain ⟨t, p, h1⟩ := he
  refine ⟨_, ps_set hN hi hx p hs hf, fun G I H σ τ s o D w h q => ?_⟩
  unfold sSet at h
  split at h
  · rename_i a s' ea
    split at h
    · rename_i hl
      cases h
      exact h1 _ _ _ _ _ _ _ _ _ w ea fun I' H' v m w' i' => q I' H' _ m (w'.setIm hl i')
    · cases h
  · cases h
theorem sx_setO {i : Nat} {x : Str} {pos' : Pos} (hN : X.N.Nodup) (hi : X.N[i]? = some x := by rfl) (he : EN X Z e f) (hx : Loc X.env.scope x := by first | exact Or.inl rfl | exact Or.inr rfl) (hs : swapsWith e (some (.Name x pos')) pos.line X.env = pure false := by rfl)
    (hf : X.fn x = true ∨ X.env.scope.names.lookup x = some .local := by first | exact .inl rfl | exact .inr rfl | assumption) : SX X Z (.Assign [.Name x pos'] e pos) (sSetO i f) := by
  obtain ⟨t, p, h1⟩ := he
  refine ⟨_, ps_set hN hi hx p hs hf, fun G I H σ τ s o D w h q => ?_⟩
  unfold sSetO at h
  split at h
  · rename_i a s' ea
    split at h
    · rename_i hl
      cases h
      exact h1 _ _ _ _ _ _ _ _ _ w ea fun I' H' p o m w' u => q I' H' _ m (w'.setOw hl u)
    · cases h
  · cases h
/-- a slot's own object lasts from now on: ahead of any block -/
def sFreeze {Z : Res} (i : Nat) (g : SF Z) : SF Z := fun τ s => match τ[i]? with
  | some (.ow t) => g (τ.set i (.im t)) s
  | _ => none
theorem ss_freeze (i : Nat) (h : SS X Z sts g) : SS X Z sts (sFreeze i g) := by
  obtain ⟨t, p, h1⟩ := h
  refine ⟨t, p, fun G I H σ τ s o D w h q => ?_⟩
  unfold sFreeze at h
  split at h
  · rename_i a ea
    obtain ⟨I', m, w'⟩ := w.freeze ea
    exact h1 _ _ _ _ _ _ _ _ w' h (q.mono m)
  · cases h
/-! ### targets -/
abbrev GF := T → List SV → Option (List SV)
def GX (X : Cx) (Z : Res) (tg : Expr) (g : GF) : Prop :=
  ∃ t : TG, PG X tg t ∧ ∀ G I H σ τ (s : Z.S) a v τ' Q, Rep X.K Z G I H σ τ s → Is X.K I a v → g a τ = some τ' → (∀ σ', Rep X.K Z G I H σ' τ' s → Q σ' H) → t v σ H Q
abbrev GFs := List T → List SV → Option (List SV)
def GXs (X : Cx) (Z : Res) (tg : List Expr) (g : GFs) : Prop :=
  ∃ t : TGs, PGs X tg t ∧ ∀ G I H σ τ (s : Z.S) as vs τ' Q, Rep X.K Z G I H σ τ s → IsL X.K I as vs → g as τ = some τ' → (∀ σ', Rep X.K Z G I H σ' τ' s → Q σ' H) → t vs σ H Q
def gSet (i : Nat) : GF := fun a τ => if i < τ.length then some (τ.set i (.im a)) else none
theorem gx_name {i : Nat} {x : Str} (hN : X.N.Nodup) (hi : X.N[i]? = some x := by rfl) (hx : Loc X.env.scope x := by first | exact Or.inl rfl | exact Or.inr rfl)
    (hf : X.fn x = true ∨ X.env.scope.names.lookup x = some .local := by first | exact .inl rfl | exact .inr rfl | assumption) : GX X Z (.Name x pos) (gSet i) := by
  refine ⟨_, pg_name hN hi hx hf, fun G I H σ τ s a v τ' Q w ia h q => ?_⟩
  unfold gSet at h
  split at h
  · rename_i hl
    cases h
    exact q _ (w.setIm hl ia)
  · cases h
def gsNil : GFs := fun as τ => match as with
  | [] => some τ
  | _ => none
def gsCons (g : GF) (gs : GFs) : GFs := fun as τ => match as with
  | a :: r => match g a τ with
    | some τ' => gs r τ'
    | none => none
  | _ => none
theorem gxs_nil : GXs X Z [] gsNil := ⟨_, pgs_nil, fun G I H σ τ s as vs τ' Q w ia h q => by
  cases as with
  | nil =>
    cases h
    exact ⟨ia.zero, q σ w⟩
  | cons _ _ => cases h⟩
theorem gxs_cons {tg : Expr} {tgs : List Expr} {g : GF} {gs : GFs} (h1 : GX X Z tg g) (h2 : GXs X Z tgs gs) (hs : (assignEach (tg :: tgs) X.env).map (·.2) = assign tg X.env :: (assignEach tgs X.env).map (·.2) := by rfl) : GXs X Z (tg :: tgs) (gsCons g gs) := by
  obtain ⟨t, p, q1⟩ := h1
  obtain ⟨u, p', q2⟩ := h2
  refine ⟨_, pgs_cons p p' hs, fun G I H σ τ s as vs τ' Q w ia h q => ?_⟩
  cases as with
  | nil => cases h
  | cons a r =>
    obtain ⟨v, vr, rfl, i1, i2⟩ := ia
    have h : (match g a τ with
      | some τ' => gs r τ'
      | none => none) = some τ' := h
    split at h
    · rename_i τ1 e1
      exact ⟨v, vr, rfl, q1 _ _ _ _ _ s _ _ _ _ w i1 e1 fun σ1 w1 => q2 _ _ _ _ _ s _ _ _ _ w1 i2 h q⟩
    · cases h
def gTupT (n : Nat) (gs : GFs) : GF := fun a τ => match a with
  | .tup as => if as.length = n then gs as τ else none
  | _ => none
theorem gx_tup {es : List Expr} {k : Nat} {gs : GFs} {n : Nat} (hc : X.calm = true) (h : GXs X Z es gs) (hn : (assignEach es X.env).length = n := by rfl) (hst : (assignEach es X.env).findIdx? (·.1) = none := by rfl) : GX X Z (.Tuple es k pos) (gTupT n gs) := by
  obtain ⟨t, p, q1⟩ := h
  refine ⟨_, pg_tup hc p hn hst, fun G I H σ τ s a v τ' Q w ia h q => ?_⟩
  unfold gTupT at h
  split at h
  · rename_i as
    split at h
    · rename_i hl
      obtain ⟨b, xs, rfl, hq, j⟩ := ia
      exact ⟨b, xs, rfl, sqt_mono w.sub hq, by rw [j.len]; exact hl, q1 _ _ _ _ _ s _ _ _ _ w j h q⟩
    · cases h
  · cases h
/-- a target of any form = e -/
def sAsg {Z : Res} (f : EF Z) (g : GF) : SF Z := fun τ s => match f τ s with
  | some (a, s') => match g a τ with
    | some τ' => some (.nx τ' s')
    | none => none
  | none => none
theorem sx_asg {tg : Expr} {g : GF} (he : EX X Z e f) (hg : GX X Z tg g) (hs : swapsWithSole [tg] e pos.line X.env = pure false := by rfl) (hw : swappedStores [tg] e X.env = pure none := by rfl)
    (h1 : (assignEach [tg] X.env).map (·.2) = [assign tg X.env] := by rfl) : SX X Z (.Assign [tg] e pos) (sAsg f g) := by
  obtain ⟨t, p, q1⟩ := he
  obtain ⟨u, p', q2⟩ := hg
  refine ⟨_, ps_asg p p' hs hw h1, fun G I H σ τ s o D w h q => ?_⟩
  unfold sAsg at h
  split at h
  · rename_i a s' ea
    split at h
    · rename_i τ' et
      cases h
      exact q1 _ _ _ _ _ _ _ _ _ w ea fun I' H' v m w' i' => q2 _ _ _ _ _ s' _ _ _ _ w' i' et fun σ' w2 => q I' H' σ' m w2
    · cases h
  · cases h
/-- a, b = x, y (both sides written) -/
def sPar {Z : Res} (i j : Nat) (fs : EFs Z) : SF Z := fun τ s => match fs τ s with
  | some ([a, b], s') => if i < τ.length ∧ j < τ.length then some (.nx ((τ.set i (.im a)).set j (.im b)) s') else none
  | _ => none
theorem sx_par {i j : Nat} {x y : Str} {a b : Expr} {px py pt : Pos} {kt k2 : Nat} {pt2 : Pos} (hc : X.calm = true) (hN : X.N.Nodup) (hi : X.N[i]? = some x := by rfl) (hj : X.N[j]? = some y := by rfl) (ha : EL X Z [a, b] fs) (hij : i ≠ j := by decide)
    (hx : X.env.scope.names.lookup x = some .local := by rfl) (hy : X.env.scope.names.lookup y = some .local := by rfl)
    (hw : swappedStores [.Tuple [.Name x px, .Name y py] kt pt] (.Tuple [a, b] k2 pt2) X.env = pure (some [x, y]) := by rfl)
    (hs : swapsWithSole [.Tuple [.Name x px, .Name y py] kt pt] (.Tuple [a, b] k2 pt2) pos.line X.env = pure false := by rfl) :
    SX X Z (.Assign [.Tuple [.Name x px, .Name y py] kt pt] (.Tuple [a, b] k2 pt2) pos) (sPar i j fs) := by
  obtain ⟨t, p, q1⟩ := ha
  refine ⟨_, ps_par hc hN hi hj hij hx hy p hw hs, fun G I H σ τ s o D w h q => ?_⟩
  unfold sPar at h
  split at h
  · rename_i u v s' ea
    split at h
    · rename_i hl
      cases h
      refine q1 _ _ _ _ _ _ _ _ _ w ea fun I' H' vs m w' il => ?_
      obtain ⟨y1, y2, rfl, i1, i2⟩ := il.two
      exact ⟨y1, y2, rfl, q I' H' _ m ((w'.setIm hl.1 i1).setIm (by rw [List.length_set]; exact hl.2) i2)⟩
    · cases h
  · cases h
def sPar3 {Z : Res} (i j l : Nat) (fs : EFs Z) : SF Z := fun τ s => match fs τ s with
  | some ([a, b, c], s') => if i < τ.length ∧ j < τ.length ∧ l < τ.length then some (.nx (((τ.set i (.im a)).set j (.im b)).set l (.im c)) s') else none
  | _ => none
/-! ### what is walked -/
/-- J hands out the items, whatever else is made meanwhile -/
def Walks' (K : PySem.W.Frag) (J : It) (I0 : Hp) (items : List T) : Prop :=
  ∀ I H, Same I0 I → Same I H → J.stop items.length H ∧ ∀ (i : Nat) (t : T), items[i]? = some t → J.go i H ∧ ∀ x H', J.yld i H x H' → ∃ I', Ext (fun _ => False) I H I' H' ∧ Is K I' t x
def IX (X : Cx) (Z : Res) (tg it : Expr) (f : EFs Z) : Prop :=
  ∃ wi, PI X tg it wi ∧ ∀ G I H σ τ s items s' R, Rep X.K Z G I H σ τ s → f τ s = some (items, s') → (∀ I' H' J, Same I I' → Rep X.K Z G I' H' σ τ s' → Walks' X.K J I' items → R J H') → wi σ H R
/-- a list or a tuple -/
def iSeq {Z : Res} (f : EF Z) : EFs Z := fun τ s => match f τ s with
  | some (.lst ts, s') => some (ts, s')
  | _ => none
def iTupl {Z : Res} (f : EF Z) : EFs Z := fun τ s => match f τ s with
  | some (.tup ts, s') => some (ts, s')
  | _ => none
theorem sqT_inj {G I H : Hp} {σ : St} {τ : List SV} {s : Z.S} : True := trivial
theorem ix_lst {tg : Expr} (h : EX X Z e f) : IX X Z tg e (iSeq f) := by
  obtain ⟨t, p, h1⟩ := h
  refine ⟨_, pi_list p, fun G I H σ τ s items s' R w h q => ?_⟩
  unfold iSeq at h
  split at h
  · rename_i ts s2 ea
    cases h
    refine h1 _ _ _ _ _ _ _ _ _ w ea fun I' H' v m w' i => ?_
    obtain ⟨a, xs, rfl, ha, j⟩ := i
    refine ⟨a, rfl, ⟨xs, .of (w'.sub _ _ ha)⟩, q I' H' _ m w' fun I2 H2 m2 s2 => ?_⟩
    have hs : SqL X.K H2 a xs := .of (s2 _ _ (m2 _ _ ha))
    refine ⟨⟨xs, hs, by rw [j.len]; exact Nat.le_refl _⟩, fun i t e => ?_⟩
    obtain ⟨x, e1, e2⟩ := j.at e
    refine ⟨⟨xs, x, hs, e1⟩, fun y H3 hy => ?_⟩
    obtain ⟨rfl, hy⟩ := hy
    have := hy xs hs
    rw [e1] at this
    cases this
    exact ⟨I2, Ext.refl s2, e2.mono m2⟩
  · cases h
theorem ix_tupl {tg : Expr} (h : EX X Z e f) : IX X Z tg e (iTupl f) := by
  obtain ⟨t, p, h1⟩ := h
  refine ⟨_, pi_tup p, fun G I H σ τ s items s' R w h q => ?_⟩
  unfold iTupl at h
  split at h
  · rename_i ts s2 ea
    cases h
    refine h1 _ _ _ _ _ _ _ _ _ w ea fun I' H' v m w' i => ?_
    obtain ⟨a, xs, rfl, ha, j⟩ := i
    refine ⟨a, rfl, ⟨xs, sqt_mono w'.sub ha⟩, q I' H' _ m w' fun I2 H2 m2 s2 => ?_⟩
    have hs : SqT X.K H2 a xs := sqt_mono s2 (sqt_mono m2 ha)
    refine ⟨⟨xs, hs, by rw [j.len]; exact Nat.le_refl _⟩, fun i t e => ?_⟩
    obtain ⟨x, e1, e2⟩ := j.at e
    refine ⟨⟨xs, x, hs, e1⟩, fun y H3 hy => ?_⟩
    obtain ⟨rfl, hy⟩ := hy
    have := hy xs hs
    rw [e1] at this
    cases this
    exact ⟨I2, Ext.refl s2, e2.mono m2⟩
  · cases h
/-- range(n), range(a, b) -/
def intsFrom (lo : Int) : Nat → List T
  | 0 => []
  | n + 1 => .int lo :: intsFrom (lo + 1) n
theorem intsFrom_len : ∀ (n : Nat) (lo : Int), (intsFrom lo n).length = n
  | 0, _ => rfl
  | n + 1, lo => by rw [intsFrom, List.length_cons, intsFrom_len n]
theorem intsFrom_at : ∀ (n : Nat) (lo : Int) (i : Nat) (t : T), (intsFrom lo n)[i]? = some t → i < n ∧ t = .int (lo + i)
  | 0, _, _, _, h => by simp [intsFrom] at h
  | n + 1, lo, 0, t, h => by
    simp [intsFrom] at h
    subst h
    exact ⟨Nat.succ_pos _, by simp⟩
  | n + 1, lo, i + 1, t, h => by
    obtain ⟨h1, h2⟩ := intsFrom_at n (lo + 1) i t (by simpa [intsFrom] using h)
    subst h2
    refine ⟨Nat.succ_lt_succ h1, ?_⟩
    have : lo + 1 + (i : Int) = lo + ((i + 1 : Nat) : Int) := by push_cast; omega
    rw [this]
def iRng {Z : Res} (f : EF Z) : EFs Z := fun τ s => match f τ s with
  | some (.int n, s') => if -(2 ^ 62) ≤ n ∧ n < 2 ^ 62 then some (intsFrom 0 n.toNat, s') else none
  | _ => none
def iRngAB {Z : Res} (f1 f2 : EF Z) : EFs Z := fun τ s => match f1 τ s with
  | some (.int m, s1) => match f2 τ s1 with
    | some (.int n, s') => if -(2 ^ 62) ≤ m ∧ m < 2 ^ 62 ∧ -(2 ^ 62) ≤ n ∧ n < 2 ^ 62 then some (intsFrom m (n - m).toNat, s') else none
    | _ => none
  | _ => none
theorem walks_range (K : PySem.W.Frag) (I0 : Hp) (lo : Int) (n : Nat) : Walks' K (Itr lo n) I0 (intsFrom lo n) := fun I H m sb => by
  rw [intsFrom_len]
  refine ⟨Nat.le_refl _, fun i t e => ?_⟩
  obtain ⟨h1, rfl⟩ := intsFrom_at _ _ _ _ e
  refine ⟨h1, fun x H' hy => ?_⟩
  obtain ⟨rfl, rfl⟩ := hy
  exact ⟨I, Ext.refl sb, rfl⟩
theorem ix_rng {tg : Expr} {p : Pos} (hg : Gl X "range") (hm : X.mg "range" = none) (h : EX X Z e f) (hs : starEach [e] X.env = [(false, eval e X.env)] := by rfl) : IX X Z tg (.Call (.Name "range" p) [e] [] pos) (iRng f) := by
  obtain ⟨t, pe, h1⟩ := h
  refine ⟨_, pi_range1 hg hm (pa_cons pe pa_nil (by rw [hs]; rfl)) hs, fun G I H σ τ s items s' R w h q => ?_⟩
  unfold iRng at h
  split at h
  · rename_i n s2 ea
    split at h
    · rename_i hn
      cases h
      refine h1 _ _ _ _ _ _ _ _ _ w ea fun I' H' v m w' i => ?_
      have i : v = _ := i
      subst i
      exact ⟨n, rfl, hn.1, hn.2, q I' H' _ m w' (walks_range _ _ _ _)⟩
    · cases h
  · cases h
theorem ix_rngAB {tg : Expr} {p : Pos} (hg : Gl X "range") (hm : X.mg "range" = none) (h : EX X Z e1 f1) (h' : EX X Z e2 f2) (hs : starEach [e1, e2] X.env = [(false, eval e1 X.env), (false, eval e2 X.env)] := by rfl) (hs2 : starEach [e2] X.env = [(false, eval e2 X.env)] := by rfl) :
    IX X Z tg (.Call (.Name "range" p) [e1, e2] [] pos) (iRngAB f1 f2) := by
  obtain ⟨t, pe, q1⟩ := h
  obtain ⟨t', pe', q2⟩ := h'
  refine ⟨_, pi_range2 hg hm (pa_cons pe (pa_cons pe' pa_nil (by rw [hs2]; rfl)) (by rw [hs, hs2])) hs hs2, fun G I H σ τ s items s' R w h q => ?_⟩
  unfold iRngAB at h
  split at h
  · rename_i n s2 ea
    split at h
    · rename_i k s3 eb
      split at h
      · rename_i hn
        cases h
        refine q1 _ _ _ _ _ _ _ _ _ w ea fun I' H' v m w' i => ?_
        refine q2 _ _ _ _ _ _ _ _ _ w' eb fun I2 H2 v2 m2 w2 i2 => ?_
        have i : v = _ := i
        have i2 : v2 = _ := i2
        subst i i2
        exact ⟨n, k, rfl, hn, q I2 H2 _ (m.trans m2) w2 (walks_range _ _ _ _)⟩
      · cases h
    · cases h
  · cases h
/-- a text, sign by sign -/
def signs (x : Str) : List T := x.cps.toList.map fun c => .str ⟨#[c]⟩
def iStr {Z : Res} (f : EF Z) : EFs Z := fun τ s => match f τ s with
  | some (.str x, s') => some (signs x, s')
  | _ => none
theorem ix_str' {tg : Expr} (h : EX X Z e f) : IX X Z tg e (iStr f) := by
  obtain ⟨t, p, h1⟩ := h
  refine ⟨_, pi_str p, fun G I H σ τ s items s' R w h q => ?_⟩
  unfold iStr at h
  split at h
  · rename_i x s2 ea
    cases h
    refine h1 _ _ _ _ _ _ _ _ _ w ea fun I' H' v m w' i => ?_
    have i : v = _ := i
    subst i
    refine ⟨x, rfl, q I' H' _ m w' fun I2 H2 m2 sb => ?_⟩
    have hl : (signs x).length = x.cps.size := by simp [signs]
    rw [hl]
    refine ⟨Nat.le_refl _, fun i t e => ?_⟩
    have hi : i < x.cps.size := by
      have := (List.getElem?_eq_some_iff.mp e).1
      omega
    refine ⟨hi, fun y H3 hy => ?_⟩
    obtain ⟨rfl, c, hc, rfl⟩ := hy
    refine ⟨I2, Ext.refl sb, ?_⟩
    unfold signs at e
    rw [List.getElem?_map, Array.getElem?_toList, hc] at e
    cases e
    rfl
  · cases h
/-! ### for, while -/
def sFor {Z : Res} (gt : GF) (gb : SF Z) : List T → SF Z
  | [] => fun τ s => some (.nx τ s)
  | a :: r => fun τ s => match gt a τ with
    | some τ1 => match gb τ1 s with
      | some (.nx τ2 s2) => sFor gt gb r τ2 s2
      | some (.ct τ2 s2) => sFor gt gb r τ2 s2
      | some (.bk τ2 s2) => some (.nx τ2 s2)
      | some (.rt v s2) => some (.rt v s2)
      | none => none
    | none => none
def sForE {Z : Res} (fi : EFs Z) (gt : GF) (gb : SF Z) : SF Z := fun τ s => match fi τ s with
  | some (items, s') => sFor gt gb items τ s'
  | none => none
theorem drop_at {α : Type} {l : List α} {i : Nat} {a : α} {r : List α} (h : l.drop i = a :: r) : l[i]? = some a ∧ l.drop (i + 1) = r := by
  have hi : i < l.length := by
    rcases Nat.lt_or_ge i l.length with h' | h'
    · exact h'
    · rw [List.drop_eq_nil_of_le h'] at h
      cases h
  rw [List.drop_eq_getElem_cons hi] at h
  injection h with h1 h2
  exact ⟨by rw [List.getElem?_eq_getElem hi, h1], h2⟩
theorem sx_for {tg it : Expr} {body : List Stmt} {fi : EFs Z} {gt : GF} {gb : SF Z} (hp : PassesOwn (model X.prog X.w) X.A X.env X.xe) (hc : X.calm = true) (hi : IX X Z tg it fi) (hg : GX X Z tg gt) (hb : SS X Z body gb)
    (hs : ∀ x, foldedSetIterable it X.env x = pure x := by intro _; rfl) : SX X Z (.For tg it body [] pos) (sForE fi gt gb) := by
  obtain ⟨wi, pi, hwi⟩ := hi
  obtain ⟨tg', pg, hg⟩ := hg
  obtain ⟨tb, pb, hb⟩ := hb
  refine ⟨_, ps_for hp hc pi pg pb hs, fun G I H σ τ s o D w h q => ?_⟩
  unfold sForE at h
  split at h
  · rename_i items s1 ei
    refine hwi _ _ _ _ _ _ _ _ _ w ei fun I1 H1 J m1 w1 wk => ?_
    refine ⟨fun i m σ H => m = items.length - i ∧ i ≤ items.length ∧ ∃ I τ s, Same I1 I ∧ Rep X.K Z G I H σ τ s ∧ sFor gt gb (items.drop i) τ s = some o, ⟨_, rfl, Nat.zero_le _, I1, τ, s1, Same.refl _, w1, by rw [List.drop_zero]; exact h⟩, ?_⟩
    rintro i m σ2 H2 ⟨rfl, hle, I2, τ2, s2, m2, w2, e2⟩
    obtain ⟨st, gy⟩ := wk I2 H2 m2 w2.sub
    cases ed : items.drop i with
    | nil =>
      have hi : i = items.length := by
        have := congrArg List.length ed
        rw [List.length_drop, List.length_nil] at this
        omega
      subst hi
      rw [ed] at e2
      cases e2
      exact .inl ⟨st, q I2 H2 σ2 (m1.trans m2) w2⟩
    | cons a r =>
      obtain ⟨ea, er⟩ := drop_at ed
      have hi : i < items.length := (List.getElem?_eq_some_iff.mp ea).1
      obtain ⟨go, yl⟩ := gy i a ea
      rw [ed] at e2
      have e2 : (match gt a τ2 with
        | some τ1 => match gb τ1 s2 with
          | some (.nx τ2 s2) => sFor gt gb r τ2 s2
          | some (.ct τ2 s2) => sFor gt gb r τ2 s2
          | some (.bk τ2 s2) => some (.nx τ2 s2)
          | some (.rt v s2) => some (.rt v s2)
          | none => none
        | none => none) = some o := e2
      refine .inr ⟨go, fun σ H => ∃ I τ s, Same I1 I ∧ Rep X.K Z G I H σ τ s ∧ sFor gt gb r τ s = some o, fun σ' H' ⟨I', τ', s', hm, hw, he⟩ => ⟨items.length - (i + 1), by omega, rfl, hi, I', τ', s', hm, hw, by rw [er]; exact he⟩, fun x H3 hy => ?_⟩
      obtain ⟨I3, ex, ix⟩ := yl x H3 hy
      have w3 := w2.extN ex
      split at e2
      · rename_i τ3 et
        refine hg _ _ _ _ _ s2 _ _ _ _ w3 ix et fun σ3 w4 => ?_
        have m3 := m2.trans ex.im
        split at e2
        · rename_i τ4 s4 eb
          exact hb _ _ _ _ _ _ _ _ w4 eb fun I' H' σ' hm hw => ⟨I', τ4, s4, m3.trans hm, hw, e2⟩
        · rename_i τ4 s4 eb
          exact hb _ _ _ _ _ _ _ _ w4 eb fun I' H' σ' hm hw => ⟨I', τ4, s4, m3.trans hm, hw, e2⟩
        · rename_i τ4 s4 eb
          cases e2
          exact hb _ _ _ _ _ _ _ _ w4 eb fun I' H' σ' hm hw => q I' H' σ' (m1.trans (m3.trans hm)) hw
        · rename_i v s4 eb
          cases e2
          exact hb _ _ _ _ _ _ _ _ w4 eb fun I' H' v' hm hw hi' => q I' H' v' (m1.trans (m3.trans hm)) hw hi'
        · cases e2
      · cases e2
  · cases h
def sWhileN {Z : Res} (c : EFb Z) (gb : SF Z) : Nat → SF Z
  | 0 => fun _ _ => none
  | n + 1 => fun τ s => match c τ s with
    | some (false, s1) => some (.nx τ s1)
    | some (true, s1) => match gb τ s1 with
      | some (.nx τ2 s2) => sWhileN c gb n τ2 s2
      | some (.ct τ2 s2) => sWhileN c gb n τ2 s2
      | some (.bk τ2 s2) => some (.nx τ2 s2)
      | some (.rt v s2) => some (.rt v s2)
      | none => none
    | none => none
open Classical in
/-- .. however many turns it takes -/
noncomputable def sWhile {Z : Res} (c : EFb Z) (gb : SF Z) : SF Z := fun τ s => if h : ∃ n o, sWhileN c gb n τ s = some o then sWhileN c gb h.choose τ s else none
theorem sWhileN_succ {c : EFb Z} {gb : SF Z} : ∀ (n : Nat) (τ : List SV) (s : Z.S) (o : Out Z.S), sWhileN c gb n τ s = some o → sWhileN c gb (n + 1) τ s = some o
  | 0, _, _, _, h => by cases h
  | n + 1, τ, s, o, h => by
    unfold sWhileN at h ⊢
    split at h
    · exact h
    · split at h
      · exact sWhileN_succ n _ _ _ h
      · exact sWhileN_succ n _ _ _ h
      · exact h
      · exact h
      · cases h
    · cases h
theorem sWhileN_le {c : EFb Z} {gb : SF Z} {n m : Nat} (hnm : n ≤ m) {τ : List SV} {s : Z.S} {o : Out Z.S} (h : sWhileN c gb n τ s = some o) : sWhileN c gb m τ s = some o := by
  induction hnm with
  | refl => exact h
  | step _ ih => exact sWhileN_succ _ _ _ _ ih
theorem sWhile_eq {c : EFb Z} {gb : SF Z} {n : Nat} {τ : List SV} {s : Z.S} {o : Out Z.S} (h : sWhileN c gb n τ s = some o) : sWhile c gb τ s = some o := by
  have hx : ∃ n o, sWhileN c gb n τ s = some o := ⟨n, o, h⟩
  unfold sWhile
  rw [dif_pos hx]
  obtain ⟨o', h'⟩ := hx.choose_spec
  rw [h']
  have e1 := sWhileN_le (Nat.le_max_left n hx.choose) h
  have e2 := sWhileN_le (Nat.le_max_right n hx.choose) h'
  rw [e1] at e2
  exact e2.symm
theorem sWhile_some {c : EFb Z} {gb : SF Z} {τ : List SV} {s : Z.S} {o : Out Z.S} (h : sWhile c gb τ s = some o) : ∃ n, sWhileN c gb n τ s = some o := by
  unfold sWhile at h
  split at h
  · exact ⟨_, h⟩
  · cases h
theorem sx_while {body : List Stmt} {gb : SF Z} (hp : PassesOwn (model X.prog X.w) X.A X.env X.xe) (hc : EB X Z c fb) (hb : SS X Z body gb) : SX X Z (.While c body [] pos) (sWhile fb gb) := by
  obtain ⟨tc, pc, hc⟩ := hc
  obtain ⟨tb, pb, hb⟩ := hb
  refine ⟨_, ps_while hp pc pb, fun G I H σ τ s o D w h q => ?_⟩
  obtain ⟨n, h⟩ := sWhile_some h
  refine ⟨fun m σ H => ∃ I' τ s, Same I I' ∧ Rep X.K Z G I' H σ τ s ∧ sWhileN fb gb m τ s = some o, ⟨n, I, τ, s, Same.refl _, w, h⟩, ?_⟩
  rintro m σ1 H1 ⟨I1, τ1, s1, m1, w1, e1⟩
  cases m with
  | zero => cases e1
  | succ m =>
    unfold sWhileN at e1
    split at e1
    · rename_i s2 ec
      cases e1
      exact hc _ _ _ _ _ _ _ _ _ w1 ec fun I2 H2 m2 w2 => iteF (q I2 H2 σ1 (m1.trans m2) w2)
    · rename_i s2 ec
      refine hc _ _ _ _ _ _ _ _ _ w1 ec fun I2 H2 m2 w2 => iteT ⟨fun σ H => ∃ I' τ s, Same I I' ∧ Rep X.K Z G I' H σ τ s ∧ sWhileN fb gb m τ s = some o, fun σ' H' hh => ⟨m, Nat.lt_succ_self _, hh⟩, ?_⟩
      have m3 := m1.trans m2
      split at e1
      · rename_i τ4 s4 eb
        exact hb _ _ _ _ _ _ _ _ w2 eb fun I' H' σ' hm hw => ⟨I', τ4, s4, m3.trans hm, hw, e1⟩
      · rename_i τ4 s4 eb
        exact hb _ _ _ _ _ _ _ _ w2 eb fun I' H' σ' hm hw => ⟨I', τ4, s4, m3.trans hm, hw, e1⟩
      · rename_i τ4 s4 eb
        cases e1
        exact hb _ _ _ _ _ _ _ _ w2 eb fun I' H' σ' hm hw => q I' H' σ' (m3.trans hm) hw
      · rename_i v s4 eb
        cases e1
        exact hb _ _ _ _ _ _ _ _ w2 eb fun I' H' v' hm hw hi' => q I' H' v' (m3.trans hm) hw hi'
      · cases e1
    · cases e1
end
end L2.TL
/-! TL4: comprehensions, calls, defs. -/
namespace L2.TL
open PySem PySem.Spec
open PyProof.Rows
/-- the reading of an expression, by its tree function alone -/
def tX (K : PySem.W.Frag) (Z : Res) (f : EF Z) : TE := fun σ H Q => ∃ G I τ s a s', Rep K Z G I H σ τ s ∧ f τ s = some (a, s') ∧ ∀ I' H' v, Same I I' → Rep K Z G I' H' σ τ s' → Is K I' a v → Q v H'
def tXb (K : PySem.W.Frag) (Z : Res) (f : EFb Z) : TT := fun σ H Q => ∃ G I τ s a s', Rep K Z G I H σ τ s ∧ f τ s = some (a, s') ∧ ∀ I' H', Same I I' → Rep K Z G I' H' σ τ s' → Q a H'
def tXg (K : PySem.W.Frag) (Z : Res) (g : GF) : TG := fun v σ H Q => ∃ G I τ, ∃ s : Z.S, ∃ a τ', Rep K Z G I H σ τ s ∧ Is K I a v ∧ g a τ = some τ' ∧ ∀ σ', Rep K Z G I H σ' τ' s → Q σ' H
section
variable {X : Cx} {Z : Res} {e : Expr} {f : EF Z} {fb : EFb Z} {tg : Expr} {g : GF} {pos : Pos}
theorem EX.pe (h : EX X Z e f) : PE X e (tX X.K Z f) := by
  obtain ⟨t, p, h1⟩ := h
  exact ⟨fun pins s σ H Q I ⟨G, I0, τ, z, a, z', w, e, q⟩ => p.run pins s σ H Q I (h1 _ _ _ _ _ _ _ _ _ w e q)⟩
theorem EB.pt (h : EB X Z e fb) : PT X e (tXb X.K Z fb) := by
  obtain ⟨t, p, h1⟩ := h
  exact ⟨fun pins s σ H Q I ⟨G, I0, τ, z, a, z', w, e, q⟩ => p.run pins s σ H Q I (h1 _ _ _ _ _ _ _ _ _ w e q)⟩
theorem GX.pg (h : GX X Z tg g) : PG X tg (tXg X.K Z g) := by
  obtain ⟨t, p, h1⟩ := h
  exact ⟨fun pins s σ H v u Q I r ⟨G, I0, τ, z, a, τ', w, i, e, q⟩ => p.run pins s σ H v u Q I r (h1 _ _ _ _ _ z _ _ _ _ w i e q)⟩
/-! ### list comprehensions -/
/-- the items' results: where the test lets them, in order; the slots as they are ahead of each turn -/
def lcGo {Z : Res} (gt : GF) (ft : EFb Z) (fe : EF Z) (τ : List SV) : List T → Z.S → Option (List T × Z.S)
  | [], s => some ([], s)
  | a :: r, s => match gt a τ with
    | some τ1 => match ft τ1 s with
      | some (true, s1) => match fe τ1 s1 with
        | some (b, s2) => match lcGo gt ft fe τ r s2 with
          | some (bs, s3) => some (b :: bs, s3)
          | none => none
        | none => none
      | some (false, s1) => lcGo gt ft fe τ r s1
      | none => none
    | none => none
def isOw : SV → Bool
  | .ow _ => true
  | _ => false
def xLc {Z : Res} (vs : List Nat) (fi : EFs Z) (gt : GF) (ft : EFb Z) (fe : EF Z) : EF Z := fun τ s => match fi τ s with
  | some (items, s1) => if items.length ≤ sizeLine ∧ (vs.all fun v => match τ[v]? with
        | some x => !isOw x
        | none => true) = true then match lcGo gt ft fe (wipeT τ vs) items s1 with
      | some (bs, s2) => some (.lst bs, s2)
      | none => none
    else none
  | none => none
def xYes {Z : Res} : EFb Z := fun _ s => some (true, s)
/-- the clause's test: none or one -/
def ETs (X : Cx) (Z : Res) (ifs : List Expr) (f : EFb Z) : Prop := PTs X ifs (tXb X.K Z f)
theorem ets_nil : ETs X Z [] xYes := ⟨fun pins s σ H Q I ⟨G, I0, τ, z, a, z', w, e, q⟩ => pts_nil.run pins s σ H Q I (by
  cases e
  exact q I0 H (Same.refl _) w)⟩
theorem ets_one (h : EB X Z e fb) : ETs X Z [e] fb := pts_one h.pt
theorem lcGo_len {gt : GF} {ft : EFb Z} {fe : EF Z} {τ : List SV} : ∀ {items : List T} {s s' : Z.S} {bs : List T}, lcGo gt ft fe τ items s = some (bs, s') → bs.length ≤ items.length
  | [], _, _, _, h => by
    cases h
    exact Nat.le_refl _
  | a :: r, _, _, _, h => by
    unfold lcGo at h
    split at h
    · split at h
      · split at h
        · split at h
          · rename_i e
            cases h
            exact Nat.succ_le_succ (lcGo_len e)
          · cases h
        · cases h
      · exact Nat.le_succ_of_le (lcGo_len h)
      · cases h
    · cases h
theorem wipe_get {σ : St} {i : Nat} : ∀ {vs : List Nat}, i ∈ vs → i < σ.length → (L2.wipe σ vs)[i]? = some none
  | [], h, _ => by simp at h
  | v :: vs, h, hl => by
    unfold L2.wipe
    by_cases hv : v = i
    · subst hv
      rw [List.getElem?_set_self (by rw [wipe_length]; exact hl)]
    · rw [List.getElem?_set_ne hv]
      exact wipe_get (by rcases List.mem_cons.mp h with e | e; exact absurd e.symm hv; exact e) hl
theorem wipe_ext {σ σ' : St} {vs : List Nat} (hl : σ.length = σ'.length) (h : ∀ i, i ∉ vs → σ[i]? = σ'[i]?) : L2.wipe σ vs = L2.wipe σ' vs := by
  apply List.ext_getElem?
  intro i
  by_cases hi : i ∈ vs
  · by_cases hlt : i < σ.length
    · rw [wipe_get hi hlt, wipe_get hi (by omega)]
    · rw [List.getElem?_eq_none (by rw [wipe_length]; omega), List.getElem?_eq_none (by rw [wipe_length]; omega)]
  · rw [wipe_out hi, wipe_out hi]
    exact h i hi
theorem wipe_wipe (σ : St) (vs : List Nat) : L2.wipe (L2.wipe σ vs) vs = L2.wipe σ vs := wipe_ext (wipe_length _ _) fun _ hi => wipe_out hi
theorem Rep.back {K : PySem.W.Frag} {Gx Ix Hx : Hp} {σ σ2 : St} {τ τ2 : List SV} {sx : Z.S} {vs : List Nat} (wx : Rep K Z Gx Ix Hx σ2 τ2 sx) (hσ : L2.wipe σ2 vs = L2.wipe σ vs) (hτ : ∀ i, i ∉ vs → τ2[i]? = (wipeT τ vs)[i]?) (hl : σ.length = τ.length) :
    Rep K Z Gx Ix Hx (L2.wipe σ vs) (wipeT τ vs) sx := by
  have eσ : ∀ i, i ∉ vs → σ2[i]? = (L2.wipe σ vs)[i]? := fun i hi => by rw [← hσ, wipe_out hi]
  have out : ∀ (i : Nat) (x : SV), (wipeT τ vs)[i]? = some x → x ≠ .un → i ∉ vs := fun i x e hx => by
    rcases wipeT_get e with ⟨_, h⟩ | ⟨h, _⟩
    · exact absurd h hx
    · exact h
  refine ⟨wx.toRep0, by rw [wipe_length, wipeT_length]; exact hl, fun i t e => ?_, fun i t e => ?_, fun i j t u p hij e1 e2 e3 => ?_⟩
  · have hi := out i _ e (fun z => by cases z)
    rw [← eσ i hi]
    exact wx.im i t (by rw [hτ i hi]; exact e)
  · have hi := out i _ e (fun z => by cases z)
    rw [← eσ i hi]
    exact wx.ow i t (by rw [hτ i hi]; exact e)
  · have hi := out i _ e1 (fun z => by cases z)
    have hj := out j _ e2 (fun z => by cases z)
    rw [← eσ i hi] at e3
    rw [← eσ j hj]
    exact wx.inj i j t u p hij (by rw [hτ i hi]; exact e1) (by rw [hτ j hj]; exact e2) e3
theorem Rep.reguard {K : PySem.W.Frag} {G I H : Hp} {σ : St} {τ : List SV} {s : Z.S} {D : Addr} {o o' : HO} (w : Rep K Z (upd G D o) I H σ τ s) (nF : ¬ Z.F D) : Rep K Z (upd G D o') I (upd H D o') σ τ s := by
  obtain ⟨nI, _⟩ := w.fr D o upd_same
  refine ⟨⟨fun b u e => by rw [upd_ne (ne_of_none e nI)]; exact w.sub b u e, Z.loc s I H _ _ w.res (Same.refl _) fun q hq => upd_ne fun z => nF (by rw [← z]; exact hq), fun q hq => ?_, fun q u e => ?_⟩, w.len, w.im, fun i t e => ?_, w.inj⟩
  · have hq' : q ≠ D := fun z => nF (by rw [← z]; exact hq)
    have := w.rf q hq
    rw [upd_ne hq'] at this ⊢
    exact this
  · by_cases hq : q = D
    · subst hq
      rw [upd_same] at e ⊢
      exact ⟨nI, e⟩
    · rw [upd_ne hq] at e ⊢
      have := w.fr q u (by rw [upd_ne hq]; exact e)
      exact this
  · obtain ⟨q, u, h1, h2, h3, h4, h5, h6⟩ := w.ow i t e
    have hq : q ≠ D := fun z => by
      subst z
      rw [upd_same] at h3
      cases h3
    refine ⟨q, u, h1, h2, ?_, h4, by rw [upd_ne hq]; exact h5, h6⟩
    rw [upd_ne hq] at h3 ⊢
    exact h3
/-- a comprehension's target -/
def GB (X : Cx) (Z : Res) (scope : Scope) (vs : List Nat) (tg : Expr) (gt : GF) : Prop :=
  ∃ gg : TG, (∀ (s : Shared) (H : Hp) (C : Addr) (cl : List (Str × Addr)) (fp : List Addr), PG (X.blk s H scope (compEnvC scope cl C X.env) fp) tg gg) ∧
    (∀ (G I H : Hp) (σ : St) (τ : List SV) (s : Z.S) (a : T) (v : V) (τ2 : List SV) (Q : St → Hp → Prop), Rep X.K Z G I H σ τ s → Is X.K I a v → gt a τ = some τ2 → (∀ σ2, L2.wipe σ2 vs = L2.wipe σ vs → Rep X.K Z G I H σ2 τ2 s → Q σ2 H) → gg v σ H Q) ∧
    (∀ a τ τ2, gt a τ = some τ2 → ∀ i, i ∉ vs → τ2[i]? = τ[i]?)
theorem lc_read {vs : List Nat} {G I1 H1 : Hp} {σ : St} {τ : List SV} {s1 s' : Z.S} {items bs : List T} {gt : GF} {ft : EFb Z} {fe : EF Z} {J : It} {Q : VK} {gg : TG}
    (hgg : ∀ (G I H : Hp) (σ : St) (τ : List SV) (s : Z.S) (a : T) (v : V) (τ2 : List SV) (Q : St → Hp → Prop), Rep X.K Z G I H σ τ s → Is X.K I a v → gt a τ = some τ2 → (∀ σ2, L2.wipe σ2 vs = L2.wipe σ vs → Rep X.K Z G I H σ2 τ2 s → Q σ2 H) → gg v σ H Q)
    (hgt : ∀ a τ τ2, gt a τ = some τ2 → ∀ i, i ∉ vs → τ2[i]? = τ[i]?)
    (w1 : Rep X.K Z G I1 H1 σ τ s1) (wk : Walks' X.K J I1 items) (hz : items.length ≤ sizeLine) (hv : ∀ (i : Nat) (t : T), τ[i]? = some (.ow t) → i ∉ vs)
    (h : lcGo gt ft fe (wipeT τ vs) items s1 = some (bs, s')) (q : HandF X Z G I1 σ τ s' (.lst bs) Q) (D : Addr) (hD : H1 D = none) :
    ∃ W : Nat → Nat → Hp → Prop, (∃ m, W 0 m (upd H1 D (.lst []))) ∧ ∀ i m H, W i m H →
      (J.stop i H ∧ Q (.ref D) H) ∨ (J.go i H ∧ ∃ Nx : Hp → Prop, (∀ H', Nx H' → ∃ m', m' < m ∧ W (i + 1) m' H') ∧ ∀ x H', J.yld i H x H' → gg x (L2.wipe σ vs) H' fun σ2 H2 => L2.wipe σ2 vs = L2.wipe σ vs ∧ tXb X.K Z ft σ2 H2 fun b H3 =>
        if b = true then tX X.K Z fe σ2 H3 fun y H4 => ∃ acc, H4 D = some (.lst acc) ∧ acc.length < sizeLine ∧ Nx (upd H4 D (.lst (acc ++ [y]))) else Nx H3) := by
  have nG : G D = none := w1.toRep0.nG hD
  have nF : ¬ Z.F D := w1.toRep0.nF hD
  -- ahead of turn i: acc stands at D for the results so far, the rest is to come
  let St' : List T → Hp → Prop := fun r H => ∃ (I : Hp) (s : Z.S) (acc : List V) (done rest : List T), Same I1 I ∧ Rep X.K Z (upd G D (.lst acc)) I H (L2.wipe σ vs) (wipeT τ vs) s ∧ IsL X.K I done acc ∧
    lcGo gt ft fe (wipeT τ vs) r s = some (rest, s') ∧ done ++ rest = bs ∧ done.length + r.length ≤ items.length
  have start : St' items (upd H1 D (.lst [])) := by
    obtain ⟨w2, u⟩ := w1.wipe (vs := vs) |>.made (o := .lst []) (a := .lst []) hD (IsL.nil (K := X.K) (I := I1))
    exact ⟨I1, s1, [], [], bs, Same.refl _, w2.guard u, IsL.nil, h, rfl, by simp⟩
  refine ⟨fun i m H => m = items.length - i ∧ i ≤ items.length ∧ St' (items.drop i) H, ⟨_, rfl, Nat.zero_le _, by rw [List.drop_zero]; exact start⟩, ?_⟩
  rintro i m H ⟨rfl, hle, I, s, acc, done, rest, mI, w, il, hgo, hdone, hlen⟩
  obtain ⟨st, gy⟩ := wk I H mI w.sub
  cases ed : items.drop i with
  | nil =>
    have hi : i = items.length := by
      have := congrArg List.length ed
      rw [List.length_drop, List.length_nil] at this
      omega
    subst hi
    rw [ed] at hgo
    cases hgo
    rw [List.append_nil] at hdone
    subst hdone
    refine .inl ⟨st, ?_⟩
    obtain ⟨nI, atH⟩ := w.fr D (.lst acc) upd_same
    have wf := w.frame (G' := G) fun p o e => by
      rw [upd_ne (ne_of_none e nG)]
      exact e
    have wr : Rep X.K Z G I H σ τ s' := w1.unwipe mI wf.toRep0 hv wf.ow fun i t hi e => by rw [wipeT_out hi]; exact e
    exact q I H D (.lst acc) mI wr ⟨nI, nG, nF, atH, il, fun i t e => w1.notOwned hD i t e⟩
  | cons a r =>
    obtain ⟨ea, er⟩ := drop_at ed
    have hi : i < items.length := (List.getElem?_eq_some_iff.mp ea).1
    obtain ⟨go, yl⟩ := gy i a ea
    rw [ed] at hgo hlen
    have hlr : (items.drop i).length = r.length + 1 := by rw [ed]; rfl
    refine .inr ⟨go, St' r, fun H' hN => ⟨items.length - (i + 1), by omega, rfl, hi, by rw [er]; exact hN⟩, fun x H3 hy => ?_⟩
    obtain ⟨I3, ex, ix⟩ := yl x H3 hy
    have w3 := w.extN ex
    have m3 := mI.trans ex.im
    unfold lcGo at hgo
    split at hgo
    · rename_i τ2 et
      refine hgg _ _ _ _ _ s _ _ _ _ w3 ix et fun σ2 hw2 w4 => ?_
      rw [wipe_wipe] at hw2
      refine ⟨hw2, ?_⟩
      have hτ : ∀ i, i ∉ vs → τ2[i]? = (wipeT τ vs)[i]? := hgt _ _ _ et
      split at hgo
      · rename_i s4 ec
        refine ⟨_, _, _, _, _, _, w4, ec, fun I5 H5 m5 w5 => iteT ?_⟩
        split at hgo
        · rename_i b s6 eb
          refine ⟨_, _, _, _, _, _, w5, eb, fun I6 H6 y m6 w6 iy => ?_⟩
          obtain ⟨nI6, at6⟩ := w6.fr D (.lst acc) upd_same
          have hacc : acc.length = done.length := il.len
          refine ⟨acc, at6, by have : sizeLine = 16777216 := sizeLine_eq; simp only [List.length_cons] at hlen; omega, ?_⟩
          split at hgo
          · rename_i bs' s7 er'
            cases hgo
            have m7 := (m3.trans m5).trans m6
            refine ⟨I6, s6, acc ++ [y], done ++ [b], bs', m7, ?_, ?_, er', by rw [← hdone, List.append_assoc]; rfl, ?_⟩
            · exact (w6.reguard nF).back hw2 hτ w1.len
            · exact (il.mono ((ex.im.trans m5).trans m6)).app (IsL.cons iy IsL.nil)
            · simp only [List.length_append, List.length_cons, List.length_nil] at hlen ⊢
              omega
          · cases hgo
        · cases hgo
      · rename_i s4 ec
        refine ⟨_, _, _, _, _, _, w4, ec, fun I5 H5 m5 w5 => iteF ?_⟩
        refine ⟨I5, s4, acc, done, rest, m3.trans m5, w5.back hw2 hτ w1.len, il.mono (ex.im.trans m5), hgo, hdone, ?_⟩
        simp only [List.length_cons] at hlen
        omega
      · cases hgo
    · cases hgo
variable {tg' it elt : Expr} {ifs : List Expr} {scope : Scope} {own : List (Str × Nat)} {fi : EFs Z} {gt : GF} {ft : EFb Z} {fe : EF Z}
theorem lc_all {G I H : Hp} {σ : St} {τ : List SV} {s s' : Z.S} {a : T} {Q : VK} {wi : TI} {gg : TG} {vs : List Nat}
    (hwi : ∀ G I H σ τ s items s' R, Rep X.K Z G I H σ τ s → fi τ s = some (items, s') → (∀ I' H' J, Same I I' → Rep X.K Z G I' H' σ τ s' → Walks' X.K J I' items → R J H') → wi σ H R)
    (hgg : ∀ (G I H : Hp) (σ : St) (τ : List SV) (s : Z.S) (a : T) (v : V) (τ2 : List SV) (Q : St → Hp → Prop), Rep X.K Z G I H σ τ s → Is X.K I a v → gt a τ = some τ2 → (∀ σ2, L2.wipe σ2 vs = L2.wipe σ vs → Rep X.K Z G I H σ2 τ2 s → Q σ2 H) → gg v σ H Q)
    (hgt : ∀ a τ τ2, gt a τ = some τ2 → ∀ i, i ∉ vs → τ2[i]? = τ[i]?) (w : Rep X.K Z G I H σ τ s) (h : xLc vs fi gt ft fe τ s = some (a, s')) (q : HandF X Z G I σ τ s' a Q) :
    tLc wi gg (tXb X.K Z ft) (tX X.K Z fe) vs σ H Q := by
  unfold xLc at h
  split at h
  · rename_i items s1 ei
    split at h
    · rename_i hc
      split at h
      · rename_i bs s2 eg
        cases h
        refine hwi _ _ _ _ _ _ _ _ _ w ei fun I1 H1 J m1 w1 wk => ?_
        intro D hD
        refine lc_read hgg hgt w1 wk hc.1 (fun i t e hi => ?_) eg (fun I' H' p o m => q I' H' p o (m1.trans m)) D hD
        have := List.all_eq_true.mp hc.2 i hi
        rw [e] at this
        cases this
      · cases h
    · cases h
  · cases h
theorem en_lc {vs : List Nat} (hc : X.calm = true) (hN : X.N.Nodup) (hi : IX X Z tg' it fi) (ok : BlkOk X.N X.env.scope scope own) (hg : GB X Z scope vs tg' gt) (hvs : vs = own.map (·.2) := by rfl)
    (ht : ∀ (s : Shared) (H : Hp) (C : Addr) (cl : List (Str × Addr)) (fp : List Addr), ETs (X.blk s H scope (compEnvC scope cl C X.env) fp) Z ifs ft) (he : ∀ (s : Shared) (H : Hp) (C : Addr) (cl : List (Str × Addr)) (fp : List Addr), EX (X.blk s H scope (compEnvC scope cl C X.env) fp) Z elt fe)
    (hs : ∀ x, foldedSetIterable it X.env x = pure x := by intro _; rfl) : EN X Z (.ListComp elt [⟨tg', it, ifs, 0⟩] scope pos) (xLc vs fi gt ft fe) := by
  subst hvs
  obtain ⟨wi, pi, hwi⟩ := hi
  obtain ⟨gg, pg, hgg, hgt⟩ := hg
  exact ⟨_, pe_lc (tt := tXb X.K Z ft) (te := tX X.K Z fe) hc hN pi ok pg ht (fun s H C cl fp => (he s H C cl fp).pe) hs, fun G I H σ τ s a s' Q w h q => lc_all hwi hgg hgt w h q⟩
/-- name = [..], the slot's own -/
theorem sx_setLc {i : Nat} {y : Str} {py spos : Pos} {vs : List Nat} (hc : X.calm = true) (hN : X.N.Nodup) (hy : X.N[i]? = some y) (hyl : X.env.scope.names.lookup y = some .local)
    (hsw : swapsWith (.ListComp elt [⟨tg', it, ifs, 0⟩] scope pos) (some (.Name y py)) spos.line X.env = pure true) (hi : IX X Z tg' it fi) (ok : BlkOk X.N X.env.scope scope own) (hg : GB X Z scope vs tg' gt) (hvs : vs = own.map (·.2) := by rfl)
    (ht : ∀ (s : Shared) (H : Hp) (C : Addr) (cl : List (Str × Addr)) (fp : List Addr), ETs (X.blk s H scope (compEnvC scope cl C X.env) fp) Z ifs ft) (he : ∀ (s : Shared) (H : Hp) (C : Addr) (cl : List (Str × Addr)) (fp : List Addr), EX (X.blk s H scope (compEnvC scope cl C X.env) fp) Z elt fe)
    (hs : ∀ x, foldedSetIterable it X.env x = pure x := by intro _; rfl) : SX X Z (.Assign [.Name y py] (.ListComp elt [⟨tg', it, ifs, 0⟩] scope pos) spos) (sSetO i (xLc vs fi gt ft fe)) := by
  subst hvs
  obtain ⟨wi, pi, hwi⟩ := hi
  obtain ⟨gg, pg, hgg, hgt⟩ := hg
  refine ⟨_, ps_setLc (tt := tXb X.K Z ft) (te := tX X.K Z fe) hc hN hy hyl hsw pi ok pg ht (fun s H C cl fp => (he s H C cl fp).pe) hs, fun G I H σ τ s o D w h q => ?_⟩
  unfold sSetO at h
  split at h
  · rename_i a s' ea
    split at h
    · rename_i hl
      cases h
      exact lc_all hwi hgg hgt w ea fun I' H' p o m w' u => q I' H' _ m (w'.setOw hl u)
    · cases h
  · cases h
theorem gb_name {i : Nat} {x : Str} (hN : X.N.Nodup) (hi : X.N[i]? = some x) (hx : ∀ (cl : List (Str × Addr)) (C : Addr), Loc (compEnvC scope cl C X.env).scope x) (hf : ∀ (cl : List (Str × Addr)) (C : Addr), (scope.names.lookup x == some .cell) = true ∨ (compEnvC scope cl C X.env).scope.names.lookup x = some .local) :
    GB X Z scope [i] (.Name x pos) (gSet i) := by
  refine ⟨gName i, fun s H C cl fp => pg_name (X := X.blk s H scope (compEnvC scope cl C X.env) fp) hN hi (hx cl C) (hf cl C), fun G I H σ τ s a v τ2 Q w ia h q => ?_, fun a τ τ2 h j hj => ?_⟩
  · unfold gSet at h
    split at h
    · rename_i hl
      cases h
      refine q _ ?_ (w.setIm hl ia)
      show (σ.set i (some v)).set i none = σ.set i none
      rw [List.set_set]
    · cases h
  · unfold gSet at h
    split at h
    · cases h
      rw [List.getElem?_set_ne (fun z => hj (by simp [z]))]
    · cases h
end
end L2.TL
/-! TL5: what a def of trees promises; calls; a def by its body; the law's own call. -/
namespace L2.TL
open PySem PySem.Spec
open PyProof.Rows
abbrev FF (Z : Res) := List T → Z.S → Option (T × Z.S)
/-- the promise: the arguments stand for trees, the answer stands for f of them, what others own stands -/
def spS (K : PySem.W.Frag) (Z : Res) (f : FF Z) : Sp := fun vs H Q _ =>
  ∃ (I : Hp) (ts : List T) (s : Z.S) (a : T) (s' : Z.S), Same I H ∧ (∀ p, Z.F p → I p = none) ∧ Z.R s I H ∧ IsL K I ts vs ∧ f ts s = some (a, s') ∧
    ∀ I' H' v, Ext Z.F I H I' H' → Z.R s' I' H' → Is K I' a v → Q v H'
/-- .. of a def that has no resource -/
abbrev FP := List T → Option T
def pureF (f : FP) : FF Z0 := fun ts s => match f ts with
  | some a => some (a, s)
  | none => none
abbrev spP (K : PySem.W.Frag) (f : FP) : Sp := spS K Z0 (pureF f)
/-- a def that is called where no repr runs -/
structure FnG (P : Program) (w : World) (K : PySem.W.Frag) (mg : Str → Option Value) (base : Heap) (k : Nat) (f : Addr) (fd : FuncData) (ps : List Str) (sp : Sp) : Prop where
  lenG : ∀ xs H' R E', sp xs H' R E' → xs.length = ps.length
  runG : ∀ (B : Around) (out : List Env) (z : Shared) (H' : Hp) (ar : Args) (ys : List Value) (xs : List V) (R : VK) (E' : XK), B.guards = some [] → Room k B → Env0 P w K mg base B out z H' → BindsTo z fd ar (ps.zip ys) → Vals xs ys → sp xs H' R E' →
    codeAny (model P w) B (.call (.ref f) ar) (CR CX0 out P w H' z R E') z
section
variable {P : Program} {w : World} {K : PySem.W.Frag} {mg : Str → Option Value} {base : Heap} {k : Nat} {f : Addr} {fd : FuncData} {ps : List Str} {sp : Sp}
theorem toG (F : FnOk P w K mg base CX0 k f fd ps sp) : FnG P w K mg base k f fd ps sp := ⟨F.len, fun B out z H' ar ys xs R E' _ => F.run B out z H' ar ys xs R E'⟩
theorem FnG.up {j : Nat} (F : FnG P w K mg base j f fd ps sp) (h : j ≤ k) : FnG P w K mg base k f fd ps sp := ⟨F.lenG, fun B out z H' ar ys xs R E' g r => F.runG B out z H' ar ys xs R E' g (r.mono h)⟩
end
section
variable {X : Cx} {Z : Res} {e : Expr} {es : List Expr} {fs : EFs Z} {pos : Pos} {k : Nat} {f : Addr} {fd : FuncData} {ps : List Str} {ff : FF Z} {fp : FP}
def xCallF {Z : Res} (ff : FF Z) (fs : EFs Z) : EF Z := fun τ s => match fs τ s with
  | some (as, s1) => ff as s1
  | none => none
def xCallP {Z : Res} (fp : FP) (fs : EFs Z) : EF Z := fun τ s => match fs τ s with
  | some (as, s1) => match fp as with
    | some a => some (a, s1)
    | none => none
  | none => none
theorem sp_use {G I H : Hp} {σ : St} {τ : List SV} {s s' : Z.S} {ts : List T} {vs : List V} {a : T} {Q : VK} {E : XK} (w : Rep X.K Z G I H σ τ s) (i : IsL X.K I ts vs) (h : ff ts s = some (a, s')) (q : Hand X Z G I σ τ s' a Q) : spS X.K Z ff vs H Q E :=
  ⟨I, ts, s, a, s', w.sub, fun p hp => (w.rf p hp).1, w.res, i, h, fun I' H' v e r ia => q I' H' v e.im (w.ext e r) ia⟩
theorem sp_useP {G I H : Hp} {σ : St} {τ : List SV} {s : Z.S} {ts : List T} {vs : List V} {a : T} {Q : VK} {E : XK} (w : Rep X.K Z G I H σ τ s) (i : IsL X.K I ts vs) (h : fp ts = some a) (q : Hand X Z G I σ τ s a Q) : spP X.K fp vs H Q E :=
  ⟨I, ts, (), a, (), w.sub, fun p hp => hp.elim, trivial, i, by unfold pureF; rw [h], fun I' H' v e _ ia => q I' H' v e.im (w.extN e) ia⟩
theorem ex_call {x : Str} {p : Pos} (F : FnOk X.prog X.w X.K X.mg X.base CX0 k f fd ps (spS X.K Z ff)) (hr : Room k X.A) (hg : Gl X x) (hm : X.mg x = some (.ref f)) (hk : PySem.W.keepIn X.K (.ref f) = true) (hb : Binds X.K fd ps []) (ha : EL X Z (e :: es) fs)
    (hdb : (x == ("__debug__" : Str)) = false := by decide) (he : starEach (e :: es) X.env = (false, eval e X.env) :: starEach es X.env := by rfl) (hpl : (backTo pos (starEach es X.env)).any (·.1) = false := by rfl) : EX X Z (.Call (.Name x p) (e :: es) [] pos) (xCallF ff fs) := by
  obtain ⟨t, pa, h1⟩ := ha
  refine ⟨_, pe_call F hr hg hm hk hb .nil pass0 pa hdb he hpl, fun G I H σ τ s a s' Q w h q => ?_⟩
  unfold xCallF at h
  split at h
  · rename_i as s1 ea
    refine h1 _ _ _ _ _ _ _ _ _ w ea fun I1 H1 vs m1 w1 i1 => ?_
    rw [List.append_nil]
    exact sp_use w1 i1 h fun I' H' v m => q I' H' v (m1.trans m)
  · cases h
theorem ex_callP {x : Str} {p : Pos} (F : FnOk X.prog X.w X.K X.mg X.base CX0 k f fd ps (spP X.K fp)) (hr : Room k X.A) (hg : Gl X x) (hm : X.mg x = some (.ref f)) (hk : PySem.W.keepIn X.K (.ref f) = true) (hb : Binds X.K fd ps []) (ha : EL X Z (e :: es) fs)
    (hdb : (x == ("__debug__" : Str)) = false := by decide) (he : starEach (e :: es) X.env = (false, eval e X.env) :: starEach es X.env := by rfl) (hpl : (backTo pos (starEach es X.env)).any (·.1) = false := by rfl) : EX X Z (.Call (.Name x p) (e :: es) [] pos) (xCallP fp fs) := by
  obtain ⟨t, pa, h1⟩ := ha
  refine ⟨_, pe_call F hr hg hm hk hb .nil pass0 pa hdb he hpl, fun G I H σ τ s a s' Q w h q => ?_⟩
  unfold xCallP at h
  split at h
  · rename_i as s1 ea
    split at h
    · rename_i b eb
      cases h
      refine h1 _ _ _ _ _ _ _ _ _ w ea fun I1 H1 vs m1 w1 i1 => ?_
      rw [List.append_nil]
      exact sp_useP w1 i1 eb fun I' H' v m => q I' H' v (m1.trans m)
    · cases h
  · cases h
/-- the call of a def that may run repr -/
theorem run_g {pins : List (Addr × Obj)} {σ : St} {H : Hp} {s : Shared} {Q : VK} {us : List Value} {vs : List V} {sp : Sp} {E : XK} (F : FnG X.prog X.w X.K X.mg X.base k f fd ps sp) (gd : X.A.guards = some []) (hr : Room k X.A) (hb : Binds X.K fd ps [])
    (I : Inv X pins σ H s) (r : Vals vs us) (h : sp vs H Q E) : wpAny (model X.prog X.w) X.A (call (.ref f) us) (EP X pins σ Q) X.xe s := by
  have n1 : us.length = ps.length := by
    rw [← r.length]
    exact F.lenG _ _ _ _ h
  have bd := hb s us I.kIn (by rw [List.append_nil]; exact n1)
  rw [List.append_nil] at bd
  refine wpAny_call (codeAny_mono (F.runG X.A X.stack s H _ us vs Q E gd hr I.env0 bd r h) ?_)
  intro res z hz
  cases res with
  | error e => exact (show False from hz).elim
  | ok fl => cases fl with
    | ret u => exact I.after hz
    | _ => exact (show False from hz).elim
theorem ex_callG {x : Str} {p : Pos} (F : FnG X.prog X.w X.K X.mg X.base k f fd ps (spS X.K Z ff)) (gd : X.A.guards = some []) (hr : Room k X.A) (hg : Gl X x) (hm : X.mg x = some (.ref f)) (hk : PySem.W.keepIn X.K (.ref f) = true) (hb : Binds X.K fd ps []) (ha : EL X Z (e :: es) fs)
    (hdb : (x == ("__debug__" : Str)) = false := by decide) (he : starEach (e :: es) X.env = (false, eval e X.env) :: starEach es X.env := by rfl) (hpl : (backTo pos (starEach es X.env)).any (·.1) = false := by rfl) : EX X Z (.Call (.Name x p) (e :: es) [] pos) (xCallF ff fs) := by
  obtain ⟨t, pa, h1⟩ := ha
  refine ⟨_, (⟨fun pins s σ H Q J hq => wpAny_Call_Name_kw (ld_glob J hg hm (PySem.W.callWith_K (h₀ := X.base) J.ok.mod.kin hk (thn (pa.run pos pins s σ H _ J hq) fun us s1 ⟨vs, H1, J1, r, q⟩ => ⟨J1.kIn, run_g F gd hr hb J1 r q⟩) he hpl) hdb)⟩ :
    PE X (.Call (.Name x p) (e :: es) [] pos) (fun σ H Q => t σ H fun vs H1 => spS X.K Z ff vs H1 Q E0)), fun G I H σ τ s a s' Q w h q => ?_⟩
  unfold xCallF at h
  split at h
  · rename_i as s1 ea
    exact h1 _ _ _ _ _ _ _ _ _ w ea fun I1 H1 vs m1 w1 i1 => sp_use w1 i1 h fun I' H' v m => q I' H' v (m1.trans m)
  · cases h
theorem ex_callGP {x : Str} {p : Pos} (F : FnG X.prog X.w X.K X.mg X.base k f fd ps (spP X.K fp)) (gd : X.A.guards = some []) (hr : Room k X.A) (hg : Gl X x) (hm : X.mg x = some (.ref f)) (hk : PySem.W.keepIn X.K (.ref f) = true) (hb : Binds X.K fd ps []) (ha : EL X Z (e :: es) fs)
    (hdb : (x == ("__debug__" : Str)) = false := by decide) (he : starEach (e :: es) X.env = (false, eval e X.env) :: starEach es X.env := by rfl) (hpl : (backTo pos (starEach es X.env)).any (·.1) = false := by rfl) : EX X Z (.Call (.Name x p) (e :: es) [] pos) (xCallP fp fs) := by
  obtain ⟨t, pa, h1⟩ := ha
  refine ⟨_, (⟨fun pins s σ H Q J hq => wpAny_Call_Name_kw (ld_glob J hg hm (PySem.W.callWith_K (h₀ := X.base) J.ok.mod.kin hk (thn (pa.run pos pins s σ H _ J hq) fun us s1 ⟨vs, H1, J1, r, q⟩ => ⟨J1.kIn, run_g F gd hr hb J1 r q⟩) he hpl) hdb)⟩ :
    PE X (.Call (.Name x p) (e :: es) [] pos) (fun σ H Q => t σ H fun vs H1 => spP X.K fp vs H1 Q E0)), fun G I H σ τ s a s' Q w h q => ?_⟩
  unfold xCallP at h
  split at h
  · rename_i as s1 ea
    split at h
    · rename_i b eb
      cases h
      exact h1 _ _ _ _ _ _ _ _ _ w ea fun I1 H1 vs m1 w1 i1 => sp_useP w1 i1 eb fun I' H' v m => q I' H' v (m1.trans m)
    · cases h
  · cases h
/-- keywords: f(x = a), all of them -/
def ELk (X : Cx) (Z : Res) (kws : List Keyword) (f : EFs Z) : Prop :=
  ∃ t, PK X kws t ∧ ∀ G I H σ τ s as s' Q, Rep X.K Z G I H σ τ s → f τ s = some (as, s') → HandL X Z G I σ τ s' as Q → t σ H Q
theorem elk_nil : ELk X Z [] xNil := ⟨_, pk_nil, fun G I H σ τ s as s' Q w h q => by
  cases h
  exact q I H [] (Same.refl _) w IsL.nil⟩
theorem elk_cons {nm : Option Str} {kpos : Pos} {kws : List Keyword} {fe : EF Z} (he : EX X Z e fe) (hr : ELk X Z kws fs) : ELk X Z (⟨nm, e, kpos⟩ :: kws) (xCons fe fs) := by
  obtain ⟨te, pe, h1⟩ := he
  obtain ⟨tr, pr, h2⟩ := hr
  refine ⟨_, pk_cons pe pr, fun G I H σ τ s as s' Q w h q => ?_⟩
  unfold xCons at h
  split at h
  · rename_i a s1 ea
    split at h
    · rename_i as' s2 eb
      cases h
      refine h1 _ _ _ _ _ _ _ _ _ w ea fun I1 H1 v m1 w1 i1 => ?_
      refine h2 _ _ _ _ _ _ _ _ _ w1 eb fun I2 H2 vs m2 w2 i2 => ?_
      exact q I2 H2 (v :: vs) (m1.trans m2) w2 (IsL.cons (i1.mono m2) i2)
    · cases h
  · cases h
end
/-! ### a def by its body -/
def bodyF {Z : Res} (n m : Nat) (g : SF Z) : FF Z := fun ts s => if ts.length = n then match g (ts.map SV.im ++ List.replicate (m - n) SV.un) s with
    | some (.rt a s') => some (a, s')
    | some (.nx _ s') => some (.non, s')
    | _ => none
  else none
section
variable {P : Program} {w : World} {K : PySem.W.Frag} {mg : Str → Option Value} {base : Heap} {Z : Res} {k : Nat} {f : Addr} {fd : FuncData} {N ps : List Str} {x qual : Str} {st : Stmt}
open Classical in
/-- what others own at the entry -/
noncomputable def foreign (Z : Res) (I H : Hp) : Hp := fun p => if I p = none ∧ ¬ Z.F p then H p else none
theorem foreign_of {I H : Hp} {p : Addr} {o : HO} (h : foreign Z I H p = some o) : I p = none ∧ ¬ Z.F p ∧ H p = some o := by
  unfold foreign at h
  split at h
  · rename_i c
    exact ⟨c.1, c.2, h⟩
  · cases h
theorem foreign_mk {I H : Hp} {p : Addr} {o : HO} (h1 : I p = none) (h2 : ¬ Z.F p) (h3 : H p = some o) : foreign Z I H p = some o := by
  unfold foreign
  rw [if_pos ⟨h1, h2⟩]
  exact h3
theorem foreign_F {I H : Hp} {p : Addr} (h : Z.F p) : foreign Z I H p = none := by
  unfold foreign
  rw [if_neg fun z => z.2 h]
theorem start_rep {I H : Hp} {ts : List T} {vs : List V} {s : Z.S} (sub : Same I H) (rf : ∀ p, Z.F p → I p = none) (r : Z.R s I H) (il : IsL K I ts vs) (hN : vs.length ≤ N.length) :
    Rep K Z (foreign Z I H) I H (start N vs) (ts.map SV.im ++ List.replicate (N.length - vs.length) SV.un) s := by
  have hl := il.len
  have none_ow : ∀ (i : Nat) (t : T), (ts.map SV.im ++ List.replicate (N.length - vs.length) SV.un)[i]? ≠ some (SV.ow t) := fun i t e => by
    have := List.mem_of_getElem? e
    rcases List.mem_append.mp this with h | h
    · obtain ⟨u, _, h⟩ := List.mem_map.mp h
      cases h
    · cases (List.mem_replicate.mp h).2
  refine ⟨⟨sub, r, fun p hp => ⟨rf p hp, foreign_F hp⟩, fun p o e => ⟨(foreign_of e).1, (foreign_of e).2.2⟩⟩, ?_, fun i t e => ?_, fun i t e => absurd e (none_ow i t), fun i j t u p _ e => absurd e (none_ow i t)⟩
  · unfold start
    simp only [List.length_append, List.length_map, List.length_replicate]
    omega
  · by_cases hi : i < ts.length
    · rw [List.getElem?_append_left (by simpa using hi), List.getElem?_map] at e
      obtain ⟨v, e1, e2⟩ := il.at (List.getElem?_eq_getElem hi)
      rw [List.getElem?_eq_getElem hi] at e
      cases e
      refine ⟨v, ?_, e2⟩
      unfold start
      rw [List.getElem?_append_left (by rw [List.length_map, hl]; exact hi), List.getElem?_map, e1]
      rfl
    · rw [List.getElem?_append_right (by simpa using hi), List.getElem?_replicate] at e
      split at e <;> cases e
theorem body_ends {X : Cx} {sts : List Stmt} {g : SF Z} {vs : List V} {H : Hp} {Q : VK} {E : XK} (hK : X.K = K) (hb : SS X Z sts g) (hn : ps.length ≤ N.length) (h : spS K Z (bodyF ps.length N.length g) vs H Q E) :
    ∃ t, PSs X sts t ∧ t { nx := fun _ H' => Q .non H', rt := Q } (start N vs) H := by
  subst hK
  obtain ⟨t, pt, h1⟩ := hb
  obtain ⟨I, ts, s, a, s', sub, rf, r, il, hf, q⟩ := h
  refine ⟨t, pt, ?_⟩
  unfold bodyF at hf
  split at hf
  · rename_i hl
    have hv : vs.length = ps.length := by rw [il.len]; exact hl
    have w := start_rep (N := N) sub rf r il (by rw [hv]; exact hn)
    rw [hv] at w
    have ext : ∀ {I' H' : Hp} {s2 : Z.S}, Same I I' → Rep0 Z (foreign Z I H) I' H' s2 → Ext Z.F I H I' H' := fun m w' =>
      ⟨m, w'.sub, fun p o e1 e2 e3 => w'.fr p o (foreign_mk e1 e2 e3), fun p hp _ => (w'.rf p hp).1⟩
    split at hf
    · rename_i b s2 eg
      cases hf
      exact h1 _ _ _ _ _ _ _ _ w eg fun I' H' v m w' ia => q I' H' v (ext m w') w'.res ia
    · rename_i τ2 s2 eg
      cases hf
      exact h1 _ _ _ _ _ _ _ _ w eg fun I' H' σ' m w' => q I' H' .non (ext m w'.toRep0) w'.res rfl
    · cases hf
  · cases hf
theorem sp_len {g : FF Z} {n : Nat} (h : ∀ ts s r, g ts s = some r → ts.length = n) {vs : List V} {H : Hp} {Q : VK} {E : XK} (q : spS K Z g vs H Q E) : vs.length = n := by
  obtain ⟨I, ts, s, a, s', _, _, _, il, hf, _⟩ := q
  rw [il.len]
  exact h ts s _ hf
theorem bodyF_len {n m : Nat} {g : SF Z} : ∀ ts s r, bodyF n m g ts s = some r → ts.length = n := fun ts s r h => by
  unfold bodyF at h
  split at h
  · assumption
  · cases h
theorem scope_le (S : FnScope N ps (defScope st)) : ps.length ≤ N.length := by
  have := congrArg List.length S.pre
  rw [List.length_take] at this
  omega
/-- THE RULE, for a def without repr -/
theorem fn_def {g : SF Z} (F : Fun K x qual st f fd) (S : FnScope N ps (defScope st))
    (hb : ∀ (cdv : Value) (A : Around) (out : List Env) (z : Shared) (H : Hp) (E : XK), Room k (A.deeper (envOfC qual (defScope st) z.heap.objs.size f cdv)) → SS (cxOf CX0 P w K mg base N qual (defScope st) f cdv A out z H E).nox Z (defBody st) g) :
    FnOk P w K mg base CX0 (k + 1) f fd ps (spS K Z (bodyF ps.length N.length g)) :=
  F.ok S (fun vs H Q E h => sp_len bodyF_len h) fun cdv A out z H vs Q E hr h => body_ends rfl (hb cdv A out z H E hr) (scope_le S) h
/-- .. for a def that shows values: its caller does not. Any promise -/
theorem fn_g {sp : Sp} (F : Fun K x qual st f fd) (S : FnScope N ps (defScope st)) (len : ∀ xs H R E, sp xs H R E → xs.length = ps.length)
    (hb : ∀ (cdv : Value) (A : Around) (out : List Env) (z : Shared) (H : Hp) (vs : List V) (Q : VK) (E : XK), A.guards = some [] → Room k (A.deeper (envOfC qual (defScope st) z.heap.objs.size f cdv)) → sp vs H Q E →
      ∃ t, PSs (cxOf CX0 P w K mg base N qual (defScope st) f cdv A out z H E).nox (defBody st) t ∧ t { nx := fun _ H' => Q .non H', rt := Q } (start N vs) H) : FnG P w K mg base (k + 1) f fd ps sp := by
  obtain ⟨oc, od, kV, doc, pm, an, cdv, ct, osl, rfl, lk, hcd⟩ := F.ex
  refine ⟨len, fun B out z H' ar ys xs R E' gd hr e0 bd r hsp => ?_⟩
  have n1 : xs.length = ps.length := len _ _ _ _ hsp
  have kin : K.In z.heap := e0.mod.kin.keeps fun b o q => (e0.bs b o q).1
  have kinds : ∀ y ∈ ps.zip ys, (defScope st).names.lookup y.1 = some .local ∨ ((defScope st).names.lookup y.1 = some .cell ∧ ((cellsFrom (z.heap.objs.size + 1) (defScope st).names []).lookup y.1).isSome = true) := by
    rintro ⟨nm, v⟩ hy
    exact (S.par nm (List.of_mem_zip hy).1).elim Or.inl fun q => Or.inr ⟨q, PySem.W.cellsFrom_some _ _ _ (Or.inl q)⟩
  refine codeAny_call_function hr.depth (kin _ _ lk) rfl S.co S.gen rfl (PySem.W.codeRec_of kin hcd) (bd _ _ _ _ (wpAny_newFunctionEnv_cells S.kind kinds ?_))
  rintro env rfl s1 ic
  refine ⟨(e0.mod.nolimit.keeps fun b o q => (e0.bs b o q).1).keeps ic.toInCall.keep, codeAny_func ?_⟩
  obtain ⟨t, ht, hq⟩ := hb cdv B out z H' xs R E' gd (hr.deeper _) hsp
  have J := inv_start (CX := CX0) (P := P) (E := E') S hr.hd e0 n1 r ic
  refine wpAny_mono (ht.nox.run [] s1 (start N xs) H' _ J hq) ?_ fun e s' q => q
  intro fl s' hs
  cases fl with
  | ret u =>
    obtain ⟨v, _, H2, J2, rv, q⟩ := hs
    exact ⟨v, H2, J2.os, J2.bare, J2.base, J2.hok, rv, q⟩
  | next =>
    obtain ⟨_, H2, J2, q⟩ := hs
    exact ⟨V.non, H2, J2.os, J2.bare, J2.base, J2.hok, rfl, q⟩
  | brk =>
    obtain ⟨_, _, _, q⟩ := hs
    exact q.elim
  | cont =>
    obtain ⟨_, _, _, q⟩ := hs
    exact q.elim
theorem fn_defG {g : SF Z} (F : Fun K x qual st f fd) (S : FnScope N ps (defScope st))
    (hb : ∀ (cdv : Value) (A : Around) (out : List Env) (z : Shared) (H : Hp) (E : XK), A.guards = some [] → Room k (A.deeper (envOfC qual (defScope st) z.heap.objs.size f cdv)) → SS (cxOf CX0 P w K mg base N qual (defScope st) f cdv A out z H E).nox Z (defBody st) g) :
    FnG P w K mg base (k + 1) f fd ps (spS K Z (bodyF ps.length N.length g)) :=
  fn_g F S (fun xs H R E h => sp_len bodyF_len h) fun cdv A out z H vs Q E gd hr h => body_ends rfl (hb cdv A out z H E gd hr) (scope_le S) h
/-- another function with the same answers where it has any -/
theorem spS_imp {g h : FF Z} (e : ∀ ts s r, g ts s = some r → h ts s = some r) {vs : List V} {H : Hp} {Q : VK} {E : XK} (q : spS K Z g vs H Q E) : spS K Z h vs H Q E := by
  obtain ⟨I, ts, s, a, s', h1, h2, h3, h4, h5, h6⟩ := q
  exact ⟨I, ts, s, a, s', h1, h2, h3, h4, e _ _ _ h5, h6⟩
theorem spP_imp {g h : FP} (e : ∀ ts a, g ts = some a → h ts = some a) {vs : List V} {H : Hp} {Q : VK} {E : XK} (q : spP K g vs H Q E) : spP K h vs H Q E :=
  spS_imp (fun ts s r hr => by
    unfold pureF at hr ⊢
    split at hr
    · rename_i a ea
      rw [e _ _ ea]
      exact hr
    · cases hr) q
end
end L2.TL
/-! TL6: the law's own call, for laws that show values. -/
namespace L2.TL
open PySem PySem.Spec
open PyProof.Rows
/-- the script alone may be tracked: at a, known to its object -/
def scriptH (a : Addr) (o : Obj) (xs : List V) (known : Bool) : Hp := fun b => if b = a ∧ known = true then some (.frz o (.lst xs)) else none
theorem scriptH_some {a b : Addr} {o : Obj} {xs : List V} {known : Bool} {u : HO} (h : scriptH a o xs known b = some u) : b = a ∧ known = true ∧ u = .frz o (.lst xs) := by
  unfold scriptH at h
  split at h
  · rename_i c
    cases h
    exact ⟨c.1, c.2, rfl⟩
  · cases h
theorem law_run {P : Program} {w : World} {K : PySem.W.Frag} {mg mb : Str → Option Value} {k : Nat} {fa a : Addr} {fd : FuncData} {x : Str} {sp : Sp} {z : Shared} {us : List Value} {ns : List Int}
    (kin : K.In z.heap) (gl : z.heap.Ns mainGlobals mg) (bl : z.heap.Ns builtinsNs mb) (bb : ∀ y : Str, y ≠ "__name__" → mb y = bootBuiltins y) (lim : z.heap.NoLimit) (gens : z.gens = #[])
    (at_ : z.heap.get? a = some { cls := .type "list", data := .seq us.toArray }) (ia : IntsAre us ns) (few : ns.length ≤ sizeLine) (room : Room k callerA)
    (F : ∀ base : Heap, K.In base → base.Ns mainGlobals mg → FnG P w K mg base k fa fd [x] sp) (bind : ∀ (s : Shared) (u : Value), BindsTo s fd ⟨[u], []⟩ [(x, u)])
    (hsp : ∀ H : Hp, Only H → SqL K H a (ns.map V.int) → sp [.ref a] H (fun v _ => v = .bl true) fun _ _ _ => False) :
    codeAny (model P w) callerA (.call (.ref fa) ⟨[.ref a], []⟩) (fun r s' => r = .ok (.ret (.bool true)) ∧ OldK z.heap s'.heap ∧ s'.os = z.os ∧ AllBare s'.gens) z := by
  have rel := vals_ints ia
  have nlen : us.length = ns.length := ia.length
  obtain ⟨known, hk⟩ : ∃ known : Bool, known = true ↔ K.lookup a = none := by
    cases K.lookup a with
    | none => exact ⟨true, by simp⟩
    | some o => exact ⟨false, by simp⟩
  generalize hH : scriptH a { cls := .type "list", data := .seq us.toArray } (ns.map V.int) known = H
  have some_of : ∀ {b : Addr} {u : HO}, H b = some u → b = a ∧ known = true ∧ u = .frz { cls := .type "list", data := .seq us.toArray } (.lst (ns.map V.int)) := fun {b u} e => scriptH_some (by rw [hH]; exact e)
  have only : Only H := fun b => by
    cases e : H b with
    | none => exact .inl rfl
    | some u =>
      obtain ⟨_, _, rfl⟩ := some_of e
      exact .inr ⟨_, _, rfl⟩
  have sq : SqL K H a (ns.map V.int) := by
    cases e : K.lookup a with
    | some o =>
      have q := kin a o e
      rw [at_] at q
      cases q
      exact .inr ⟨_, us.toArray, _, e, rfl, rfl, rfl, by rw [List.size_toArray, nlen]; exact few, by simpa using rel⟩
    | none =>
      have hkn : known = true := hk.mpr e
      refine .inl (.inr ⟨{ cls := .type "list", data := .seq us.toArray }, ?_⟩)
      rw [← hH]
      exact if_pos ⟨rfl, hkn⟩
  have ok : HOk P w H z.heap := fun b u e => by
    obtain ⟨rfl, _, rfl⟩ := some_of e
    exact ⟨at_, by rw [List.length_map]; exact few, us, _, rel, at_⟩
  have stays : ∀ {b : Addr} {o : Obj}, z.heap.get? b = some o → H b = none → (hidT z.heap H).get? b = some o := fun q n => hidT_get q n
  have dicts : ∀ {b : Addr} {m : Str → Option Value}, z.heap.Ns b m → (hidT z.heap H).Ns b m := fun {b m} ⟨o, es, ep, q, d, r⟩ => by
    refine ⟨o, es, ep, stays q ?_, d, r⟩
    cases e : H b with
    | none => rfl
    | some u =>
      obtain ⟨rfl, _, _⟩ := some_of e
      rw [at_] at q
      cases q
      cases (show Data.seq us.toArray _ = Data.dict es ep from d)
  have kin' : K.In (hidT z.heap H) := fun b o q => stays (kin b o q) (by
    cases e : H b with
    | none => rfl
    | some u =>
      obtain ⟨rfl, hkn, _⟩ := some_of e
      rw [hk.mp hkn] at q
      cases q)
  obtain ⟨ml, l1, l2⟩ := lim
  have e0 : Env0 P w K mg (hidT z.heap H) callerA [] z H :=
    { frames := rfl
      mod := { kin := kin', glob := dicts gl, blt := ⟨mb, dicts bl, bb⟩, nolimit := ⟨ml, dicts l1, l2⟩ }
      bs := fun b o q => of_hidT q
      bsz := Nat.le_of_eq (hidT_size _ _)
      funs := trivial
      frf := fun b hb => by cases hb
      hok := ok
      bare := .of_eq gens }
  refine codeAny_mono ((F _ kin' (dicts gl)).runG callerA [] z H _ [.ref a] [.ref a] _ _ rfl room e0 (bind z (.ref a)) (.cons rfl .nil) (hsp H only sq)) ?_
  intro r s' hr
  cases r with
  | error e => exact (show False from hr).elim
  | ok fl =>
    cases fl with
    | ret u =>
      obtain ⟨v, H', os, bare, un, ok', rv, q⟩ := hr
      cases (show v = .bl true from q)
      cases (show u = Value.bool true from rv)
      refine ⟨rfl, OldK.of_keep ?_, os, bare⟩
      intro b o ob
      cases e : H b with
      | none => exact un.keep b o ob e (by intro m; cases m) (by intro m; cases m)
      | some t =>
        obtain ⟨_, _, rfl⟩ := some_of e
        have i1 := (ok b _ e).1
        have i2 := (ok' b _ (un.frzs b _ _ e)).1
        rw [ob] at i1
        cases i1
        exact i2
    | _ => exact (show False from hr).elim
/-- the goal that k_head leaves (case hc) -/
theorem walk_g {l : PySem.W.OpenLaw} {n k : Nat} {q : Program} {loose : List Str} {XP : (Str → Option Value) → Heap → Prop} {YP : World → Heap → Prop} {d : DefRec} {K : Params → PySem.W.Frag} {sp : PySem.W.Frag → Sp} {x : Str}
    (most : l.most = some n) (few : n ≤ sizeLine) (nodef : d.params.defaults = []) (room : Room k callerA)
    (hY : ∀ (w : World) (h : Heap), YP w h → (K w.params).In h)
    (F : ∀ (w : World) (mg : Str → Option Value) (fa : Addr) (h : Heap), (K w.params).In h → h.Ns mainGlobals mg → mg d.name = some (.ref fa) →
      ∃ fd : FuncData, (∀ (s : Shared) (u : Value), BindsTo s fd ⟨[u], []⟩ [(x, u)]) ∧ ∀ base : Heap, (K w.params).In base → base.Ns mainGlobals mg → FnG l.prog w (K w.params) mg base k fa fd [x] (sp (K w.params)))
    (hsp : ∀ (K : PySem.W.Frag) (H : Hp) (a : Addr) (ns : List Int), ns.length ≤ n → Only H → SqL K H a (ns.map V.int) → sp K [.ref a] H (fun v _ => v = .bl true) fun _ _ _ => False) :
    PySem.W.WalkO q loose XP YP l.row.toRowW d [] (fun f vs => PySem.call f vs) := by
  refine Att.attach_call most nodef ?_
  intro w s₀ s₁ mg mb fa o pm cd doc a us ns G Y ho hd hcd hmg hobj ia hl gens
  obtain ⟨fd, bind, hF⟩ := F w mg fa _ (hY w _ Y) G.T.g hmg
  exact law_run (hY w _ Y) G.T.g G.T.b G.T.builtins G.T.nolimit gens hobj ia (Nat.le_trans hl few) room hF bind fun H ho hs => hsp _ H a ns hl ho hs
end L2.TL
/-! TL7: repr and == of trees. -/
namespace L2.TL
open PySem PySem.Spec
open PyProof.Rows
def keyD : Key → PyData
  | .inl i => .int i
  | .inr x => .str x
mutual
/-- a tree as data -/
def T.d : T → PyData
  | .non => .none
  | .bl b => .bool b
  | .int i => .int i
  | .str x => .str x
  | .tup ts => .tuple (dL ts)
  | .lst ts => .list (dL ts)
  | .dct ps => .dict (dP ps)
  | .ins _ _ => .none
  | .adr _ => .none
def dL : List T → List PyData
  | [] => []
  | t :: ts => t.d :: dL ts
def dP : List (Key × T) → List (PyData × PyData)
  | [] => []
  | (k, t) :: r => (keyD k, t.d) :: dP r
end
mutual
/-- .. it is data alone -/
def T.plain : T → Bool
  | .tup ts => plainL ts
  | .lst ts => plainL ts
  | .dct ps => plainP ps
  | .ins _ _ => false
  | .adr _ => false
  | _ => true
def plainL : List T → Bool
  | [] => true
  | t :: ts => t.plain && plainL ts
def plainP : List (Key × T) → Bool
  | [] => true
  | (_, t) :: r => t.plain && plainP r
end
mutual
/-- .. without lists -/
def T.noLst : T → Bool
  | .tup ts => noLstL ts
  | .lst _ => false
  | .dct ps => noLstP ps
  | _ => true
def noLstL : List T → Bool
  | [] => true
  | t :: ts => t.noLst && noLstL ts
def noLstP : List (Key × T) → Bool
  | [] => true
  | (_, t) :: r => t.noLst && noLstP r
end
section
variable {X : Cx} {pins : List (Addr × Obj)} {σ : St} {H I : Hp} {s : Shared}
theorem keysReads {h : Heap} {P : Program} {w : World} : ∀ {es : List DictEntry} {vs : List (Key × Value)}, PySem.Pairs (mixKind P w) es vs → ReadsAll h (es.map (·.key)) (vs.map fun p => keyD p.1) [] ∧ es.map (·.val) = vs.map (·.2)
  | _, _, .nil => ⟨ReadsAll.nil, rfl⟩
  | _, _, .cons hk hv t => by
    obtain ⟨h1, h2⟩ := keysReads (h := h) t
    rcases keyIs_shape hk with ⟨i, tk, e1, e2⟩ | ⟨x, tk, e1, e2⟩
    · refine ⟨?_, by simp only [List.map_cons]; rw [hv, h2]⟩
      simp only [List.map_cons]
      rw [e2, e1]
      exact ReadsAll.cons (Reads.int i tk) h1
    · refine ⟨?_, by simp only [List.map_cons]; rw [hv, h2]⟩
      simp only [List.map_cons]
      rw [e2, e1]
      exact ReadsAll.cons (Reads.str x tk) h1
/-- none of these places is the table of modules -/
def Off (as : List Addr) : Prop := sysModules ∉ as
theorem off_app {as bs : List Addr} (h : Off as) (g : Off bs) : Off (as ++ bs) := fun m => (List.mem_append.mp m).elim h g
theorem kv_snd {kvs : List (Key × V)} {vs : List (Key × Value)} (r : KV kvs vs) : Vals (kvs.map (·.2)) (vs.map (·.2)) ∧ kvs.map (·.1) = vs.map (·.1) := by
  induction r with
  | nil => exact ⟨.nil, rfl⟩
  | cons a _ ih => exact ⟨.cons a.2 ih.1, by simp only [List.map_cons]; rw [a.1, ih.2]⟩
theorem isD_vals {K : PySem.W.Frag} : ∀ {ps : List (Key × T)} {xs : List (Key × V)}, IsD K I ps xs → IsL K I (ps.map (·.2)) (xs.map (·.2)) ∧ xs.map (·.1) = ps.map (·.1)
  | [], _, h => by
    have h : _ = [] := h
    subst h
    exact ⟨IsL.nil, rfl⟩
  | (k, t) :: r, _, h => by
    obtain ⟨x, xr, rfl, h1, h2⟩ := h
    obtain ⟨q1, q2⟩ := isD_vals h2
    exact ⟨IsL.cons h1 q1, by simp only [List.map_cons]; rw [q2]⟩
theorem dP_keys : ∀ ps : List (Key × T), (dP ps).map (·.1) = (ps.map (·.1)).map keyD
  | [] => rfl
  | (k, t) :: r => by simp only [dP, List.map_cons, dP_keys r]
theorem dP_vals : ∀ ps : List (Key × T), (dP ps).map (·.2) = dL (ps.map (·.2))
  | [] => rfl
  | (k, t) :: r => by simp only [dP, dL, List.map_cons, dP_vals r]
theorem plainP_L : ∀ ps : List (Key × T), plainP ps = plainL (ps.map (·.2))
  | [] => rfl
  | (k, t) :: r => by simp only [plainP, plainL, List.map_cons, plainP_L r]
theorem noLstP_L : ∀ ps : List (Key × T), noLstP ps = noLstL (ps.map (·.2))
  | [] => rfl
  | (k, t) :: r => by simp only [noLstP, noLstL, List.map_cons, noLstP_L r]
theorem dP_len : ∀ ps : List (Key × T), (dP ps).length = ps.length
  | [] => rfl
  | (k, t) :: r => by simp only [dP, List.length_cons, dP_len r]
mutual
theorem Is.reads (J : Inv X pins σ H s) (sub : Same I H) : ∀ (t : T) (v : V) (u : Value), t.plain = true → Is X.K I t v → RelV v u → ∃ as, Reads s.heap u t.d as ∧ (t.noLst = true → Off as)
  | .non, _, _, _, h, r => by
    have h : _ = _ := h
    subst h
    cases r
    exact ⟨_, Reads.none, fun _ m => by cases m⟩
  | .bl b, _, _, _, h, r => by
    have h : _ = _ := h
    subst h
    cases r
    exact ⟨_, Reads.bool b, fun _ m => by cases m⟩
  | .int i, _, _, _, h, r => by
    have h : _ = _ := h
    subst h
    obtain ⟨t, rfl⟩ := r
    exact ⟨_, Reads.int i t, fun _ m => by cases m⟩
  | .str x, _, _, _, h, r => by
    have h : _ = _ := h
    subst h
    obtain ⟨t, rfl⟩ := r
    exact ⟨_, Reads.str x t, fun _ m => by cases m⟩
  | .lst ts, _, _, hp, h, r => by
    obtain ⟨a, xs, rfl, h1, h2⟩ := h
    cases r
    obtain ⟨its, rv, ⟨o, n, ho, hc, _, hd⟩, _⟩ := J.list (.of (sub _ _ h1))
    obtain ⟨as, hr, _⟩ := IsL.reads J sub ts xs its (by simpa only [T.plain] using hp) h2 rv
    exact ⟨_, Reads.list ho hc hd hr, fun z => by cases z⟩
  | .tup ts, _, _, hp, h, r => by
    obtain ⟨a, xs, rfl, h1, h2⟩ := h
    cases r
    obtain ⟨its, rv, ⟨o, ho, hc, n, hd⟩, _⟩ := J.tuple (sqt_mono sub h1)
    obtain ⟨as, hr, hn⟩ := IsL.reads J sub ts xs its (by simpa only [T.plain] using hp) h2 rv
    exact ⟨_, Reads.tuple ho hc hd hr, fun z => hn (by simpa only [T.noLst] using z)⟩
  | .dct ps, _, _, hp, h, r => by
    obtain ⟨a, xs, rfl, h1, h2⟩ := h
    cases r
    obtain ⟨hz, hS, vs, kv, o, es, ep, ho, hx, hd, _, pr, _⟩ : xs.length ≤ sizeLine ∧ (a == sysModules) = false ∧ ∃ vs, KV xs vs ∧ s.heap.DictOf (mixKind X.prog X.w) a vs := J.hok a _ (sub _ _ h1)
    obtain ⟨rk, rl⟩ := keysReads (h := s.heap) pr
    obtain ⟨kv1, kv2⟩ := kv_snd kv
    obtain ⟨i1, i2⟩ := isD_vals h2
    obtain ⟨as, hr, hn⟩ := IsD.reads J sub ps _ _ (by simpa only [T.plain] using hp) i1 kv1
    have e1 : (vs.map fun p => keyD p.1) = (dP ps).map (·.1) := by
      have : (vs.map fun p => keyD p.1) = (vs.map (·.1)).map keyD := by rw [List.map_map]; rfl
      rw [this, ← kv2, i2, dP_keys]
    rw [e1] at rk
    rw [← rl] at hr
    refine ⟨_, Reads.dict ho hx.1 hd rk (by rw [dP_vals]; exact hr), fun z => ?_⟩
    have hne : a ≠ sysModules := by simpa using hS
    intro m
    rcases List.mem_append.mp m with m | m
    · rcases List.mem_cons.mp m with m | m
      · exact hne m.symm
      · cases m
    · exact hn (by simpa only [T.noLst] using z) m
  | .ins _ _, _, _, hp, _, _ => by cases hp
  | .adr _, _, _, hp, _, _ => by cases hp
theorem IsL.reads (J : Inv X pins σ H s) (sub : Same I H) : ∀ (ts : List T) (vs : List V) (us : List Value), plainL ts = true → IsL X.K I ts vs → Vals vs us → ∃ as, ReadsAll s.heap us (dL ts) as ∧ (noLstL ts = true → Off as)
  | [], _, _, _, h, r => by
    have h : _ = [] := h
    subst h
    cases r
    exact ⟨_, ReadsAll.nil, fun _ m => by cases m⟩
  | t :: ts, _, _, hp, h, r => by
    obtain ⟨x, xr, rfl, h1, h2⟩ := h
    cases r with
    | cons r1 r2 =>
      simp only [plainL, Bool.and_eq_true] at hp
      obtain ⟨as, q1, n1⟩ := Is.reads J sub t x _ hp.1 h1 r1
      obtain ⟨bs, q2, n2⟩ := IsL.reads J sub ts xr _ hp.2 h2 r2
      refine ⟨_, ReadsAll.cons q1 q2, fun z => ?_⟩
      simp only [noLstL, Bool.and_eq_true] at z
      exact off_app (n1 z.1) (n2 z.2)
theorem IsD.reads (J : Inv X pins σ H s) (sub : Same I H) : ∀ (ps : List (Key × T)) (vs : List V) (us : List Value), plainP ps = true → IsL X.K I (ps.map (·.2)) vs → Vals vs us → ∃ as, ReadsAll s.heap us (dL (ps.map (·.2))) as ∧ (noLstP ps = true → Off as)
  | [], _, _, _, h, r => by
    have h : _ = [] := h
    subst h
    cases r
    exact ⟨_, ReadsAll.nil, fun _ m => by cases m⟩
  | (k, t) :: ps, _, _, hp, h, r => by
    obtain ⟨x, xr, rfl, h1, h2⟩ := h
    cases r with
    | cons r1 r2 =>
      simp only [plainP, Bool.and_eq_true] at hp
      obtain ⟨as, q1, n1⟩ := Is.reads J sub t x _ hp.1 h1 r1
      obtain ⟨bs, q2, n2⟩ := IsD.reads J sub ps xr _ hp.2 h2 r2
      refine ⟨_, ReadsAll.cons q1 q2, fun z => ?_⟩
      simp only [noLstP, Bool.and_eq_true] at z
      exact off_app (n1 z.1) (n2 z.2)
end
end
/-- what repr shows -/
def T.show (t : T) : Str := t.d.shown
def showOk (t : T) : Bool := t.plain && t.d.showable && (!t.d.hasDict || t.noLst) && decide (t.d.depth ≤ 60) && decide (t.d.shown.length ≤ sizeLine)
def reprT : List T → Option T
  | [t] => if showOk t = true then some (.str t.show) else none
  | _ => none
section
variable {X : Cx}
def rRepr (K : PySem.W.Frag) : List V → Hp → VK → Prop := fun xs H Q => ∃ I t x, Same I H ∧ xs = [x] ∧ Is K I t x ∧ showOk t = true ∧ Q (.str t.show) H
theorem call_repr (gd : X.A.guards = some []) (hu : X.A.units + 64 < cLine) : CallR X (.builtin "repr") (rRepr X.K) := by
  intro pins s σ H xs us Q J r h
  obtain ⟨I, t, x, sub, rfl, ix, ok, q⟩ := h
  obtain ⟨u, rfl, rx⟩ := r.one
  unfold showOk at ok
  simp only [Bool.and_eq_true, decide_eq_true_eq, Bool.or_eq_true, Bool.not_eq_true'] at ok
  obtain ⟨⟨⟨⟨o1, o2⟩, o3⟩, o4⟩, o5⟩ := ok
  have q : Q (.str t.d.shown) H := q
  have fin : ∀ (h' : Heap) (tk : Tok) (n : Nat), (∀ b o, s.heap.get? b = some o → h'.get? b = some o) → EP X pins σ Q (.str t.d.shown tk) { s with heap := h', toks := n } := fun h' tk n hk => ⟨.str _, H, J.kept hk, ⟨tk, rfl⟩, q⟩
  have far : ∀ a, u = Value.ref a → wpAny (model X.prog X.w) X.A (call (.builtin "repr") [u]) (EP X pins σ Q) X.xe s := fun a e => by
    subst e
    obtain ⟨as, rd, off⟩ := Is.reads J sub t x _ o1 ix rx
    exact repr_of_reads' rd o2 (fun hd => off (o3.resolve_left (by rw [hd]; exact Bool.noConfusion))) gd (by omega) (fun _ _ z => z) (fun h' tk n hk => fin h' tk n hk) o5
  cases t with
  | non =>
    cases (show x = V.non from ix)
    cases rx
    exact PySem.P.repr_of_none (fin s.heap _ _ fun _ _ z => z)
  | bl b =>
    cases (show x = V.bl b from ix)
    cases rx
    refine PySem.P.repr_of_bool ?_
    cases b
    · exact fin s.heap _ _ fun _ _ z => z
    · exact fin s.heap _ _ fun _ _ z => z
  | int i =>
    cases (show x = V.int i from ix)
    obtain ⟨tk, rfl⟩ := rx
    exact PySem.P.repr_of_int (of_decide_eq_true o2) (fin s.heap _ _ fun _ _ z => z)
  | str y =>
    cases (show x = V.str y from ix)
    obtain ⟨tk, rfl⟩ := rx
    exact PySem.P.repr_of_str (fin s.heap _ _ fun _ _ z => z) o5
  | lst ts =>
    obtain ⟨a, ys, rfl, _⟩ := id ix
    exact far a rx
  | tup ts =>
    obtain ⟨a, ys, rfl, _⟩ := id ix
    exact far a rx
  | dct ps =>
    obtain ⟨a, ys, rfl, _⟩ := id ix
    exact far a rx
  | ins _ _ => cases o1
  | adr _ => cases o1
theorem op1_repr : Op1 X (rRepr X.K) reprT := by
  intro Z G I H σ τ s as c xs Q w il e q
  unfold reprT at e
  split at e
  · rename_i t
    split at e
    · rename_i ok
      cases e
      obtain ⟨x, rfl, ix⟩ := il.one
      exact ⟨I, t, x, w.sub, rfl, ix, ok, q.here w rfl⟩
    · cases e
  · cases e
/-! ### == of data -/
def eqT (neg : Bool) : T → T → Option T := fun a b => if a.plain = true ∧ b.plain = true ∧ SeqAt.shaped a.d = true ∧ SeqAt.shaped b.d = true then some (.bl (if neg then !PyData.eqv a.d b.d else PyData.eqv a.d b.d)) else none
def rEqT (K : PySem.W.Frag) (neg : Bool) : R2 := fun x y H Q => ∃ I a b, Same I H ∧ Is K I a x ∧ Is K I b y ∧ a.plain = true ∧ b.plain = true ∧ SeqAt.shaped a.d = true ∧ SeqAt.shaped b.d = true ∧ Q (.bl (if neg then !PyData.eqv a.d b.d else PyData.eqv a.d b.d)) H
theorem op_eqT (hu : X.A.units + 64 < cLine) : OpR X (compareOp .Eq) (rEqT X.K false) := by
  intro pins s σ H x y v u Q J rx ry h
  obtain ⟨I, a, b, sub, ia, ib, pa, pb, sa, sb, q⟩ := h
  obtain ⟨as, r1, _⟩ := Is.reads J sub a x v pa ia rx
  obtain ⟨bs, r2, _⟩ := Is.reads J sub b y u pb ib ry
  exact SeqAt.compareEq_shaped r1 r2 sa sb hu ⟨.bl _, H, J, rfl, q⟩
theorem op_neT (hu : X.A.units + 64 < cLine) : OpR X (compareOp .NotEq) (rEqT X.K true) := by
  intro pins s σ H x y v u Q J rx ry h
  obtain ⟨I, a, b, sub, ia, ib, pa, pb, sa, sb, q⟩ := h
  obtain ⟨as, r1, _⟩ := Is.reads J sub a x v pa ia rx
  obtain ⟨bs, r2, _⟩ := Is.reads J sub b y u pb ib ry
  exact SeqAt.compareNe_shaped r1 r2 sa sb hu ⟨.bl _, H, J, rfl, q⟩
theorem op2_eqT {neg : Bool} : Op2 X (rEqT X.K neg) (eqT neg) := by
  intro Z G I H σ τ s a b c x y Q w i1 i2 e q
  unfold eqT at e
  split at e
  · rename_i h
    cases e
    exact ⟨I, a, b, w.sub, i1, i2, h.1, h.2.1, h.2.2.1, h.2.2.2, q.here w rfl⟩
  · cases e
end
end L2.TL
/-! TL8: texts, places, slices, len, constants, chains. -/
namespace L2.TL
open PySem PySem.Spec
open PyProof.Rows
section
variable {X : Cx} {Z : Res} {a b c e : Expr} {es : List Expr} {fa fb fc f : EF Z} {fs : EFs Z} {pos : Pos}
/-! ### chains -/
theorem chain_run {r r' : R2} {op op' : T → T → Option T} {ta tb tc : TE} (hr : Op2 X r op) (hr' : Op2 X r' op') (h1 : ∀ G I H σ τ s a s' Q, Rep X.K Z G I H σ τ s → fa τ s = some (a, s') → Hand X Z G I σ τ s' a Q → ta σ H Q)
    (h2 : ∀ G I H σ τ s a s' Q, Rep X.K Z G I H σ τ s → fb τ s = some (a, s') → Hand X Z G I σ τ s' a Q → tb σ H Q) (h3 : ∀ G I H σ τ s a s' Q, Rep X.K Z G I H σ τ s → fc τ s = some (a, s') → Hand X Z G I σ τ s' a Q → tc σ H Q)
    {G I H : Hp} {σ : St} {τ : List SV} {s s' : Z.S} {d : T} {Q : VK} (w : Rep X.K Z G I H σ τ s) (h : x3 op op' fa fb fc τ s = some (d, s')) (q : Hand X Z G I σ τ s' d Q) : tChain r r' ta tb tc σ H Q := by
  unfold x3 at h
  split at h
  · rename_i a s1 ea
    split at h
    · rename_i b s2 eb
      refine h1 _ _ _ _ _ _ _ _ _ w ea fun I1 H1 v m1 w1 i1 => ?_
      refine h2 _ _ _ _ _ _ _ _ _ w1 eb fun I2 H2 u m2 w2 i2 => ?_
      split at h
      · rename_i eo
        split at h
        · rename_i c s3 ec
          split at h
          · rename_i d' ed
            cases h
            refine hr Z _ _ _ _ _ _ _ _ _ _ _ _ w2 (i1.mono m2) i2 eo fun I3 H3 z m3 w3 i3 => ⟨true, i3, iteT ?_⟩
            refine h3 _ _ _ _ _ _ _ _ _ w3 ec fun I4 H4 y m4 w4 i4 => ?_
            exact hr' Z _ _ _ _ _ _ _ _ _ _ _ _ w4 (i2.mono (m3.trans m4)) i4 ed fun I5 H5 z' m5 w5 i5 => q I5 H5 z' ((((m1.trans m2).trans m3).trans m4).trans m5) w5 i5
          · cases h
        · cases h
      · rename_i eo
        cases h
        exact hr Z _ _ _ _ _ _ _ _ _ _ _ _ w2 (i1.mono m2) i2 eo fun I3 H3 z m3 w3 i3 => ⟨false, i3, iteF (q I3 H3 _ ((m1.trans m2).trans m3) w3 rfl)⟩
      · cases h
    · cases h
  · cases h
theorem ex_chain {o o' : CmpOp} {r r' : R2} {op op' : T → T → Option T} (ho : OpR X (compareOp o) r) (hr : Op2 X r op) (ho' : OpR X (compareOp o') r') (hr' : Op2 X r' op') (ha : EX X Z a fa) (hb : EX X Z b fb) (hc : EX X Z c fc)
    (hm : lastMarks [o, o'] [b, c] = false := by with_unfolding_all rfl) : EX X Z (.Compare a [o, o'] [b, c] pos) (x3 op op' fa fb fc) := by
  obtain ⟨ta, pa, h1⟩ := ha
  obtain ⟨tb, pb, h2⟩ := hb
  obtain ⟨tc, pc, h3⟩ := hc
  exact ⟨_, pe_chain ho ho' pa pb pc hm, fun G I H σ τ s d s' Q w h q => chain_run hr hr' h1 h2 h3 w h q⟩
theorem eb_chain {o o' : CmpOp} {r r' : R2} {op op' : T → T → Option T} (ho : OpR X (compareOp o) r) (hr : Op2 X r op) (ho' : OpR X (compareOp o') r') (hr' : Op2 X r' op') (ha : EX X Z a fa) (hb : EX X Z b fb) (hc : EX X Z c fc)
    (hm : lastMarks [o, o'] [b, c] = false := by with_unfolding_all rfl) : EB X Z (.Compare a [o, o'] [b, c] pos) (xb (x3 op op' fa fb fc)) := by
  obtain ⟨ta, pa, h1⟩ := ha
  obtain ⟨tb, pb, h2⟩ := hb
  obtain ⟨tc, pc, h3⟩ := hc
  exact ⟨_, pt_chain ho ho' pa pb pc hm, fun G I H σ τ s d s' Q w h q => chain_run hr hr' h1 h2 h3 w (xb_of h) fun I' H' v m w' i => ⟨d, i, q I' H' m w'⟩⟩
/-- a constant of the module -/
theorem ex_glob {x : Str} {t : T} {v : V} {u : Value} (hg : Gl X x) (hm : X.mg x = some u) (r : RelV v u) (hi : ∀ I, Is X.K I t v) (hd : (x == ("__debug__" : Str)) = false := by decide) : EX X Z (.Name x pos) (xC t) :=
  ⟨_, pe_glob hg hm r hd, fun G I H σ τ s a s' Q w h q => by
    cases h
    exact q I H v (Same.refl _) w (hi I)⟩
/-! ### len -/
def lenT : List T → Option T
  | [.lst ts] => some (.int ts.length)
  | [.tup ts] => some (.int ts.length)
  | [.str x] => if x.length ≤ sizeLine then some (.int x.length) else none
  | _ => none
def rLen (K : PySem.W.Frag) : List V → Hp → VK → Prop := fun xs H Q => ∃ x n, xs = [x] ∧ LenV K x H n ∧ Q (.int n) H
theorem op1_len : Op1 X (rLen X.K) lenT := by
  intro Z G I H σ τ s as c xs Q w il e q
  unfold lenT at e
  split at e
  · cases e
    obtain ⟨x, rfl, ix⟩ := il.one
    obtain ⟨p, ys, rfl, h1, h2⟩ := ix
    exact ⟨_, _, rfl, .inl ⟨ys, .of (w.sub _ _ h1), rfl⟩, by rw [h2.len]; exact q.here w rfl⟩
  · cases e
    obtain ⟨x, rfl, ix⟩ := il.one
    obtain ⟨p, ys, rfl, h1, h2⟩ := ix
    exact ⟨_, _, rfl, .inr ⟨ys, sqt_mono w.sub h1, rfl⟩, by rw [h2.len]; exact q.here w rfl⟩
  · split at e
    · rename_i y hz
      cases e
      obtain ⟨x, rfl, ix⟩ := il.one
      have ix : x = _ := ix
      subst ix
      exact ⟨_, _, rfl, ⟨hz, rfl⟩, q.here w rfl⟩
    · cases e
  · cases e
/-! ### an item by its place -/
def ixT : T → T → Option T
  | .lst ts, .int i => atI ts i
  | .tup ts, .int i => atI ts i
  | .str x, .int i => if x.length ≤ sizeLine then match atI x.cps.toList i with
      | some c => some (.str ⟨#[c]⟩)
      | none => none
    else none
  | _, _ => none
theorem IsL.atI {K : PySem.W.Frag} {I : Hp} {ts : List T} {xs : List V} {i : Int} {t : T} (h : IsL K I ts xs) (e : L2.atI ts i = some t) : ∃ x, L2.atI xs i = some x ∧ Is K I t x := by
  unfold L2.atI at e ⊢
  rw [h.len]
  cases hj : ixN ts.length i with
  | none => rw [hj] at e; cases e
  | some j =>
    rw [hj] at e
    exact h.at e
theorem op2_ix : Op2 X (rIx X.K) ixT := by
  intro Z G I H σ τ s a b c x y Q w i1 i2 e q
  unfold ixT at e
  split at e
  · obtain ⟨p, xs, rfl, h1, h2⟩ := i1
    have i2 : y = _ := i2
    subst i2
    obtain ⟨v, e1, e2⟩ := h2.atI e
    exact .inl ⟨p, xs, _, v, rfl, rfl, .of (w.sub _ _ h1), e1, q.here w e2⟩
  · obtain ⟨p, xs, rfl, h1, h2⟩ := i1
    have i2 : y = _ := i2
    subst i2
    obtain ⟨v, e1, e2⟩ := h2.atI e
    exact .inr (.inl ⟨p, xs, _, v, rfl, rfl, sqt_mono w.sub h1, e1, q.here w e2⟩)
  · split at e
    · rename_i hz
      split at e
      · rename_i d ed
        cases e
        have i1 : x = _ := i1
        have i2 : y = _ := i2
        subst i1 i2
        exact .inr (.inr ⟨_, _, d, rfl, rfl, hz, ed, q.here w rfl⟩)
      · cases e
    · cases e
  · cases e
/-! ### slices -/
def EO (X : Cx) (Z : Res) (e : Option Expr) (f : List SV → Z.S → Option (Option Int × Z.S)) : Prop :=
  ∃ t, PO X e t ∧ ∀ G I H σ τ s o s' Q, Rep X.K Z G I H σ τ s → f τ s = some (o, s') → (∀ I' H', Same I I' → Rep X.K Z G I' H' σ τ s' → Q o H') → t σ H Q
def oNone {Z : Res} : List SV → Z.S → Option (Option Int × Z.S) := fun _ s => some (none, s)
def oSome {Z : Res} (f : EF Z) : List SV → Z.S → Option (Option Int × Z.S) := fun τ s => match f τ s with
  | some (.int i, s') => some (some i, s')
  | _ => none
theorem eo_none : EO X Z none oNone := ⟨_, po_none, fun G I H σ τ s o s' Q w h q => by
  cases h
  exact q I H (Same.refl _) w⟩
theorem eo_some (h : EX X Z e f) : EO X Z (some e) (oSome f) := by
  obtain ⟨t, p, h1⟩ := h
  refine ⟨_, po_some p, fun G I H σ τ s o s' Q w h q => ?_⟩
  unfold oSome at h
  split at h
  · rename_i i s1 ea
    cases h
    refine h1 _ _ _ _ _ _ _ _ _ w ea fun I1 H1 v m1 w1 i1 => ?_
    have i1 : v = _ := i1
    subst i1
    exact ⟨i, rfl, q I1 H1 m1 w1⟩
  · cases h
def cutL {α : Type} (ts : List α) (lo hi : Option Int) : List α := (ts.drop (HT.sIx ts.length 0 lo)).take (HT.sIx ts.length ts.length hi - HT.sIx ts.length 0 lo)
def cutT (t : T) (lo hi : Option Int) : Option T := match t with
  | .tup ts => some (.tup (cutL ts lo hi))
  | .lst ts => some (.lst (cutL ts lo hi))
  | .str x => if x.length ≤ sizeLine then some (.str (cutS x lo hi)) else none
  | _ => none
theorem IsL.cut {K : PySem.W.Frag} {I : Hp} {ts : List T} {xs : List V} (h : IsL K I ts xs) (lo hi : Option Int) : IsL K I (cutL ts lo hi) (cutV xs lo hi) := by
  unfold cutL cutV
  rw [h.len]
  exact (h.drop _).take _
def xCut {Z : Res} (f : EF Z) (lo hi : List SV → Z.S → Option (Option Int × Z.S)) : EF Z := fun τ s => match f τ s with
  | some (a, s1) => match lo τ s1 with
    | some (l, s2) => match hi τ s2 with
      | some (h, s3) => match cutT a l h with
        | some b => some (b, s3)
        | none => none
      | none => none
    | none => none
  | none => none
def rSlc (K : PySem.W.Frag) : V → Option Int → Option Int → Hp → VK → Prop := fun x lo hi H Q => rSlL K x lo hi H Q ∨ (rSlA K x lo hi H Q ∨ rSlS x lo hi H Q)
theorem slc_run {G I H : Hp} {σ : St} {τ : List SV} {s : Z.S} {a b : T} {x : V} {lo hi : Option Int} {Q : VK} (w : Rep X.K Z G I H σ τ s) (i : Is X.K I a x) (h : cutT a lo hi = some b) (q : Hand X Z G I σ τ s b Q) : rSlc X.K x lo hi H Q := by
  unfold cutT at h
  split at h
  · rename_i ts
    cases h
    obtain ⟨p, xs, rfl, h1, h2⟩ := i
    refine .inr (.inl ⟨p, xs, rfl, sqt_mono w.sub h1, fun hw => ?_, fun _ l hl => q.new w hl fun I' m e => ⟨l, _, rfl, .of e, (h2.cut lo hi).mono m⟩⟩)
    refine q.here w ⟨p, xs, rfl, h1, ?_⟩
    unfold cutL
    rw [h2.len] at hw
    rw [hw.1, hw.2, List.drop_zero, Nat.sub_zero, List.take_length]
    exact h2
  · cases h
    obtain ⟨p, xs, rfl, h1, h2⟩ := i
    exact .inl ⟨p, xs, rfl, .of (w.sub _ _ h1), fun l hl => q.new w hl fun I' m e => ⟨l, _, rfl, e, (h2.cut lo hi).mono m⟩⟩
  · split at h
    · rename_i hz
      cases h
      have i : x = _ := i
      subst i
      exact .inr (.inr ⟨_, rfl, hz, q.here w rfl⟩)
    · cases h
  · cases h
theorem ex_cut {lo hi : Option Expr} {fl fh : List SV → Z.S → Option (Option Int × Z.S)} {p2 : Pos} (he : EX X Z e f) (hl : EO X Z lo fl) (hh : EO X Z hi fh) : EX X Z (.Subscript e (.Slice lo hi none p2) pos) (xCut f fl fh) := by
  obtain ⟨t, p, h1⟩ := he
  obtain ⟨tl, pl, h2⟩ := hl
  obtain ⟨th, ph, h3⟩ := hh
  refine ⟨_, pe_slice (r := rSlc X.K) (sl_list.or (sl_tupA.or sl_str)) p pl ph, fun G I H σ τ s a s' Q w h q => ?_⟩
  unfold xCut at h
  split at h
  · rename_i a s1 ea
    split at h
    · rename_i l s2 el
      split at h
      · rename_i u s3 eh
        split at h
        · rename_i b eb
          cases h
          refine h1 _ _ _ _ _ _ _ _ _ w ea fun I1 H1 v m1 w1 i1 => ?_
          refine h2 _ _ _ _ _ _ _ _ _ w1 el fun I2 H2 m2 w2 => ?_
          refine h3 _ _ _ _ _ _ _ _ _ w2 eh fun I3 H3 m3 w3 => ?_
          exact slc_run w3 (i1.mono (m2.trans m3)) eb fun I4 H4 z m4 w4 i4 => q I4 H4 z (((m1.trans m2).trans m3).trans m4) w4 i4
        · cases h
      · cases h
    · cases h
  · cases h
/-! ### methods of texts -/
def strs? : List T → Option (List Str)
  | [] => some []
  | .str x :: r => match strs? r with
    | some xs => some (x :: xs)
    | none => none
  | _ => none
theorem strs?_eq : ∀ {ts : List T} {xs : List Str}, strs? ts = some xs → ts = xs.map T.str
  | [], _, h => by
    cases h
    rfl
  | t :: r, xs, h => by
    cases t with
    | str x =>
      have h : (match strs? r with
        | some xs => some (x :: xs)
        | none => none) = some xs := h
      split at h
      · rename_i ys e
        cases h
        rw [strs?_eq e]
        rfl
      · cases h
    | _ => cases h
theorem strs?_map : ∀ xs : List Str, strs? (xs.map T.str) = some xs
  | [] => rfl
  | x :: r => by
    show (match strs? (r.map T.str) with
      | some xs => some (x :: xs)
      | none => none) = some (x :: r)
    rw [strs?_map r]
def joinT : T → List T → Option T
  | .str a, [.lst ts] => match strs? ts with
    | some ys => if (ys.map (·.length)).sum + ys.length * a.length ≤ 16777216 then some (.str (Txt.join a ys)) else none
    | none => none
  | _, _ => none
def rJoin (K : PySem.W.Frag) : V → List V → Hp → VK → Prop := fun x xs H Q => ∃ a p, ∃ ys : List Str, x = .str a ∧ xs = [.ref p] ∧ (SqL K H p (ys.map V.str) ∨ SqT K H p (ys.map V.str)) ∧
    (ys.map (·.length)).sum + ys.length * a.length ≤ 16777216 ∧ Q (.str (Txt.join a ys)) H
theorem opm_join : OpM X (rJoin X.K) joinT := by
  intro Z G I H σ τ s a as c x xs Q w ia il e q
  unfold joinT at e
  split at e
  · rename_i y ts
    split at e
    · rename_i ys es
      split at e
      · rename_i hz
        cases e
        have ia : x = _ := ia
        subst ia
        obtain ⟨v, rfl, iv⟩ := il.one
        rw [strs?_eq es] at iv
        obtain ⟨p, us, rfl, h1, h2⟩ := iv
        have := h2.strs
        subst this
        exact ⟨_, p, ys, rfl, rfl, .inl (.of (w.sub _ _ h1)), hz, q.here w rfl⟩
      · cases e
    · cases e
  · cases e
/-- a method of a text that takes nothing -/
def strM (g : Str → T) (lim : Nat) : T → List T → Option T
  | .str a, [] => if a.length ≤ lim then some (g a) else none
  | _, _ => none
def rStrM (g : Str → V) (lim : Nat) : V → List V → Hp → VK → Prop := fun x xs H Q => ∃ a, x = .str a ∧ xs = [] ∧ a.length ≤ lim ∧ Q (g a) H
theorem opm_str {g : Str → T} {gv : Str → V} {lim : Nat} (hg : ∀ K I a, Is K I (g a) (gv a)) : OpM X (rStrM gv lim) (strM g lim) := by
  intro Z G I H σ τ s a as c x xs Q w ia il e q
  unfold strM at e
  split at e
  · split at e
    · rename_i hz
      cases e
      have ia : x = _ := ia
      subst ia
      exact ⟨_, rfl, il.zero, hz, q.here w (hg _ _ _)⟩
    · cases e
  · cases e
def rStrT (g : Str → V) : V → List V → Hp → VK → Prop := fun x xs H Q => ∃ a, x = .str a ∧ xs = [] ∧ True ∧ Q (g a) H
def strMT (g : Str → T) : T → List T → Option T
  | .str a, [] => some (g a)
  | _, _ => none
theorem opm_strT {g : Str → T} {gv : Str → V} (hg : ∀ K I a, Is K I (g a) (gv a)) : OpM X (rStrT gv) (strMT g) := by
  intro Z G I H σ τ s a as c x xs Q w ia il e q
  unfold strMT at e
  split at e
  · cases e
    have ia : x = _ := ia
    subst ia
    exact ⟨_, rfl, il.zero, trivial, q.here w (hg _ _ _)⟩
  · cases e
theorem is_bl (g : Str → Bool) : ∀ (K : PySem.W.Frag) (I : Hp) (a : Str), Is K I (T.bl (g a)) (V.bl (g a)) := fun _ _ _ => rfl
theorem is_str (g : Str → Str) : ∀ (K : PySem.W.Frag) (I : Hp) (a : Str), Is K I (T.str (g a)) (V.str (g a)) := fun _ _ _ => rfl
/-! ### text * n -/
def mulS : T → T → Option T
  | .str x, .int n => if 0 ≤ n ∧ n ≤ 1000 ∧ x.length ≤ 1000 then some (.str (Txt.mul x n)) else none
  | _, _ => none
def rMulS : R2 := fun x y H Q => ∃ z n, x = .str z ∧ y = .int n ∧ (0 ≤ n ∧ n ≤ 1000 ∧ z.length ≤ 1000) ∧ Q (.str (Txt.mul z n)) H
theorem op_mulS : OpR X (binaryOp .Mult) rMulS := by
  intro pins s σ H x y v u Q J rx ry h
  obtain ⟨z, n, rfl, rfl, ⟨n0, n1, n2⟩, q⟩ := h
  obtain ⟨t, rfl⟩ := rx
  obtain ⟨t', rfl⟩ := ry
  refine SB.mul ⟨?_, fun h1 h2 h3 => ?_, fun h1 h2 => ?_⟩ fun t' k => ⟨.str _, H, J.tok _, ⟨_, rfl⟩, q⟩
  · have e1 : decide (n < -(2 ^ 63 : Int)) = false := decide_eq_false (by omega)
    have e2 : decide (n ≥ 2 ^ 63) = false := decide_eq_false (by omega)
    rw [e1, e2]
    rfl
  · have h4 : (1000 : Int) ≤ (2 ^ 63 - 1) / n := by
      rw [Int.le_ediv_iff_mul_le (by omega)]
      omega
    omega
  · have hk : n.toNat ≤ 1000 := by omega
    have hm : z.length * n.toNat ≤ 1000 * 1000 := Nat.mul_le_mul n2 hk
    exact decide_eq_false (by rw [sizeLine_eq] at *; omega)
theorem op2_mulS : Op2 X rMulS mulS := by
  intro Z G I H σ τ s a b c x y Q w i1 i2 e q
  unfold mulS at e
  split at e
  · split at e
    · rename_i hz
      cases e
      have i1 : x = _ := i1
      have i2 : y = _ := i2
      exact ⟨_, _, i1, i2, hz, q.here w rfl⟩
    · cases e
  · cases e
end
end L2.TL
/-! TLd: the deck that a law draws from. -/
namespace L2.TL
open PySem PySem.Spec
open PyProof.Rows
structure Deck where
  cells : List Int
  blend : Int
  draws : Int
  few : cells.length ≤ 63
def deckK (c : Addr) (b n : Int) : List (Key × V) := [(Sum.inr "cells", .ref c), (Sum.inr "blend", .int b), (Sum.inr "draws", .int n)]
def DeckAt (d c : Addr) (s : Deck) (H : Hp) : Prop := H d = some (.dK (deckK c s.blend s.draws)) ∧ H c = some (.lst (s.cells.map V.int))
/-- the resource: the dict at d, its list at c -/
def deckZ (d c : Addr) : Res where
  S := Deck
  F := fun p => p = d ∨ p = c
  R := fun s _ H => DeckAt d c s H
  dom := fun s I H p r h => by
    rcases h with rfl | rfl
    · exact ⟨_, r.1⟩
    · exact ⟨_, r.2⟩
  loc := fun s I H I' H' r _ k => ⟨by rw [k d (.inl rfl)]; exact r.1, by rw [k c (.inr rfl)]; exact r.2⟩
theorem s_bc : ¬ ("blend" : Str) = "cells" := by decide +kernel
theorem s_cd : ¬ ("cells" : Str) = "draws" := by decide +kernel
theorem s_bd : ¬ ("blend" : Str) = "draws" := by decide +kernel
theorem s_cb : ¬ ("cells" : Str) = "blend" := by decide +kernel
theorem s_db : ¬ ("draws" : Str) = "blend" := by decide +kernel
theorem s_dc : ¬ ("draws" : Str) = "cells" := by decide +kernel
theorem inrN {x y : Str} (h : ¬ x = y) : ¬ (Sum.inr x : Key) = Sum.inr y := fun e => h (Sum.inr.inj e)
theorem deck_cells (c : Addr) (b n : Int) : valV (deckK c b n) (Sum.inr "cells") = some (.ref c) := by
  unfold deckK
  rw [valV_pos rfl]
theorem deck_blend (c : Addr) (b n : Int) : valV (deckK c b n) (Sum.inr "blend") = some (.int b) := by
  unfold deckK
  rw [valV_neg (inrN s_cb), valV_pos rfl]
theorem deck_draws (c : Addr) (b n : Int) : valV (deckK c b n) (Sum.inr "draws") = some (.int n) := by
  unfold deckK
  rw [valV_neg (inrN s_cd), valV_neg (inrN s_bd), valV_pos rfl]
theorem deck_put (c : Addr) (b n m : Int) : putK (deckK c b n) (Sum.inr "draws") (.int m) = deckK c b m := by
  unfold deckK putK
  simp [s_cd, s_bd]
theorem deck_merge (c : Addr) (b n : Int) : mergeK [] (deckK c b n) = deckK c b n := by
  unfold mergeK deckK
  simp [putK, s_bc, s_cd, s_bd, s_cb, s_db, s_dc]
/-- one draw -/
def drawF (p q : Int) (s : Deck) (n : Int) : Int × Deck :=
  let dr := s.draws + 1
  let tail := fun (fig : Int) => (((((fig * 40692 + q) % 2147483647) * ((fig * 40692 + q) % 2147483647) + 52711 * dr + q) % 2147483587 * 39373) % 2147483563 / 64) % n
  match h : s.cells.getLast? with
  | none => (tail (s.blend + p * dr), ⟨s.cells, s.blend, dr, s.few⟩)
  | some cell => if 10 ^ 18 ≤ cell then (cell % n, ⟨s.cells.dropLast ++ [cell / n], s.blend, dr, by
      have := s.few
      have h0 : s.cells ≠ [] := by
        intro z
        rw [z] at h
        cases h
      have := List.length_pos_iff.mpr h0
      simp only [List.length_append, List.length_dropLast, List.length_cons, List.length_nil]
      omega⟩)
    else (tail (s.blend + p * dr + cell % 2147483629), ⟨s.cells.dropLast, s.blend, dr, by
      have := s.few
      rw [List.length_dropLast]
      omega⟩)
theorem drawF_range (p q : Int) (s : Deck) (n : Int) (h : 0 < n) : 0 ≤ (drawF p q s n).1 ∧ (drawF p q s n).1 < n := by
  unfold drawF
  dsimp only
  split
  · exact ⟨Int.emod_nonneg _ (by omega), Int.emod_lt_of_pos _ h⟩
  · split
    · exact ⟨Int.emod_nonneg _ (by omega), Int.emod_lt_of_pos _ h⟩
    · exact ⟨Int.emod_nonneg _ (by omega), Int.emod_lt_of_pos _ h⟩
/-- _law_draw, by trees -/
def drawT (p q : Int) (d c : Addr) : FF (deckZ d c) := fun ts s => match ts with
  | [.adr e, .int n] => if e = d ∧ 0 < n ∧ n < 1073741824 then some (.int (drawF p q s n).1, (drawF p q s n).2) else none
  | _ => none
theorem dp_ints {K : PySem.W.Frag} {H : Hp} : ∀ ns : List Int, IsL K H (ns.map T.int) (ns.map V.int)
  | [] => IsL.nil
  | _ :: ns => IsL.cons rfl (dp_ints ns)
theorem plain_ints : ∀ ns : List Int, plainL (ns.map T.int) = true
  | [] => rfl
  | _ :: ns => by
    simp only [List.map_cons, plainL, plain_ints ns]
    rfl
theorem dL_ints : ∀ ns : List Int, dL (ns.map T.int) = ns.map PyData.int
  | [] => rfl
  | _ :: ns => by
    simp only [List.map_cons, dL, dL_ints ns]
    rfl
theorem lay_ints : ∀ ns : List Int, PyData.canLayAll0 (ns.map PyData.int) = true
  | [] => rfl
  | _ :: ns => by
    simp only [List.map_cons, PyData.canLayAll0, lay_ints ns]
    rfl
theorem depth_ints : ∀ ns : List Int, PyData.depthAll (ns.map PyData.int) = 0
  | [] => rfl
  | _ :: ns => by
    simp only [List.map_cons, PyData.depthAll, depth_ints ns]
    rfl
theorem ne_nil {K : PySem.W.Frag} {H : Hp} {ns : List Int} {c p : Addr} {Q : VK} (h : H c = some (.lst (ns.map V.int))) (hp : H p = some (.lst [])) (q : Q (.bl (!ns.isEmpty)) H) : rEqT K true (.ref c) (.ref p) H Q := by
  refine ⟨H, .lst (ns.map T.int), .lst [], Same.refl _, ⟨c, _, rfl, h, dp_ints ns⟩, ⟨p, _, rfl, hp, IsL.nil⟩, ?_, rfl, ?_, by decide +kernel, ?_⟩
  · show plainL (ns.map T.int) = true
    exact plain_ints ns
  · show (PyData.canLayAll0 (dL (ns.map T.int)) && decide (PyData.depth (T.d (.lst (ns.map T.int))) ≤ 64)) = true
    rw [dL_ints, lay_ints]
    show decide (PyData.depthAll (dL (ns.map T.int)) + 1 ≤ 64) = true
    rw [dL_ints, depth_ints]
    rfl
  · show Q (.bl (!PyData.eqvAll (dL (ns.map T.int)) [])) H
    cases ns with
    | nil => exact q
    | cons _ _ => exact q
theorem dg_cells {H : Hp} {d c : Addr} {b n : Int} (h : H d = some (.dK (deckK c b n))) : DGet H d (.str "cells") (some (.ref c)) := by
  have := DGet.k (k := Sum.inr "cells") h
  rw [deck_cells] at this
  exact this
theorem dg_blend {H : Hp} {d c : Addr} {b n : Int} (h : H d = some (.dK (deckK c b n))) : DGet H d (.str "blend") (some (.int b)) := by
  have := DGet.k (k := Sum.inr "blend") h
  rw [deck_blend] at this
  exact this
theorem dg_draws {H : Hp} {d c : Addr} {b n : Int} (h : H d = some (.dK (deckK c b n))) : DGet H d (.str "draws") (some (.int n)) := by
  have := DGet.k (k := Sum.inr "draws") h
  rw [deck_draws] at this
  exact this
theorem dp_draws {H : Hp} {d c : Addr} {b n m : Int} (h : H d = some (.dK (deckK c b n))) : DPut H d (.str "draws") (.int m) (upd H d (.dK (deckK c b m))) := by
  have := DPut.k (k := Sum.inr "draws") (v := .int m) h (by rw [sizeLine_eq]; show 3 < 16777216; decide)
  rw [deck_put] at this
  exact this
/-- the drawing ends: only d and c may have changed, and new objects came -/
theorem draw_ends {K : PySem.W.Frag} {d c : Addr} {I H H' : Hp} {s' : Deck} {n v : Int} {Q : VK} (sub : Same I H) (rf : ∀ p, (deckZ d c).F p → I p = none) (stay : ∀ p o, p ≠ d → p ≠ c → H p = some o → H' p = some o) (r : DeckAt d c s' H')
    (q : ∀ I' H' v, Ext (deckZ d c).F I H I' H' → (deckZ d c).R s' I' H' → Is K I' (.int n) v → Q v H') (e : v = n) : Q (.int v) H' := by
  subst e
  have ne : ∀ p o, I p = some o → p ≠ d ∧ p ≠ c := fun p o h => by
    refine ⟨fun z => ?_, fun z => ?_⟩
    · rw [rf p (.inl z)] at h
      cases h
    · rw [rf p (.inr z)] at h
      cases h
  refine q I H' _ ⟨Same.refl _, fun p o h => ?_, fun p o h1 h2 h3 => ⟨h1, ?_⟩, fun _ _ h => h⟩ r rfl
  · obtain ⟨a, b⟩ := ne p o h
    exact stay p o a b (sub p o h)
  · exact stay p o (fun z => h2 (.inl z)) (fun z => h2 (.inr z)) h3
/-- _law_deck: a new deck of the script's numbers -/
def spDeck (K : PySem.W.Frag) : Sp := fun vs H Q _ => ∃ (a : Addr) (ns : List Int), vs = [.ref a] ∧ SqL K H a (ns.map V.int) ∧ ns.length ≤ 63 ∧
  ∀ (H' : Hp) (d c : Addr) (s : Deck), Same H H' → H d = none → H c = none → DeckAt d c s H' → Q (.ref d) H'
end L2.TL
/-! TL9: keyword calls, lists that a slot owns, joined operations, a law's rest for any deck. -/
namespace L2.TL
open PySem PySem.Spec
open PyProof.Rows
/-- in another order -/
def ord {α : Type} (ix : List Nat) (l : List α) : List α := ix.filterMap fun i => l[i]?
theorem ord_rel {K : PySem.W.Frag} {I : Hp} {ts : List T} {vs : List V} (h : IsL K I ts vs) : ∀ ix : List Nat, IsL K I (ord ix ts) (ord ix vs)
  | [] => IsL.nil
  | i :: r => by
    unfold ord
    rw [List.filterMap_cons, List.filterMap_cons]
    by_cases hi : i < ts.length
    · obtain ⟨x, e1, e2⟩ := h.at (List.getElem?_eq_getElem hi)
      rw [List.getElem?_eq_getElem hi, e1]
      exact IsL.cons e2 (ord_rel h r)
    · rw [List.getElem?_eq_none (by omega), List.getElem?_eq_none (by rw [h.len]; omega)]
      exact ord_rel h r
theorem ord_vals {vs : List V} {us : List Value} (h : Vals vs us) : ∀ ix : List Nat, Vals (ord ix vs) (ord ix us)
  | [] => .nil
  | i :: r => by
    unfold ord
    rw [List.filterMap_cons, List.filterMap_cons]
    cases e : vs[i]? with
    | none =>
      rw [h.none_of e]
      exact ord_vals h r
    | some v =>
      obtain ⟨u, e1, e2⟩ := h.get e
      rw [e1]
      exact .cons e2 (ord_vals h r)
/-- how a call by names alone binds -/
def KOrd (fd : FuncData) (ps ks : List Str) (ix : List Nat) : Prop := ∀ ws : List Value, ws.length = ks.length → bindArgs fd ⟨[], ks.zip ws⟩ = pure (ps.zip (ord ix ws)) ∧ (ord ix ws).length = ps.length
theorem kord {K : PySem.W.Frag} {x qual : Str} {st : Stmt} {f : Addr} {fd : FuncData} {ps ks : List Str} {ix : List Nat} (F : Fun K x qual st f fd)
    (h : ∀ (kV doc pm : Value) (an : Option Addr) (cdv ct : Value) (us : List Value), us.length = ks.length → bindArgs (PySem.W.fnOf x qual (defArgs st) (defBody st) (defScope st) .none kV doc pm an cdv ct) ⟨[], ks.zip us⟩ = pure (ps.zip (ord ix us)) ∧ (ord ix us).length = ps.length) : KOrd fd ps ks ix := by
  obtain ⟨oc, od, kV, doc, pm, an, cdv, ct, osl, rfl, lk, hcd⟩ := F.ex
  exact h kV doc pm an cdv ct
section
variable {X : Cx} {Z : Res} {e : Expr} {es : List Expr} {fs : EFs Z} {pos : Pos} {k : Nat} {f : Addr} {fd : FuncData} {ps ks : List Str} {fp : FP} {kws : List Keyword}
def xOrd {Z : Res} (n : Nat) (ix : List Nat) (fs : EFs Z) : EFs Z := fun τ s => match fs τ s with
  | some (as, s1) => if as.length = n then some (ord ix as, s1) else none
  | none => none
theorem ex_callKP {x : Str} {p : Pos} {ix : List Nat} (F : FnOk X.prog X.w X.K X.mg X.base CX0 k f fd ps (spP X.K fp)) (hr : Room k X.A) (hg : Gl X x) (hm : X.mg x = some (.ref f)) (hk : PySem.W.keepIn X.K (.ref f) = true) (hb : KOrd fd ps ks ix) (ha : ELk X Z kws fs)
    {n : Nat} (hn : ks.length = n := by rfl) (hall : (backToKw pos (keywordEach kws X.env)).all (·.1.isSome) = true := by rfl) (hks : (backToKw pos (keywordEach kws X.env)).filterMap (·.1) = ks := by rfl) (hdb : (x == ("__debug__" : Str)) = false := by decide)
    (hpl : ((backTo pos (starEach [] X.env)).any (·.1) || (backToKw pos (keywordEach kws X.env)).any (·.1.isNone)) = false := by rfl) :
    EX X Z (.Call (.Name x p) [] kws pos) (xCallP fp (xOrd n ix fs)) := by
  obtain ⟨t, pk, h1⟩ := ha
  refine ⟨_, (⟨fun pins s σ H Q J hq => wpAny_Call_Name_kw (ld_glob J hg hm (PySem.W.callWith_KW0 (h₀ := X.base) J.ok.mod.kin hk hall (thn (pk.run pos pins s σ H _ J hq) fun us s1 ⟨vs, H1, J1, r, hl, q⟩ => ⟨J1.kIn, ?_⟩) hpl) hdb)⟩ :
    PE X (.Call (.Name x p) [] kws pos) (fun σ H Q => t σ H fun vs H1 => vs.length = ks.length ∧ spP X.K fp (ord ix vs) H1 Q E0)), fun G I H σ τ s a s' Q w h q => ?_⟩
  · rw [hks]
    obtain ⟨b1, b2⟩ := hb us (by rw [← r.length]; exact hl)
    refine wpAny_call (codeAny_mono (F.run X.A X.stack s1 H1 _ (ord ix us) (ord ix vs) Q E0 hr J1.env0 (.of_eq b1) (ord_vals r ix) q) fun res z hz => ?_)
    cases res with
    | error e => exact (show False from hz).elim
    | ok fl => cases fl with
      | ret u => exact J1.after hz
      | _ => exact (show False from hz).elim
  · unfold xCallP at h
    split at h
    · rename_i as s1 ea
      unfold xOrd at ea
      split at ea
      · rename_i bs s2 eb
        split at ea
        · rename_i hl
          cases ea
          split at h
          · rename_i b eb'
            cases h
            exact h1 _ _ _ _ _ _ _ _ _ w eb fun I1 H1 vs m1 w1 i1 => ⟨by rw [i1.len, hl, hn], sp_useP w1 (ord_rel i1 ix) eb' fun I' H' v m => q I' H' v (m1.trans m)⟩
          · cases h
        · cases ea
      · cases ea
    · cases h
/-! ### joined operations -/
def orT (f g : T → T → Option T) : T → T → Option T := fun a b => match f a b with
  | some c => some c
  | none => g a b
def addX : T → T → Option T := orT addI (orT addS (orT addL addT))
theorem ex_add {a b : Expr} {fa fb : EF Z} (ha : EX X Z a fa) (hb : EX X Z b fb) : EX X Z (.BinOp a .Add b pos) (x2 addX fa fb) :=
  ex_bin (OpR.or op_add (OpR.or op_add_str (OpR.or op_cat op_catA))) (Op2.or op2_addI (Op2.or op2_addS (Op2.or op2_addL op2_addT))) ha hb
def mulX : T → T → Option T := orT mulI mulS
theorem ex_mul {a b : Expr} {fa fb : EF Z} (ha : EX X Z a fa) (hb : EX X Z b fb) : EX X Z (.BinOp a .Mult b pos) (x2 mulX fa fb) :=
  ex_bin (OpR.or op_mul op_mulS) (Op2.or op2_mulI op2_mulS) ha hb
theorem ex_sub {a b : Expr} {fa fb : EF Z} (ha : EX X Z a fa) (hb : EX X Z b fb) : EX X Z (.BinOp a .Sub b pos) (x2 subI fa fb) := ex_bin op_sub op2_subI ha hb
theorem ex_mod {a b : Expr} {fa fb : EF Z} (ha : EX X Z a fa) (hb : EX X Z b fb) : EX X Z (.BinOp a .Mod b pos) (x2 modI fa fb) := ex_bin op_mod op2_modI ha hb
theorem ex_fdiv {a b : Expr} {fa fb : EF Z} (ha : EX X Z a fa) (hb : EX X Z b fb) : EX X Z (.BinOp a .FloorDiv b pos) (x2 divI fa fb) := ex_bin op_fdiv op2_divI ha hb
def sLt : Str → Str → Bool := fun i j => decide (i.cps.toList < j.cps.toList)
def ltX : T → T → Option T := orT (cmpI fun i j => decide (i < j)) (cmpS sLt)
def leX : T → T → Option T := orT (cmpI fun i j => decide (i ≤ j)) (cmpS fun i j => !sLt j i)
def gtX : T → T → Option T := orT (cmpI fun i j => decide (j < i)) (cmpS fun i j => sLt j i)
def geX : T → T → Option T := orT (cmpI fun i j => decide (j ≤ i)) (cmpS fun i j => !sLt i j)
theorem or_lt : OpR X (compareOp .Lt) (fun x y H Q => rI0 (fun i j => .bl (decide (i < j))) x y H Q ∨ rS sLt x y H Q) := OpR.or op_lt op_lt_str
theorem o2_lt : Op2 X (fun x y H Q => rI0 (fun i j => .bl (decide (i < j))) x y H Q ∨ rS sLt x y H Q) ltX := Op2.or op2_cmpI op2_cmpS
theorem or_le : OpR X (compareOp .LtE) (fun x y H Q => rI0 (fun i j => .bl (decide (i ≤ j))) x y H Q ∨ rS (fun i j => !sLt j i) x y H Q) := OpR.or op_le op_le_str
theorem o2_le : Op2 X (fun x y H Q => rI0 (fun i j => .bl (decide (i ≤ j))) x y H Q ∨ rS (fun i j => !sLt j i) x y H Q) leX := Op2.or op2_cmpI op2_cmpS
theorem or_gt : OpR X (compareOp .Gt) (fun x y H Q => rI0 (fun i j => .bl (decide (j < i))) x y H Q ∨ rS (fun i j => sLt j i) x y H Q) := OpR.or op_gt op_gt_str
theorem o2_gt : Op2 X (fun x y H Q => rI0 (fun i j => .bl (decide (j < i))) x y H Q ∨ rS (fun i j => sLt j i) x y H Q) gtX := Op2.or op2_cmpI op2_cmpS
theorem or_ge : OpR X (compareOp .GtE) (fun x y H Q => rI0 (fun i j => .bl (decide (j ≤ i))) x y H Q ∨ rS (fun i j => !sLt i j) x y H Q) := OpR.or op_ge op_ge_str
theorem o2_ge : Op2 X (fun x y H Q => rI0 (fun i j => .bl (decide (j ≤ i))) x y H Q ∨ rS (fun i j => !sLt i j) x y H Q) geX := Op2.or op2_cmpI op2_cmpS
theorem or_in : OpR X (compareOp .In) (rInS false) := op_in_sign
theorem or_ni : OpR X (compareOp .NotIn) (rInS true) := op_notIn_sign
/-! ### == of single values, else of data -/
def scV : T → Option V
  | .non => some .non
  | .bl b => some (.bl b)
  | .int i => some (.int i)
  | .str x => some (.str x)
  | _ => none
def eqS (neg : Bool) : T → T → Option T := fun a b => match scV a, scV b with
  | some x, some y => if scal x y = true then some (.bl (if neg then !decide (x = y) else decide (x = y))) else none
  | _, _ => none
theorem scV_is {K : PySem.W.Frag} {I : Hp} {t : T} {x v : V} (h : scV t = some x) (i : Is K I t v) : v = x := by
  cases t <;> first | (cases h; exact i) | (cases h; done)
def rEqS (neg : Bool) : R2 := fun x y H Q => scal x y = true ∧ Q (.bl (if neg then !decide (x = y) else decide (x = y))) H
theorem op2_eqS {neg : Bool} : Op2 X (rEqS neg) (eqS neg) := by
  intro Z G I H σ τ s a b c x y Q w i1 i2 e q
  unfold eqS at e
  split at e
  · rename_i u v hu hv
    split at e
    · rename_i hs
      cases e
      have e1 := scV_is hu i1
      have e2 := scV_is hv i2
      subst e1 e2
      exact ⟨hs, q.here w rfl⟩
    · cases e
  · cases e
def eqX (neg : Bool) : T → T → Option T := orT (eqS neg) (eqT neg)
theorem or_eq (hu : X.A.units + 64 < cLine) : OpR X (compareOp .Eq) (fun x y H Q => rEqS false x y H Q ∨ rEqT X.K false x y H Q) := OpR.or op_eq (op_eqT hu)
theorem or_ne (hu : X.A.units + 64 < cLine) : OpR X (compareOp .NotEq) (fun x y H Q => rEqS true x y H Q ∨ rEqT X.K true x y H Q) := OpR.or op_ne (op_neT hu)
theorem o2_eq {neg : Bool} : Op2 X (fun x y H Q => rEqS neg x y H Q ∨ rEqT X.K neg x y H Q) (eqX neg) := Op2.or op2_eqS op2_eqT
/-! ### a law's rest, for any deck -/
def tS (K : PySem.W.Frag) (Z : Res) (g : SF Z) : TS := fun D σ H => ∃ G I τ s o, Rep K Z G I H σ τ s ∧ g τ s = some o ∧ (match o with
  | .nx τ s => ∀ I' H' σ', Same I I' → Rep K Z G I' H' σ' τ s → D.nx σ' H'
  | .bk τ s => ∀ I' H' σ', Same I I' → Rep K Z G I' H' σ' τ s → D.bk σ' H'
  | .ct τ s => ∀ I' H' σ', Same I I' → Rep K Z G I' H' σ' τ s → D.ct σ' H'
  | .rt a s => ∀ I' H' v, Same I I' → Rep0 Z G I' H' s → Is K I' a v → D.rt v H')
theorem SS.pss {sts : List Stmt} {g : SF Z} (h : SS X Z sts g) : PSs X sts (tS X.K Z g) := by
  obtain ⟨t, p, h1⟩ := h
  refine ⟨fun pins s σ H D J ⟨G, I, τ, z, o, w, e, q⟩ => p.run pins s σ H D J (h1 _ _ _ _ _ _ o _ w e ?_)⟩
  cases o with
  | nx τ s => exact q
  | bk τ s => exact q
  | ct τ s => exact q
  | rt a s => exact q
theorem pss_ex {ι : Sort _} {sts : List Stmt} {t : ι → TS} (h : ∀ i, PSs X sts (t i)) : PSs X sts (fun D σ H => ∃ i, t i D σ H) := ⟨fun pins s σ H D J ⟨i, q⟩ => (h i).run pins s σ H D J q⟩
end
end L2.TL
/-! TLe: further expressions; defs without a resource. -/
namespace L2.TL
open PySem PySem.Spec
open PyProof.Rows
section
variable {X : Cx} {Z : Res} {a b c e : Expr} {es : List Expr} {fa fb fc f : EF Z} {fs : EFs Z} {pos : Pos}
/-! ### one value -/
def x1 {Z : Res} (op : T → Option T) (f : EF Z) : EF Z := fun τ s => match f τ s with
  | some (a, s') => match op a with
    | some c => some (c, s')
    | none => none
  | none => none
def negI : T → Option T
  | .int i => some (.int (-i))
  | _ => none
theorem ex_neg (h : EX X Z e f) : EX X Z (.UnaryOp .USub e pos) (x1 negI f) := by
  obtain ⟨t, p, h1⟩ := h
  refine ⟨_, pe_un un_neg p, fun G I H σ τ s a s' Q w h q => ?_⟩
  unfold x1 at h
  split at h
  · rename_i b s1 eb
    split at h
    · rename_i d ed
      cases h
      refine h1 _ _ _ _ _ _ _ _ _ w eb fun I1 H1 v m1 w1 i1 => ?_
      unfold negI at ed
      split at ed
      · cases ed
        have i1 : v = _ := i1
        subst i1
        exact ⟨_, rfl, q I1 H1 _ m1 w1 rfl⟩
      · cases ed
    · cases h
  · cases h
def isNT : T → Option T
  | .non => some (.bl true)
  | _ => some (.bl false)
def notNT : T → Option T
  | .non => some (.bl false)
  | _ => some (.bl true)
theorem is_non {K : PySem.W.Frag} {I : Hp} {t : T} {v : V} (i : Is K I t v) : decide (v = .non) = (match t with
  | .non => true
  | _ => false) := by
  cases t with
  | non =>
    have i : v = _ := i
    subst i
    rfl
  | bl _ => have i : v = _ := i; subst i; rfl
  | int _ => have i : v = _ := i; subst i; rfl
  | str _ => have i : v = _ := i; subst i; rfl
  | adr _ => have i : v = _ := i; subst i; rfl
  | tup _ =>
    obtain ⟨_, _, rfl, _⟩ := i
    rfl
  | lst _ =>
    obtain ⟨_, _, rfl, _⟩ := i
    rfl
  | dct _ =>
    obtain ⟨_, _, rfl, _⟩ := i
    rfl
  | ins _ _ =>
    obtain ⟨_, _, _, rfl, _⟩ := i
    rfl
theorem x1_of {op : T → Option T} {τ : List SV} {s s' : Z.S} {d : T} (h : x1 op f τ s = some (d, s')) : ∃ a, f τ s = some (a, s') ∧ op a = some d := by
  unfold x1 at h
  split at h
  · rename_i b s1 eb
    split at h
    · rename_i d' ed
      cases h
      exact ⟨b, eb, ed⟩
    · cases h
  · cases h
theorem ex_isN {j : Nat} {pos' : Pos} (h : EX X Z e f) : EX X Z (.Compare e [.Is] [.Constant .none j pos'] pos) (x1 isNT f) := by
  obtain ⟨t, p, h1⟩ := h
  refine ⟨_, pe_cmp (pc_isN p) rfl, fun G I H σ τ s a s' Q w h q => ?_⟩
  obtain ⟨b, eb, ed⟩ := x1_of h
  refine h1 _ _ _ _ _ _ _ _ _ w eb fun I1 H1 v m1 w1 i1 => ?_
  refine q I1 H1 _ m1 w1 ?_
  rw [is_non i1]
  cases b <;> (cases ed; rfl)
theorem eb_isN {j : Nat} {pos' : Pos} (h : EX X Z e f) : EB X Z (.Compare e [.Is] [.Constant .none j pos'] pos) (xb (x1 isNT f)) := by
  obtain ⟨t, p, h1⟩ := h
  refine ⟨_, pt_cmp (pc_isN p) rfl, fun G I H σ τ s k s' Q w h q => ?_⟩
  obtain ⟨b, eb, ed⟩ := x1_of (xb_of h)
  refine h1 _ _ _ _ _ _ _ _ _ w eb fun I1 H1 v m1 w1 i1 => ⟨_, rfl, ?_⟩
  rw [is_non i1]
  cases b <;> (cases ed; exact q I1 H1 m1 w1)
theorem ex_notN {j : Nat} {pos' : Pos} (h : EX X Z e f) : EX X Z (.Compare e [.IsNot] [.Constant .none j pos'] pos) (x1 notNT f) := by
  obtain ⟨t, p, h1⟩ := h
  refine ⟨_, pe_cmp (pc_notN p) rfl, fun G I H σ τ s a s' Q w h q => ?_⟩
  obtain ⟨b, eb, ed⟩ := x1_of h
  refine h1 _ _ _ _ _ _ _ _ _ w eb fun I1 H1 v m1 w1 i1 => ?_
  refine q I1 H1 _ m1 w1 ?_
  rw [is_non i1]
  cases b <;> (cases ed; rfl)
theorem eb_notN {j : Nat} {pos' : Pos} (h : EX X Z e f) : EB X Z (.Compare e [.IsNot] [.Constant .none j pos'] pos) (xb (x1 notNT f)) := by
  obtain ⟨t, p, h1⟩ := h
  refine ⟨_, pt_cmp (pc_notN p) rfl, fun G I H σ τ s k s' Q w h q => ?_⟩
  obtain ⟨b, eb, ed⟩ := x1_of (xb_of h)
  refine h1 _ _ _ _ _ _ _ _ _ w eb fun I1 H1 v m1 w1 i1 => ⟨_, rfl, ?_⟩
  rw [is_non i1]
  cases b <;> (cases ed; exact q I1 H1 m1 w1)
/-- xs[::-1] of a list -/
def revT : T → Option T
  | .lst ts => some (.lst ts.reverse)
  | _ => none
theorem ex_rev {j : Nat} {p1 p2 p3 : Pos} (h : EX X Z e f) : EX X Z (.Subscript e (.Slice none none (some (.UnaryOp .USub (.Constant (.int 1) j p1) p2)) p3) pos) (x1 revT f) := by
  obtain ⟨t, p, h1⟩ := h
  refine ⟨_, pe_revL p, fun G I H σ τ s a s' Q w h q => ?_⟩
  obtain ⟨b, eb, ed⟩ := x1_of h
  refine h1 _ _ _ _ _ _ _ _ _ w eb fun I1 H1 v m1 w1 i1 => ?_
  unfold revT at ed
  split at ed
  · cases ed
    obtain ⟨l, xs, rfl, g1, g2⟩ := i1
    exact ⟨l, xs, rfl, .of (w1.sub _ _ g1), fun p hp => Hand.new w1 (fun I' H' v m => q I' H' v (m1.trans m)) hp fun I' m e => ⟨p, _, rfl, e, g2.rev.mono m⟩⟩
  · cases ed
def powI : T → T → Option T
  | .int i, .int j => if 0 ≤ j ∧ j ≤ 1000000 ∧ i.natAbs < 2 ^ 64 then some (.int (i ^ j.toNat)) else none
  | _, _ => none
theorem ex_pow (ha : EX X Z a fa) (hb : EX X Z b fb) : EX X Z (.BinOp a .Pow b pos) (x2 powI fa fb) := ex_bin op_pow (fun Z G I H σ τ s a b c x y Q w i1 i2 e q => by
  unfold powI at e
  split at e
  · split at e
    · rename_i hz
      cases e
      have i1 : x = _ := i1
      have i2 : y = _ := i2
      exact ⟨_, _, i1, i2, hz, q.here w rfl⟩
    · cases e
  · cases e) ha hb
def intT : List T → Option T
  | [.int i] => some (.int i)
  | [.bl k] => some (.int (if k then 1 else 0))
  | _ => none
def rInt : List V → Hp → VK → Prop := fun xs H Q => (∃ i, xs = [.int i] ∧ Q (.int i) H) ∨ ∃ k, xs = [.bl k] ∧ Q (.int (if k then 1 else 0)) H
theorem op1_int : Op1 X rInt intT := by
  intro Z G I H σ τ s as c xs Q w il e q
  unfold intT at e
  split at e
  · cases e
    obtain ⟨x, rfl, ix⟩ := il.one
    have ix : x = _ := ix
    subst ix
    exact .inl ⟨_, rfl, q.here w rfl⟩
  · cases e
    obtain ⟨x, rfl, ix⟩ := il.one
    have ix : x = _ := ix
    subst ix
    exact .inr ⟨_, rfl, q.here w rfl⟩
  · cases e
def tupleT : List T → Option T
  | [.lst ts] => some (.tup ts)
  | [.tup ts] => some (.tup ts)
  | _ => none
def rTuple (K : PySem.W.Frag) : List V → Hp → VK → Prop := fun xs H Q => ∃ p ys, xs = [.ref p] ∧ ((SqL K H p ys ∧ ∀ l, H l = none → Q (.ref l) (upd H l (.tup ys))) ∨ (SqT K H p ys ∧ Q (.ref p) H))
theorem op1_tuple : Op1 X (rTuple X.K) tupleT := by
  intro Z G I H σ τ s as c xs Q w il e q
  unfold tupleT at e
  split at e
  · cases e
    obtain ⟨x, rfl, ix⟩ := il.one
    obtain ⟨p, ys, rfl, h1, h2⟩ := ix
    exact ⟨p, ys, rfl, .inl ⟨.of (w.sub _ _ h1), fun l hl => q.new w hl fun I' m e => ⟨l, _, rfl, .of e, h2.mono m⟩⟩⟩
  · cases e
    obtain ⟨x, rfl, ix⟩ := il.one
    obtain ⟨p, ys, rfl, h1, h2⟩ := ix
    exact ⟨p, ys, rfl, .inr ⟨sqt_mono w.sub h1, q.here w ⟨p, ys, rfl, h1, h2⟩⟩⟩
  · cases e
/-! ### dicts that are written -/
def ED (X : Cx) (Z : Res) (pos : Pos) (keys : List (Option Expr)) (values : List Expr) (ks : List Key) (f : EFs Z) : Prop :=
  ∃ trs, PPs X pos keys values trs ∧ ∀ G I H σ τ s as s' Q, Rep X.K Z G I H σ τ s → f τ s = some (as, s') → (∀ I' H' vs, Same I I' → Rep X.K Z G I' H' σ τ s' → IsL X.K I' as vs → Q ((ks.map kV).zip vs) H') → tPairs trs σ H Q
theorem ed_nil : ED X Z pos [] [] [] xNil := ⟨_, pps_nil, fun G I H σ τ s as s' Q w h q => by
  cases h
  exact q I H [] (Same.refl _) w IsL.nil⟩
theorem ed_cons {x : Str} {j : Nat} {p : Pos} {keys : List (Option Expr)} {ks : List Key} (he : EX X Z e f) (hr : ED X Z pos keys es ks fs) : ED X Z pos (some (.Constant (.str x) j p) :: keys) (e :: es) (Sum.inr x :: ks) (xCons f fs) := by
  obtain ⟨te, pe, h1⟩ := he
  obtain ⟨tr, pr, h2⟩ := hr
  refine ⟨_, pps_cons pe_str pe pr, fun G I H σ τ s as s' Q w h q => ?_⟩
  unfold xCons at h
  split at h
  · rename_i a s1 ea
    split at h
    · rename_i as' s2 eb
      cases h
      refine h1 _ _ _ _ _ _ _ _ _ w ea fun I1 H1 v m1 w1 i1 => ?_
      exact h2 _ _ _ _ _ _ _ _ _ w1 eb fun I2 H2 vs m2 w2 i2 => q I2 H2 (v :: vs) (m1.trans m2) w2 (IsL.cons (i1.mono m2) i2)
    · cases h
  · cases h
def xDict {Z : Res} (ks : List Key) (fs : EFs Z) : EF Z := fun τ s => match fs τ s with
  | some (as, s') => if as.length = ks.length ∧ ks.Nodup ∧ ks.length ≤ 15 then some (.dct (ks.zip as), s') else none
  | none => none
theorem putK_new {κ : Type} [DecidableEq κ] {kvs : List (κ × V)} {k : κ} {v : V} (h : k ∉ kvs.map (·.1)) : putK kvs k v = kvs ++ [(k, v)] := by
  unfold putK
  rw [if_neg]
  intro z
  rw [List.any_eq_true] at z
  obtain ⟨p, hp, e⟩ := z
  exact h (List.mem_map.mpr ⟨p, hp, of_decide_eq_true e⟩)
theorem merge_nodup : ∀ (more kvs : List (Key × V)), ((kvs ++ more).map (·.1)).Nodup → mergeK kvs more = kvs ++ more
  | [], kvs, _ => by
    rw [List.append_nil]
    rfl
  | p :: r, kvs, h => by
    show mergeK (putK kvs p.1 p.2) r = _
    have hp : p.1 ∉ kvs.map (·.1) := by
      rw [List.map_append, List.nodup_append] at h
      intro z
      exact h.2.2 _ z _ (by simp) rfl
    rw [putK_new hp, merge_nodup r (kvs ++ [(p.1, p.2)]) (by rw [List.append_assoc]; exact h), List.append_assoc]
    rfl
theorem zip_isD {K : PySem.W.Frag} {I : Hp} : ∀ {ks : List Key} {as : List T} {vs : List V}, IsL K I as vs → IsD K I (ks.zip as) (ks.zip vs)
  | [], _, _, _ => by
    show _ = _
    simp
  | _ :: _, [], _, h => by
    have h : _ = [] := h
    subst h
    show _ = _
    simp
  | k :: ks, a :: as, _, h => by
    obtain ⟨x, r, rfl, h1, h2⟩ := h
    exact ⟨x, _, rfl, h1, zip_isD h2⟩
theorem en_dict {keys : List (Option Expr)} {ks : List Key} (h : ED X Z pos keys es ks fs) (hall : keys.all (·.isSome) = true := by rfl) (hl : keys.length = es.length := by rfl) (h0 : keys ≠ [] := by intro z; cases z) (h15 : keys.length ≤ 15 := by decide) :
    EN X Z (.Dict keys es pos) (xDict ks fs) := by
  obtain ⟨trs, p, h1⟩ := h
  refine ⟨_, pe_disp p hall hl h0 h15, fun G I H σ τ s a s' Q w h q => ?_⟩
  unfold xDict at h
  split at h
  · rename_i as s1 ea
    split at h
    · rename_i hc
      cases h
      intro D hD
      obtain ⟨w1, u⟩ := w.made (o := .dK []) (a := .dct []) hD (show IsD X.K I [] [] from rfl)
      refine h1 _ _ _ _ _ _ _ _ _ (w1.guard u) ea fun I2 H2 vs m2 w2 i2 => ?_
      obtain ⟨nI, atD⟩ := w2.fr D (.dK []) upd_same
      have nF : ¬ Z.F D := u.nf
      have hlen : vs.length = ks.length := by rw [i2.len]; exact hc.1
      have ez : (ks.map kV).zip vs = (ks.zip vs).map fun kv => (kV kv.1, kv.2) := by
        rw [List.zip_map_left]
        rfl
      refine ⟨atD, ks.zip vs, ez, by rw [List.length_zip, hlen, Nat.min_self]; exact hc.2.2, ?_⟩
      have em : mergeK [] (ks.zip vs) = ks.zip vs := by
        rw [merge_nodup _ [] (by
          rw [List.nil_append, List.map_fst_zip (by omega)]
          exact hc.2.1)]
        rfl
      rw [em]
      have w3 := w2.reguard (o' := .dK (ks.zip vs)) nF
      have w4 := w3.frame (G' := G) fun p o e => by
        rw [upd_ne (ne_of_none e u.ng)]
        exact e
      refine q I2 _ D (.dK (ks.zip vs)) m2 w4 ⟨nI, u.ng, nF, upd_same, zip_isD i2, fun i t e => ?_⟩
      exact w.notOwned hD i t e
    · cases h
  · cases h
def xDnil {Z : Res} : EF Z := fun _ s => some (.dct [], s)
theorem en_dnil : EN X Z (.Dict [] [] pos) xDnil := ⟨_, pe_dnewK, fun G I H σ τ s a s' Q w h q => by
  cases h
  intro D hD
  exact HandF.new w q hD (show IsD X.K I [] [] from rfl)⟩
end
/-! ### three names at once -/
section
variable {X : Cx} {Z : Res} {fs : EFs Z} {pos : Pos}
theorem IsL.three {K : PySem.W.Frag} {I : Hp} {t u r : T} {xs : List V} (h : IsL K I [t, u, r] xs) : ∃ x y z, xs = [x, y, z] ∧ Is K I t x ∧ Is K I u y ∧ Is K I r z := by
  obtain ⟨x, q, rfl, h1, h2⟩ := h
  obtain ⟨y, z, rfl, h3, h4⟩ := h2.two
  exact ⟨x, y, z, rfl, h1, h3, h4⟩
theorem sx_par3 {i j l : Nat} {x y z : Str} {a b c : Expr} {px py pz pt : Pos} {kt k2 : Nat} {pt2 : Pos} (hc : X.calm = true) (hN : X.N.Nodup) (hi : X.N[i]? = some x := by rfl) (hj : X.N[j]? = some y := by rfl) (hl : X.N[l]? = some z := by rfl) (ha : EL X Z [a, b, c] fs)
    (hij : i ≠ j := by decide) (hil : i ≠ l := by decide) (hjl : j ≠ l := by decide)
    (hx : X.env.scope.names.lookup x = some .local := by rfl) (hy : X.env.scope.names.lookup y = some .local := by rfl) (hz : X.env.scope.names.lookup z = some .local := by rfl)
    (hw : swappedStores [.Tuple [.Name x px, .Name y py, .Name z pz] kt pt] (.Tuple [a, b, c] k2 pt2) X.env = pure (some [x, y, z]) := by rfl)
    (hs : swapsWithSole [.Tuple [.Name x px, .Name y py, .Name z pz] kt pt] (.Tuple [a, b, c] k2 pt2) pos.line X.env = pure false := by rfl) :
    SX X Z (.Assign [.Tuple [.Name x px, .Name y py, .Name z pz] kt pt] (.Tuple [a, b, c] k2 pt2) pos) (sPar3 i j l fs) := by
  obtain ⟨t, p, q1⟩ := ha
  refine ⟨_, ps_par3 hc hN hi hj hl hij hil hjl hx hy hz p hw hs, fun G I H σ τ s o D w h q => ?_⟩
  unfold sPar3 at h
  split at h
  · rename_i u v r s' ea
    split at h
    · rename_i hl
      cases h
      refine q1 _ _ _ _ _ _ _ _ _ w ea fun I' H' vs m w' il => ?_
      obtain ⟨y1, y2, y3, rfl, i1, i2, i3⟩ := il.three
      exact ⟨y1, y2, y3, rfl, q I' H' _ m (((w'.setIm hl.1 i1).setIm (by rw [List.length_set]; exact hl.2.1) i2).setIm (by rw [List.length_set, List.length_set]; exact hl.2.2) i3)⟩
    · cases h
  · cases h
end
/-! ### defs without a resource -/
def fpOf (h : FF Z0) : FP := fun ts => match h ts () with
  | some (a, _) => some a
  | none => none
section
variable {P : Program} {w : World} {K : PySem.W.Frag} {mg : Str → Option Value} {base : Heap} {k : Nat} {f : Addr} {fd : FuncData} {N ps : List Str} {x qual : Str} {st : Stmt}
theorem spP_of {h : FF Z0} {vs : List V} {H : Hp} {Q : VK} {E : XK} (q : spP K (fpOf h) vs H Q E) : spS K Z0 h vs H Q E :=
  spS_imp (fun ts s r hr => by
    unfold pureF fpOf at hr
    obtain ⟨a, s'⟩ := r
    cases e : h ts () with
    | none =>
      rw [e] at hr
      cases hr
    | some p =>
      rw [e] at hr
      cases hr
      exact e) q
theorem fn_defP {g : SF Z0} (F : Fun K x qual st f fd) (S : FnScope N ps (defScope st))
    (hb : ∀ (cdv : Value) (A : Around) (out : List Env) (z : Shared) (H : Hp) (E : XK), Room k (A.deeper (envOfC qual (defScope st) z.heap.objs.size f cdv)) → SS (cxOf CX0 P w K mg base N qual (defScope st) f cdv A out z H E).nox Z0 (defBody st) g) :
    FnOk P w K mg base CX0 (k + 1) f fd ps (spP K (fpOf (bodyF ps.length N.length g))) := (fn_def F S hb).imp fun _ _ _ _ q => spP_of q
theorem FnG.impG {sp sp' : Sp} (F : FnG P w K mg base k f fd ps sp) (h : ∀ xs H' R E', sp' xs H' R E' → sp xs H' R E') : FnG P w K mg base k f fd ps sp' :=
  ⟨fun xs H' R E' q => F.lenG xs H' R E' (h _ _ _ _ q), fun B out z H' ar ys xs R E' g hr e0 bd r q => F.runG B out z H' ar ys xs R E' g hr e0 bd r (h _ _ _ _ q)⟩
theorem fn_defGP {g : SF Z0} (F : Fun K x qual st f fd) (S : FnScope N ps (defScope st))
    (hb : ∀ (cdv : Value) (A : Around) (out : List Env) (z : Shared) (H : Hp) (E : XK), A.guards = some [] → Room k (A.deeper (envOfC qual (defScope st) z.heap.objs.size f cdv)) → SS (cxOf CX0 P w K mg base N qual (defScope st) f cdv A out z H E).nox Z0 (defBody st) g) :
    FnG P w K mg base (k + 1) f fd ps (spP K (fpOf (bodyF ps.length N.length g))) := (fn_defG F S hb).impG fun _ _ _ _ q => spP_of q
end
/-- a def of the text, with its place and how it binds -/
structure DefD (K : PySem.W.Frag) (mg : Str → Option Value) (x : Str) (st : Stmt) (ps : List Str) where
  f : Addr
  fd : FuncData
  F : Fun K x x st f fd
  m : mg x = some (.ref f)
  b : Binds K fd ps []
end L2.TL
/-! TLm: mathematics of the layer: draws, picks, comprehensions. -/
namespace L2.TL
open PySem PySem.Spec
open PyProof.Rows
/-! ### evaluation, a combinator at a time -/
section
variable {Z : Res} {τ τ' : List SV} {s s1 s2 s3 : Z.S} {a b c : T} {as : List T} {f fa fb fc : EF Z} {fs : EFs Z} {ft fu : EFb Z} {op op' : T → T → Option T} {g g' : SF Z} {o : Out Z.S} {i : Nat}
theorem ev_x2 (h1 : fa τ s = some (a, s1)) (h2 : fb τ s1 = some (b, s2)) (h3 : op a b = some c) : x2 op fa fb τ s = some (c, s2) := by
  unfold x2
  simp only [h1, h2, h3]
theorem ev_x1 {op : T → Option T} (h1 : f τ s = some (a, s1)) (h3 : op a = some c) : x1 op f τ s = some (c, s1) := by
  unfold x1
  simp only [h1, h3]
theorem ev_name {t : T} (h : τ[i]? = some (.im t)) : xName (Z := Z) i τ s = some (t, s) := by
  unfold xName
  simp only [h]
theorem ev_nil : xNil (Z := Z) τ s = some ([], s) := rfl
theorem ev_cons (h1 : f τ s = some (a, s1)) (h2 : fs τ s1 = some (as, s2)) : xCons f fs τ s = some (a :: as, s2) := by
  unfold xCons
  simp only [h1, h2]
theorem ev_lst (h : fs τ s = some (as, s1)) (hz : as.length ≤ sizeLine) : xLst fs τ s = some (.lst as, s1) := by
  unfold xLst
  simp only [h]
  exact if_pos hz
theorem ev_tup (h : fs τ s = some (as, s1)) (hz : as.length ≤ sizeLine) : xTup fs τ s = some (.tup as, s1) := by
  unfold xTup
  simp only [h]
  exact if_pos hz
theorem ev_call {op : List T → Option T} (h : fs τ s = some (as, s1)) (h2 : op as = some c) : xCall op fs τ s = some (c, s1) := by
  unfold xCall
  simp only [h, h2]
theorem ev_callF {ff : FF Z} (h : fs τ s = some (as, s1)) (h2 : ff as s1 = some (c, s2)) : xCallF ff fs τ s = some (c, s2) := by
  unfold xCallF
  simp only [h, h2]
theorem ev_callP {fp : FP} (h : fs τ s = some (as, s1)) (h2 : fp as = some c) : xCallP fp fs τ s = some (c, s1) := by
  unfold xCallP
  simp only [h, h2]
theorem ev_meth {ty : String} {op : T → List T → Option T} (h : f τ s = some (a, s1)) (ht : tyName a = some ty) (h2 : fs τ s1 = some (as, s2)) (h3 : op a as = some c) : xMeth ty op f fs τ s = some (c, s2) := by
  unfold xMeth
  simp only [h, ht, h2, h3, if_true]
theorem ev_xb {k : Bool} (h : f τ s = some (.bl k, s1)) : xb f τ s = some (k, s1) := by
  unfold xb
  simp only [h]
theorem ev_tru {k : Bool} (h : f τ s = some (a, s1)) (h2 : tru a = some k) : xTru f τ s = some (k, s1) := by
  unfold xTru
  simp only [h, h2]
theorem ev_bnot {k : Bool} (h : ft τ s = some (k, s1)) : xbNot ft τ s = some (!k, s1) := by
  unfold xbNot
  simp only [h]
theorem ev_or_t (h : ft τ s = some (true, s1)) : xbOr ft fu τ s = some (true, s1) := by
  unfold xbOr
  simp only [h]
theorem ev_or_f {k : Bool} (h : ft τ s = some (false, s1)) (h2 : fu τ s1 = some (k, s2)) : xbOr ft fu τ s = some (k, s2) := by
  unfold xbOr
  simp only [h, h2]
theorem ev_band_f (h : ft τ s = some (false, s1)) : xbAnd ft fu τ s = some (false, s1) := by
  unfold xbAnd
  simp only [h]
theorem ev_band_t {k : Bool} (h : ft τ s = some (true, s1)) (h2 : fu τ s1 = some (k, s2)) : xbAnd ft fu τ s = some (k, s2) := by
  unfold xbAnd
  simp only [h, h2]
theorem ev_and_t (h : fa τ s = some (a, s1)) (ht : tru a = some true) (h2 : fb τ s1 = some (b, s2)) : xAnd fa fb τ s = some (b, s2) := by
  unfold xAnd
  simp only [h, ht, h2]
theorem ev_and_f (h : fa τ s = some (a, s1)) (ht : tru a = some false) : xAnd fa fb τ s = some (a, s1) := by
  unfold xAnd
  simp only [h, ht]
theorem ev_seq (h : g τ s = some (.nx τ' s1)) (h2 : g' τ' s1 = some o) : sSeq g g' τ s = some o := by
  unfold sSeq
  simp only [h, h2]
theorem ev_seq_rt (h : g τ s = some (.rt a s1)) : sSeq g g' τ s = some (.rt a s1) := by
  unfold sSeq
  simp only [h]
theorem ev_set (h : f τ s = some (a, s1)) (hi : i < τ.length) : sSet i f τ s = some (.nx (τ.set i (.im a)) s1) := by
  unfold sSet
  simp only [h]
  exact if_pos hi
theorem ev_ret (h : f τ s = some (a, s1)) : sRet f τ s = some (.rt a s1) := by
  unfold sRet
  simp only [h]
theorem ev_if_t (h : ft τ s = some (true, s1)) (h2 : g τ s1 = some o) : sIf ft g g' τ s = some o := by
  unfold sIf
  simp only [h, h2]
theorem ev_if_f (h : ft τ s = some (false, s1)) (h2 : g' τ s1 = some o) : sIf ft g g' τ s = some o := by
  unfold sIf
  simp only [h, h2]
theorem ev_par {j : Nat} (h : fs τ s = some ([a, b], s1)) (hi : i < τ.length) (hj : j < τ.length) : sPar i j fs τ s = some (.nx ((τ.set i (.im a)).set j (.im b)) s1) := by
  unfold sPar
  simp only [h]
  exact if_pos ⟨hi, hj⟩
theorem ev_asg {gt : GF} (h : f τ s = some (a, s1)) (h2 : gt a τ = some τ') : sAsg f gt τ s = some (.nx τ' s1) := by
  unfold sAsg
  simp only [h, h2]
theorem ev_rng {n : Int} (h : f τ s = some (.int n, s1)) (h0 : -(2 ^ 62) ≤ n ∧ n < 2 ^ 62) : iRng f τ s = some (intsFrom 0 n.toNat, s1) := by
  unfold iRng
  simp only [h]
  exact if_pos h0
theorem ev_str {x : Str} (h : f τ s = some (.str x, s1)) : iStr f τ s = some (signs x, s1) := by
  unfold iStr
  simp only [h]
theorem ev_seqL {ts : List T} (h : f τ s = some (.lst ts, s1)) : iSeq f τ s = some (ts, s1) := by
  unfold iSeq
  simp only [h]
theorem ev_lc {vs : List Nat} {fi : EFs Z} {gt : GF} {items bs : List T} (h : fi τ s = some (items, s1)) (hz : items.length ≤ sizeLine) (hv : (vs.all fun v => match τ[v]? with
    | some x => !isOw x
    | none => true) = true) (h2 : lcGo gt ft fa (wipeT τ vs) items s1 = some (bs, s2)) : xLc vs fi gt ft fa τ s = some (.lst bs, s2) := by
  unfold xLc
  simp only [h]
  rw [if_pos ⟨hz, hv⟩, h2]
theorem ev_cut {lo hi : List SV → Z.S → Option (Option Int × Z.S)} {l u : Option Int} (h : f τ s = some (a, s1)) (hl : lo τ s1 = some (l, s2)) (hu : hi τ s2 = some (u, s3)) (hc : cutT a l u = some c) : xCut f lo hi τ s = some (c, s3) := by
  unfold xCut
  simp only [h, hl, hu, hc]
theorem ev_oSome {k : Int} (h : f τ s = some (.int k, s1)) : oSome f τ s = some (some k, s1) := by
  unfold oSome
  simp only [h]
theorem ev_is {n : String} {k : Bool} (h : f τ s = some (a, s1)) (h2 : isTy n a = some k) : xIs n f τ s = some (.bl k, s1) := by
  unfold xIs
  simp only [h, h2]
end
theorem ev_fp {g : SF Z0} {n m : Nat} {ts : List T} {a : T} (hn : ts.length = n) (h : g (ts.map SV.im ++ List.replicate (m - n) SV.un) () = some (.rt a ())) : fpOf (bodyF n m g) ts = some a := by
  unfold fpOf bodyF
  rw [if_pos hn, h]
theorem ev_ff {Z : Res} {g : SF Z} {n m : Nat} {ts : List T} {a : T} {s s' : Z.S} (hn : ts.length = n) (h : g (ts.map SV.im ++ List.replicate (m - n) SV.un) s = some (.rt a s')) : bodyF n m g ts s = some (a, s') := by
  unfold bodyF
  rw [if_pos hn, h]
theorem drawT_some (p q : Int) (d c : Addr) (s : Deck) (n : Int) (h0 : 0 < n) (h1 : n < 1073741824) : ∃ (k : Nat) (s' : Deck), drawT p q d c [.adr d, .int n] s = some (.int k, s') ∧ (k : Int) < n := by
  obtain ⟨a, b⟩ := drawF_range p q s n h0
  have e : ((drawF p q s n).1.toNat : Int) = (drawF p q s n).1 := Int.toNat_of_nonneg a
  refine ⟨(drawF p q s n).1.toNat, (drawF p q s n).2, ?_, by rw [e]; exact b⟩
  rw [e]
  unfold drawT
  exact if_pos ⟨rfl, h0, h1⟩
theorem ixN_nat {n k : Nat} (h : k < n) : ixN n (k : Int) = some k := by
  unfold ixN
  rw [if_pos (by omega), if_pos (by omega), Int.toNat_natCast]
theorem atI_nat' {α : Type} {l : List α} {k : Nat} (h : k < l.length) : atI l (k : Int) = some l[k] := by
  unfold atI
  rw [ixN_nat h]
  simp [h]
/-- a comprehension each of whose turns gives something that P holds of -/
theorem lcGo_all {Z : Res} {gt : GF} {fe : EF Z} {τ : List SV} {P : T → Prop} (hg : ∀ a, ∃ τ', gt a τ = some τ' ∧ ∀ s, ∃ b s', fe τ' s = some (b, s') ∧ P b) :
    ∀ (items : List T) (s : Z.S), ∃ bs s', lcGo gt xYes fe τ items s = some (bs, s') ∧ bs.length = items.length ∧ ∀ b ∈ bs, P b
  | [], s => ⟨[], s, rfl, rfl, fun _ h => by cases h⟩
  | a :: r, s => by
    obtain ⟨τ', e1, h1⟩ := hg a
    obtain ⟨b, s1, e2, hp⟩ := h1 s
    obtain ⟨bs, s2, e3, hl, hP⟩ := lcGo_all hg r s1
    refine ⟨b :: bs, s2, ?_, by simp [hl], fun x hx => ?_⟩
    · unfold lcGo
      rw [e1]
      simp only [xYes]
      rw [e2]
      simp only
      rw [e3]
    · rcases List.mem_cons.mp hx with rfl | hx
      · exact hp
      · exact hP x hx
/-- a comprehension whose test and element leave the state as it is: a filter -/
theorem lcGo_filter {Z : Res} {gt : GF} {ft : EFb Z} {fe : EF Z} {τ : List SV} {p : T → Bool} {s : Z.S} : ∀ (items : List T), (∀ a ∈ items, ∃ τ', gt a τ = some τ' ∧ ft τ' s = some (p a, s) ∧ fe τ' s = some (a, s)) → lcGo gt ft fe τ items s = some (items.filter p, s)
  | [], _ => rfl
  | a :: r, h => by
    obtain ⟨τ', e1, e2, e3⟩ := h a (by simp)
    have ih := lcGo_filter r fun b hb => h b (by simp [hb])
    unfold lcGo
    rw [e1]
    simp only
    rw [e2]
    cases hp : p a with
    | true =>
      simp only
      rw [e3]
      simp only
      rw [ih, List.filter_cons, hp]
      rfl
    | false =>
      simp only
      rw [ih, List.filter_cons, hp]
      rfl
/-- l == [] -/
theorem eq_nil (neg : Bool) (l : List T) (h : ∀ t ∈ l, t.plain = true ∧ t.d.canLay0 = true ∧ t.d.depth ≤ 60) : eqX neg (.lst l) (.lst []) = some (.bl (if neg then !l.isEmpty else l.isEmpty)) := by
  have h1 : plainL l = true := by
    induction l with
    | nil => rfl
    | cons a r ih =>
      simp only [plainL, (h a (by simp)).1, ih fun t ht => h t (by simp [ht])]
      rfl
  have h2 : PyData.canLayAll0 (dL l) = true := by
    clear h1
    induction l with
    | nil => rfl
    | cons a r ih =>
      simp only [dL, PyData.canLayAll0, (h a (by simp)).2.1, ih fun t ht => h t (by simp [ht])]
      rfl
  have h3 : PyData.depthAll (dL l) ≤ 60 := by
    clear h1 h2
    induction l with
    | nil => exact Nat.zero_le _
    | cons a r ih =>
      simp only [dL, PyData.depthAll]
      exact Nat.max_le.mpr ⟨(h a (by simp)).2.2, ih fun t ht => h t (by simp [ht])⟩
  have h4 : SeqAt.shaped (T.d (.lst l)) = true := by
    unfold SeqAt.shaped
    simp only [T.d, PyData.canLay0, PyData.depth, h2, Bool.true_and, decide_eq_true_eq]
    omega
  have h5 : PyData.eqv (T.d (.lst l)) (T.d (.lst [])) = l.isEmpty := by
    cases l with
    | nil => rfl
    | cons a r => rfl
  have h6 : T.plain (.lst l) = true := h1
  unfold eqX orT eqS
  simp only [scV]
  unfold eqT
  rw [if_pos ⟨h6, rfl, h4, by decide +kernel⟩, h5]
theorem eq_str (neg : Bool) (x y : Str) : eqX neg (.str x) (.str y) = some (.bl (if neg then !decide (x = y) else decide (x = y))) := by
  unfold eqX orT eqS
  simp only [scV, scal, if_true]
  by_cases h : x = y
  · subst h
    simp
  · have : ¬ V.str x = V.str y := fun e => h (by injection e)
    simp [h]
theorem ev_ord {Z : Res} {fs : EFs Z} {τ : List SV} {s s1 : Z.S} {as : List T} {n : Nat} {ix : List Nat} (h : fs τ s = some (as, s1)) (hl : as.length = n) : xOrd n ix fs τ s = some (ord ix as, s1) := by
  unfold xOrd
  simp only [h]
  exact if_pos hl
theorem signs_len (x : Str) : (signs x).length = x.length := by
  simp [signs, Str.length]
end L2.TL
namespace L2.TL
open PySem PySem.Spec
open PyProof.Rows
def topS (i : Nat) : Stmt := PySem.Challenge.pw_circlekeep_k02_words_and_names_of_any_va.main.body.getD i (.Pass ⟨0, 0, 0, 0⟩)
abbrev sDeck : Stmt := topS 5
abbrev sDraw : Stmt := topS 6
abbrev dp : Int := 60103
abbrev dq : Int := 37
structure TxtB (mg : Str → Option Value) : Prop where
  int : mg "int" = none
  list : mg "list" = none
section
variable {P : Program} {w : World} {K : PySem.W.Frag} {mg : Str → Option Value} {base : Heap}
theorem scDraw : FnScope ["_law_deck_here", "_law_many", "_law_figure", "_law_cell"] ["_law_deck_here", "_law_many"] (defScope sDraw) := ⟨rfl, rfl, rfl, by decide +kernel, rfl, by decide +kernel, by decide +kernel⟩
theorem ok_draw {f : Addr} {fd : FuncData} (F : Fun K "_law_draw" "_law_draw" sDraw f fd) (B : TxtB mg) (d c : Addr) : FnOk P w K mg base CX0 1 f fd ["_law_deck_here", "_law_many"] (spS K (deckZ d c) (drawT 60103 37 d c)) := by
  refine F.ok scDraw (fun vs H Q E h => sp_len (n := 2) (fun ts s r h => ?_) h) fun cdv A out z H vs Q E hr h => ?_
  · unfold drawT at h
    split at h
    · rfl
    · cases h
  · have hu := hu_of hr
    have hu64 := hr.units
    obtain ⟨I, ts, s, a, s', sub, rf, r, il, hf, q⟩ := h
    unfold drawT at hf
    split at hf
    case h_2 => cases hf
    rename_i e n
    split at hf
    case isFalse => cases hf
    rename_i hc
    obtain ⟨rfl, n0, n1⟩ := hc
    cases hf
    obtain ⟨x, y, rfl, ix, iy⟩ := il.two
    have ix : x = _ := ix
    have iy : y = _ := iy
    subst ix iy
    have h1 : H e = some (.dK (deckK c s.blend s.draws)) := r.1
    have h2 : H c = some (.lst (s.cells.map V.int)) := r.2
    have nec : c ≠ e := ne_of h2 h1 (by intro z; cases z)
    have h1' : ∀ m, upd H e (.dK (deckK c s.blend m)) e = some (.dK (deckK c s.blend m)) := fun _ => upd_same
    -- the last three rows, from any figure
    obtain ⟨t3, p3, tail⟩ : ∃ t3, PSs (cxOf CX0 P w K mg base ["_law_deck_here", "_law_many", "_law_figure", "_law_cell"] "_law_draw" (defScope sDraw) f cdv A out z H E).nox ((defBody sDraw).drop 3) t3 ∧
        ∀ (fig : Int) (v3 : Option V) (H' : Hp) (s2 : Deck), s2.draws = s.draws + 1 → DeckAt e c s2 H' → (∀ p o, p ≠ e → p ≠ c → H p = some o → H' p = some o) →
        drawF 60103 37 s n = ((((((fig * 40692 + 37) % 2147483647) * ((fig * 40692 + 37) % 2147483647) + 52711 * (s.draws + 1) + 37) % 2147483587 * 39373) % 2147483563 / 64) % n, s2) →
        t3 { nx := fun _ H' => Q .non H', rt := Q } [some (V.ref e), some (V.int n), some (V.int fig), v3] H' := by
      refine ⟨_, pss_cons (ps_set (i := 2) scDraw.nd rfl (.inl rfl) (pe_op op_mod (pe_callTy call_int1 (by rfl) B.int (by decide +kernel) (pa_cons (pe_op op_add (pe_op op_mul (pv 2) pe_int) pe_int) pa_nil)) pe_int))
        (pss_cons (ps_set (i := 2) scDraw.nd rfl (.inl rfl) (pe_op op_mod (pe_callTy call_int1 (by rfl) B.int (by decide +kernel) (pa_cons (pe_op op_add (pe_op op_add (pe_op op_mul (pv 2) (pv 2)) (pe_op op_mul pe_int (pe_dget hu (pv 0) pe_str (fun _ _ => rfl)))) pe_int) pa_nil)) pe_int))
        (pss_one (ps_ret (pe_op op_mod (pe_op op_fdiv (pe_op op_mod (pe_callTy call_int1 (by rfl) B.int (by decide +kernel) (pa_cons (pe_op op_mul (pv 2) pe_int) pa_nil)) pe_int) pe_int) (pv 1))))), ?_⟩
      intro fig v3 H' s2 hd ra st eq
      have g1 : H' e = some (.dK (deckK c s2.blend s2.draws)) := ra.1
      refine ⟨_, rfl, _, _, rfl, rfl, .inr ⟨by decide, by decide⟩, _, _, rfl, rfl, .inl ⟨_, rfl, _, _, rfl, rfl, (by show (0 : Int) < 2147483647; decide), ?_⟩⟩
      have b0 : 0 ≤ (fig * 40692 + 37) % 2147483647 := Int.emod_nonneg _ (by decide)
      have b1 : (fig * 40692 + 37) % 2147483647 < 2147483647 := Int.emod_lt_of_pos _ (by decide)
      refine ⟨_, rfl, _, rfl, _, _, rfl, rfl, .inl ⟨by omega, by omega⟩, _, rfl, e, _, rfl, dg_draws g1, _, _, rfl, rfl, .inl ⟨by decide, by decide⟩, _, _, rfl, rfl, _, _, rfl, rfl, .inl ⟨_, rfl, _, _, rfl, rfl, (by show (0 : Int) < 2147483587; decide), ?_⟩⟩
      refine ⟨_, rfl, _, _, rfl, rfl, .inr ⟨by decide, by decide⟩, .inl ⟨_, rfl, _, _, rfl, rfl, (by show (0 : Int) < 2147483563; decide), _, _, rfl, rfl, ⟨by decide, by decide⟩, _, rfl, _, _, rfl, rfl, n0, ?_⟩⟩
      rw [eq] at q
      refine draw_ends sub rf st ra q ?_
      rw [hd]
    refine ⟨_, pss_cons (ps_dput hu (pv 0) pe_str (pe_op op_add (pe_dget hu (pv 0) pe_str (fun _ _ => rfl)) pe_int) rfl)
      (pss_cons (ps_set (i := 2) scDraw.nd rfl (.inl rfl) (pe_op op_add (pe_dget hu (pv 0) pe_str (fun _ _ => rfl)) (pe_op op_mul pe_int (pe_dget hu (pv 0) pe_str (fun _ _ => rfl)))))
      (pss_cons (ps_if (pt_cmpR (op_neT hu64) (pe_dget hu (pv 0) pe_str (fun _ _ => rfl)) (pe_lst pa_nil) (nomark _))
        (pss_cons (ps_set (i := 3) scDraw.nd rfl (.inl rfl) (pe_callTy call_int1 (by rfl) B.int (by decide +kernel) (pa_cons (pe_bm0 PySem.F.plainAttrs_list PySem.F.slot_list_pop PySem.F.type_list_pop mt_pop (pe_dget hu (pv 0) pe_str (fun _ _ => rfl))) pa_nil)))
        (pss_cons (ps_if (pt_cmpR op_ge (pv 3) (pe_op op_pow pe_int pe_int) (nomark _))
          (pss_cons (ps_expr (pe_bm PySem.F.plainAttrs_list PySem.F.slot_list_append PySem.F.type_list_append mt_append (pe_dget hu (pv 0) pe_str (fun _ _ => rfl)) (pa_cons (pe_op op_fdiv (pv 3) (pv 1)) pa_nil)))
          (pss_one (ps_ret (pe_op op_mod (pe_callTy call_int1 (by rfl) B.int (by decide +kernel) (pa_cons (pv 3) pa_nil)) (pv 1))))) pss_nil)
        (pss_one (ps_set (i := 2) scDraw.nd rfl (.inl rfl) (pe_op op_add (pv 2) (pe_op op_mod (pe_callTy call_int1 (by rfl) B.int (by decide +kernel) (pa_cons (pv 3) pa_nil)) pe_int)))))) pss_nil) p3)), ?_⟩
    refine ⟨_, rfl, e, _, rfl, dg_draws h1, _, _, rfl, rfl, _, rfl, e, _, rfl, dp_draws h1, ?_⟩
    refine ⟨_, rfl, e, _, rfl, dg_blend (h1' _), _, rfl, e, _, rfl, dg_draws (h1' _), _, _, rfl, rfl, .inl ⟨by decide, by decide⟩, _, _, rfl, rfl, ?_⟩
    refine ⟨_, rfl, e, _, rfl, dg_cells (h1' _), Nat.zero_le _, fun p hp => ?_⟩
    have npe : p ≠ e := fun z => by
      rw [z, upd_same] at hp
      cases hp
    have hpH : H p = none := by
      rw [upd_ne npe] at hp
      exact hp
    have npc : c ≠ p := ne_of_none h2 hpH
    have g2 : upd (upd H e (.dK (deckK c s.blend (s.draws + 1)))) p (.lst []) c = some (.lst (s.cells.map V.int)) := by
      rw [upd_ne npc, upd_ne nec]
      exact h2
    have g1 : upd (upd H e (.dK (deckK c s.blend (s.draws + 1)))) p (.lst []) e = some (.dK (deckK c s.blend (s.draws + 1))) := by
      rw [upd_ne npe.symm, upd_same]
    have st0 : ∀ b o, b ≠ e → b ≠ c → H b = some o → upd (upd H e (.dK (deckK c s.blend (s.draws + 1)))) p (.lst []) b = some o := fun b o n1 n2 h => by
      rw [upd_ne (ne_of_none h hpH), upd_ne n1]
      exact h
    refine ne_nil g2 upd_same ⟨_, rfl, ?_⟩
    cases hc : s.cells.getLast? with
    | none =>
      have hn : s.cells = [] := List.getLast?_eq_none_iff.mp hc
      have e0 : (!s.cells.isEmpty) = false := by rw [hn]; rfl
      rw [e0]
      refine iteF (tail _ none _ ⟨s.cells, s.blend, s.draws + 1, s.few⟩ rfl ⟨g1, g2⟩ st0 ?_)
      unfold drawF
      dsimp only
      split
      · rfl
      · rename_i h
        rw [hc] at h
        cases h
    | some cell =>
      have hn : s.cells ≠ [] := fun z => by
        rw [z] at hc
        cases hc
      have hl : 0 < s.cells.length := List.length_pos_iff.mpr hn
      have e0 : (!s.cells.isEmpty) = true := by
        cases h : s.cells with
        | nil => exact absurd h hn
        | cons _ _ => rfl
      rw [e0]
      refine iteT ?_
      have hlast : (s.cells.map V.int)[(s.cells.map V.int).length - 1]? = some (V.int cell) := by
        rw [List.length_map, List.getElem?_map, ← List.getLast?_eq_getElem?, hc]
        rfl
      refine ⟨_, rfl, e, _, rfl, dg_cells g1, .inl ⟨rfl, _, SqL.of g2⟩, c, _, _, rfl, rfl, g2, hlast, .inl ⟨_, rfl, ?_⟩⟩
      have hdl : (s.cells.map V.int).dropLast = s.cells.dropLast.map V.int := by rw [List.map_dropLast]
      rw [hdl]
      have k1 : ∀ o, upd (upd (upd H e (.dK (deckK c s.blend (s.draws + 1)))) p (.lst [])) c o e = some (.dK (deckK c s.blend (s.draws + 1))) := fun o => by
        rw [upd_ne nec.symm]
        exact g1
      have st1 : ∀ o' b o, b ≠ e → b ≠ c → H b = some o → upd (upd (upd H e (.dK (deckK c s.blend (s.draws + 1)))) p (.lst [])) c o' b = some o := fun o' b o n1 n2 h => by
        rw [upd_ne n2]
        exact st0 b o n1 n2 h
      refine ⟨_, rfl, _, _, rfl, rfl, ⟨by decide, by decide, by decide⟩, _, _, rfl, rfl, _, rfl, ?_⟩
      have e10 : (10 : Int) ^ (18 : Int).toNat = 10 ^ 18 := by decide
      rw [e10]
      refine ite2 (fun hge => ?_) (fun hlt => ?_)
      · refine ⟨_, rfl, e, _, rfl, dg_cells (k1 _), .inl ⟨rfl, _, SqL.of upd_same⟩, _, rfl, _, rfl, _, _, rfl, rfl, ⟨n0, n1⟩, c, _, _, rfl, rfl, upd_same, ?_, ?_⟩
        · have := s.few
          rw [List.length_map, List.length_dropLast, sizeLine_eq]
          omega
        refine ⟨_, rfl, .inl ⟨_, rfl, _, rfl, _, _, rfl, rfl, n0, ?_⟩⟩
        have hge' : (10 : Int) ^ 18 ≤ cell := by simpa using hge
        have eq : drawF 60103 37 s n = (cell % n, (drawF 60103 37 s n).2) := by
          unfold drawF
          dsimp only
          split
          · rename_i h
            rw [hc] at h
            cases h
          · rename_i x h
            rw [hc] at h
            cases h
            rw [if_pos hge']
        have eq2 : (drawF 60103 37 s n).2.cells = s.cells.dropLast ++ [cell / n] ∧ (drawF 60103 37 s n).2.blend = s.blend ∧ (drawF 60103 37 s n).2.draws = s.draws + 1 := by
          unfold drawF
          dsimp only
          split
          · rename_i h
            rw [hc] at h
            cases h
          · rename_i x h
            rw [hc] at h
            cases h
            rw [if_pos hge']
            exact ⟨rfl, rfl, rfl⟩
        refine draw_ends sub rf (fun b o n1 n2 h => ?_) ⟨?_, ?_⟩ q (by rw [eq])
        · rw [upd_ne n2]
          exact st1 _ b o n1 n2 h
        · rw [eq2.2.1, eq2.2.2, upd_ne nec.symm]
          exact k1 _
        · rw [eq2.1, upd_same, List.map_append]
          rfl
      · refine ⟨_, rfl, _, rfl, .inl ⟨_, rfl, _, _, rfl, rfl, (by show (0 : Int) < 2147483629; decide), _, _, rfl, rfl, ?_⟩⟩
        have hlt' : ¬ (10 : Int) ^ 18 ≤ cell := by simpa using hlt
        refine tail _ _ _ ⟨s.cells.dropLast, s.blend, s.draws + 1, by have := s.few; rw [List.length_dropLast]; omega⟩ rfl ⟨k1 _, upd_same⟩ (fun b o n1 n2 h => st1 _ b o n1 n2 h) ?_
        unfold drawF
        dsimp only
        split
        · rename_i h
          rw [hc] at h
          cases h
        · rename_i x h
          rw [hc] at h
          cases h
          rw [if_neg hlt']
theorem scDeck : FnScope ["_law_script", "_law_blend", "_law_cell"] ["_law_script"] (defScope sDeck) := ⟨rfl, rfl, rfl, by decide +kernel, rfl, by decide +kernel, by decide +kernel⟩
theorem ok_deck {f : Addr} {fd : FuncData} (F : Fun K "_law_deck" "_law_deck" sDeck f fd) (B : TxtB mg) : FnOk P w K mg base CX0 1 f fd ["_law_script"] (spDeck K) := by
  refine F.ok scDeck (fun vs H Q E h => ?_) fun cdv A out z H vs Q E hr h => ?_
  · obtain ⟨a, ns, rfl, _⟩ := h
    rfl
  · obtain ⟨a, ns, rfl, hS, hl, q⟩ := h
    refine ⟨_, pss_cons (ps_set (i := 1) scDeck.nd rfl (.inl rfl) pe_int)
      (pss_cons (ps_for PassesOwn.never rfl (pi_list (pe_slice sl_list (pv 0) po_none (po_some pe_int))) (pg_name (i := 2) scDeck.nd rfl (Or.inl rfl))
        (pss_one (ps_set (i := 1) scDeck.nd rfl (.inl rfl) (pe_op op_mod (pe_callTy call_int1 (by rfl) B.int (by decide +kernel) (pa_cons (pe_op op_add (pe_op op_add (pe_op op_mul (pv 1) pe_int) (pe_op op_mod (pe_callTy call_int1 (by rfl) B.int (by decide +kernel) (pa_cons (pv 2) pa_nil)) pe_int)) pe_int) pa_nil)) pe_int))))
      (pss_one (ps_ret (pe_disp (pps_cons pe_str (pe_revL (pe_callTy call_list_of (by rfl) B.list (by decide +kernel) (pa_cons (pe_slice sl_list (pv 0) po_none (po_some pe_int)) pa_nil))) (pps_cons pe_str (pv 1) (pps_cons pe_str pe_int pps_nil))) (by rfl) (by rfl) (fun z => by cases z) (by decide))))), ?_⟩
    have cut : cutV (ns.map V.int) none (some 63) = ns.map V.int := by
      unfold cutV
      have e : HT.sIx (ns.map V.int).length (ns.map V.int).length (some 63) = (ns.map V.int).length := by
        show (if (63 : Int) < 0 then ((63 : Int) + ((ns.map V.int).length : Int)).toNat else min (63 : Int).toNat (ns.map V.int).length) = _
        rw [if_neg (by decide), List.length_map]
        exact Nat.min_eq_right hl
      rw [e]
      show ((ns.map V.int).drop 0).take ((ns.map V.int).length - 0) = _
      rw [List.drop_zero, Nat.sub_zero, List.take_length]
    refine ⟨_, rfl, _, rfl, a, _, rfl, hS, fun p hp => ?_⟩
    rw [cut]
    refine ⟨p, rfl, ⟨_, SqL.of upd_same⟩, for_list (K := K) (a := p) (xs := ns.map V.int) (fun i σ H' => ∃ (b : Int) (v : Option V), σ = [some (.ref a), some (.int b), v] ∧ H' = upd H p (.lst (ns.map V.int))) ⟨_, _, rfl, rfl⟩ (fun i σ H' _ ⟨_, _, _, e⟩ => by rw [e]; exact SqL.of upd_same) ?_ ?_⟩
    · rintro i y σ H' hi ⟨b, v, rfl, rfl⟩
      obtain ⟨u, rfl⟩ : ∃ u, y = V.int u := by
        rw [List.getElem?_map] at hi
        cases e : ns[i]? with
        | none =>
          rw [e] at hi
          cases hi
        | some u =>
          rw [e] at hi
          exact ⟨u, (Option.some.inj hi).symm⟩
      refine ⟨_, rfl, _, _, rfl, rfl, .inr ⟨by decide, by decide⟩, _, rfl, .inl ⟨_, rfl, _, _, rfl, rfl, (by show (0 : Int) < 2147483629; decide), _, _, rfl, rfl, _, _, rfl, rfl, .inl ⟨_, rfl, _, _, rfl, rfl, (by show (0 : Int) < 2147483587; decide), ?_⟩⟩⟩
      exact ⟨_, _, rfl, rfl⟩
    · rintro σ H' ⟨b, v, rfl, rfl⟩
      intro d hd
      have s1 : Same H (upd H p (.lst (ns.map V.int))) := fun x o e => by
        rw [upd_ne (ne_of_none e hp)]
        exact e
      refine ⟨_, rfl, _, rfl, a, ns.map V.int, rfl, ?_, fun p2 hp2 => ?_⟩
      · have s2 : Same H (upd (upd H p (.lst (ns.map V.int))) d (.dK [])) := fun x o e => by
          rw [upd_ne (ne_of_none (s1 x o e) hd)]
          exact s1 x o e
        exact s2.seq hS
      rw [cut]
      refine ⟨p2, _, rfl, .inl (SqL.of upd_same), fun p3 hp3 => ?_⟩
      refine ⟨p3, _, rfl, SqL.of upd_same, fun c hc => ?_⟩
      have ndp2 : d ≠ p2 := fun z => by
        rw [← z, upd_same] at hp2
        cases hp2
      have ndp3 : d ≠ p3 := fun z => by
        rw [← z, upd_ne ndp2, upd_same] at hp3
        cases hp3
      have ndc : d ≠ c := fun z => by
        rw [← z, upd_ne ndp3, upd_ne ndp2, upd_same] at hc
        cases hc
      refine ⟨_, rfl, ?_⟩
      refine ⟨by rw [upd_ne ndc, upd_ne ndp3, upd_ne ndp2, upd_same], deckK c b 0, rfl, (by show 3 ≤ 15; decide), ?_⟩
      rw [deck_merge]
      have hpd : H d = none := by
        cases e : H d with
        | none => rfl
        | some o =>
          rw [s1 d o e] at hd
          cases hd
      have free : ∀ {x : Addr} {o : HO}, H x = some o → x ≠ d ∧ x ≠ p2 ∧ x ≠ p3 ∧ x ≠ c := fun {x o} e => by
        have nd : x ≠ d := ne_of_none e hpd
        have e1 := s1 x o e
        have n2 : x ≠ p2 := fun z => by
          rw [← z, upd_ne nd, e1] at hp2
          cases hp2
        have n3 : x ≠ p3 := fun z => by
          rw [← z, upd_ne n2, upd_ne nd, e1] at hp3
          cases hp3
        have n4 : x ≠ c := fun z => by
          rw [← z, upd_ne n3, upd_ne n2, upd_ne nd, e1] at hc
          cases hc
        exact ⟨nd, n2, n3, n4⟩
      refine q _ d c ⟨ns.reverse, b, 0, by rw [List.length_reverse]; exact hl⟩ (fun x o e => ?_) hpd ?_ ⟨upd_same, ?_⟩
      · obtain ⟨n1, n2, n3, n4⟩ := free e
        rw [upd_ne n1, upd_ne n4, upd_ne n3, upd_ne n2, upd_ne n1]
        exact s1 x o e
      · cases e : H c with
        | none => rfl
        | some o => exact absurd rfl (free e).2.2.2
      · rw [upd_ne ndc.symm, upd_same, List.map_reverse]
end
end L2.TL
namespace L2.TL
open PySem PySem.Spec
open PyProof.Rows
abbrev s_is_word : Stmt := topS 2
abbrev s_is_name : Stmt := topS 3
abbrev s_law_pick : Stmt := topS 7
abbrev s_law_is_word : Stmt := topS 8
abbrev s_law_is_name : Stmt := topS 9
abbrev s_law_string : Stmt := topS 10
abbrev s_law_value : Stmt := topS 11
abbrev s_law_right : Stmt := topS 12
abbrev s_law : Stmt := topS 13
structure Txt (K : PySem.W.Frag) (mg : Str → Option Value) where
  b_int : mg "int" = none
  b_isinstance : mg "isinstance" = none
  b_len : mg "len" = none
  b_list : mg "list" = none
  b_range : mg "range" = none
  b_repr : mg "repr" = none
  b_str : mg "str" = none
  c_LONGEST : ∃ t, mg "LONGEST" = some (.int 8 t)
  d_is_word : DefD K mg "is_word" s_is_word ["thing"]
  d_is_name : DefD K mg "is_name" s_is_name ["thing"]
  d_law_deck : DefD K mg "_law_deck" sDeck ["_law_script"]
  d_law_draw : DefD K mg "_law_draw" sDraw ["_law_deck_here", "_law_many"]
  d_law_pick : DefD K mg "_law_pick" s_law_pick ["_law_deck_here", "_law_some"]
  d_law_is_word : DefD K mg "_law_is_word" s_law_is_word ["_law_it"]
  d_law_is_name : DefD K mg "_law_is_name" s_law_is_name ["_law_it"]
  d_law_string : DefD K mg "_law_string" s_law_string ["_law_deck_here"]
  d_law_value : DefD K mg "_law_value" s_law_value ["_law_deck_here"]
  d_law_right : DefD K mg "_law_right" s_law_right ["_law_it"]
section
variable {P : Program} {w : World} {K : PySem.W.Frag} {mg : Str → Option Value} {base : Heap}
abbrev n_is_word : List Str := ["thing"]
theorem sc_is_word : FnScope n_is_word ["thing"] (defScope s_is_word) := ⟨rfl, rfl, rfl, by decide +kernel, rfl, by decide +kernel, by decide +kernel⟩
def g_is_word : SF Z0 :=
  sSeq (sIf (xbOr (xbNot (xTru (xIs "str" (xName 0)))) (xbNot (xb (x3 leX leX (xC (T.int 1)) (xCall lenT (xCons (xName 0) (xNil))) (xC (T.int 8)))))) (sRet (xC (T.bl false))) (sSkip))
    (sRet (xAnd (xMeth "str" (strMT (fun a => T.bl (Txt.isascii a))) (xName 0) xNil) (xAnd (xMeth "str" (strMT (fun a => T.bl (Txt.isalpha a))) (xName 0) xNil) (xMeth "str" (strMT (fun a => T.bl (Txt.islower a))) (xName 0) xNil))))
def f_is_word : FP := fpOf (bodyF 1 1 g_is_word)
theorem ok_is_word (T : Txt K mg) : FnOk P w K mg base CX0 1 T.d_is_word.f T.d_is_word.fd ["thing"] (spP K f_is_word) :=
  fn_defP T.d_is_word.F sc_is_word fun cdv A out z H E hr =>
    ss_cons (sx_if (eb_w (ew_or (eb_not (eb_tru (ex_isi (n := "str") (by rfl) T.b_isinstance (ex_name 0) (by rfl) T.b_str))) (ew_or1 (eb_not (eb_chain or_le o2_le or_le o2_le (ex_int) (ex_callB call_len op1_len (by rfl) T.b_len (el_cons (ex_name 0) (el_nil))) (ex_glob (v := .int 8) (by rfl) (T.c_LONGEST).choose_spec ⟨_, rfl⟩ (fun _ => rfl))))))) (ss_one (sx_ret (ex_bl))) (ss_nil))
    (ss_one (sx_ret (ex_and (ex_m0 PySem.F.plainAttrs_str PySem.F.slot_str_isascii PySem.F.type_str_isascii mt_isascii (opm_strT (is_bl Txt.isascii)) (ex_name 0)) (ex_and (ex_m0 PySem.F.plainAttrs_str PySem.F.slot_str_isalpha PySem.F.type_str_isalpha mt_isalpha (opm_strT (is_bl Txt.isalpha)) (ex_name 0)) (ex_bop1 (ex_m0 PySem.F.plainAttrs_str PySem.F.slot_str_islower PySem.F.type_str_islower mt_islower (opm_strT (is_bl Txt.islower)) (ex_name 0)))))))
abbrev n_is_name : List Str := ["thing"]
theorem sc_is_name : FnScope n_is_name ["thing"] (defScope s_is_name) := ⟨rfl, rfl, rfl, by decide +kernel, rfl, by decide +kernel, by decide +kernel⟩
def g_is_name : SF Z0 :=
  sSeq (sIf (xbOr (xbNot (xTru (xIs "str" (xName 0)))) (xbNot (xb (x3 leX leX (xC (T.int 1)) (xCall lenT (xCons (xName 0) (xNil))) (xC (T.int 8)))))) (sRet (xC (T.bl false))) (sSkip))
    (sRet (xAnd (xMeth "str" (strMT (fun a => T.bl (Txt.isascii a))) (xName 0) xNil) (xAnd (xMeth "str" (strMT (fun a => T.bl (Txt.isalnum a))) (xName 0) xNil) (xAnd (xMeth "str" (strMT (fun a => T.bl (Txt.isupper a))) (x2 ixT (xName 0) (xC (T.int 0))) xNil) (x2 (eqX false) (xCut (xName 0) (oSome (xC (T.int 1))) (oNone)) (xMeth "str" (strM (fun a => T.str (Txt.lower a)) 5592405) (xCut (xName 0) (oSome (xC (T.int 1))) (oNone)) xNil))))))
def f_is_name : FP := fpOf (bodyF 1 1 g_is_name)
theorem ok_is_name (T : Txt K mg) : FnOk P w K mg base CX0 1 T.d_is_name.f T.d_is_name.fd ["thing"] (spP K f_is_name) :=
  fn_defP T.d_is_name.F sc_is_name fun cdv A out z H E hr =>
    ss_cons (sx_if (eb_w (ew_or (eb_not (eb_tru (ex_isi (n := "str") (by rfl) T.b_isinstance (ex_name 0) (by rfl) T.b_str))) (ew_or1 (eb_not (eb_chain or_le o2_le or_le o2_le (ex_int) (ex_callB call_len op1_len (by rfl) T.b_len (el_cons (ex_name 0) (el_nil))) (ex_glob (v := .int 8) (by rfl) (T.c_LONGEST).choose_spec ⟨_, rfl⟩ (fun _ => rfl))))))) (ss_one (sx_ret (ex_bl))) (ss_nil))
    (ss_one (sx_ret (ex_and (ex_m0 PySem.F.plainAttrs_str PySem.F.slot_str_isascii PySem.F.type_str_isascii mt_isascii (opm_strT (is_bl Txt.isascii)) (ex_name 0)) (ex_and (ex_m0 PySem.F.plainAttrs_str PySem.F.slot_str_isalnum PySem.F.type_str_isalnum mt_isalnum (opm_strT (is_bl Txt.isalnum)) (ex_name 0)) (ex_and (ex_m0 PySem.F.plainAttrs_str PySem.F.slot_str_isupper PySem.F.type_str_isupper mt_isupper (opm_strT (is_bl Txt.isupper)) (ex_ix ix_seq op2_ix (ex_name 0) (ex_int))) (ex_bop1 (ex_cmp (or_eq hr.units) o2_eq (ex_cut (ex_name 0) (eo_some (ex_int)) (eo_none)) (ex_m0 PySem.F.plainAttrs_str PySem.F.slot_str_lower PySem.F.type_str_lower mt_lower (opm_str (is_str Txt.lower)) (ex_cut (ex_name 0) (eo_some (ex_int)) (eo_none))) (nomark _))))))))
abbrev n_law_pick : List Str := ["_law_deck_here", "_law_some"]
theorem sc_law_pick : FnScope n_law_pick ["_law_deck_here", "_law_some"] (defScope s_law_pick) := ⟨rfl, rfl, rfl, by decide +kernel, rfl, by decide +kernel, by decide +kernel⟩
def g_law_pick (d c : Addr) : SF (deckZ d c) :=
  sRet (x2 ixT (xName 1) (xCallF (drawT dp dq d c) (xCons (xName 0) (xCons (xCall lenT (xCons (xName 1) (xNil))) (xNil)))))
def f_law_pick (d c : Addr) : FF (deckZ d c) := bodyF 2 2 (g_law_pick d c)
theorem ok_law_pick (T : Txt K mg) (d c : Addr) : FnOk P w K mg base CX0 2 T.d_law_pick.f T.d_law_pick.fd ["_law_deck_here", "_law_some"] (spS K (deckZ d c) (f_law_pick d c)) :=
  fn_def T.d_law_pick.F sc_law_pick fun cdv A out z H E hr =>
    ss_one (sx_ret (ex_ix ix_seq op2_ix (ex_name 1) (ex_call (ok_draw T.d_law_draw.F ⟨T.b_int, T.b_list⟩ d c) (hr.mono (by decide)) (by rfl) T.d_law_draw.m T.d_law_draw.F.kp T.d_law_draw.b (el_cons (ex_name 0) (el_cons (ex_callB call_len op1_len (by rfl) T.b_len (el_cons (ex_name 1) (el_nil))) (el_nil))))))
abbrev n_law_is_word : List Str := ["_law_it", "_law_letters", "_law_sign"]
theorem sc_law_is_word : FnScope n_law_is_word ["_law_it"] (defScope s_law_is_word) := ⟨rfl, rfl, rfl, by decide +kernel, rfl, by decide +kernel, by decide +kernel⟩
def g_law_is_word : SF Z0 :=
  sSeq (sSet 1 (xC (T.str "abcdefghijklmnopqrstuvwxyz")))
    (sRet (xAnd (xIs "str" (xName 0)) (xAnd (x3 ltX ltX (xC (T.int 0)) (xCall lenT (xCons (xName 0) (xNil))) (xC (T.int 9))) (x2 (eqX false) (xLc [2] (iStr (xName 0)) (gSet 2) (xb (x2 (inS true) (xName 2) (xName 1))) (xName 2)) (xLst (xNil))))))
def f_law_is_word : FP := fpOf (bodyF 1 3 g_law_is_word)
theorem ok_law_is_word (T : Txt K mg) : FnOk P w K mg base CX0 1 T.d_law_is_word.f T.d_law_is_word.fd ["_law_it"] (spP K f_law_is_word) :=
  fn_defP T.d_law_is_word.F sc_law_is_word fun cdv A out z H E hr =>
    ss_cons (sx_set (i := 1) sc_law_is_word.nd rfl (ex_str))
    (ss_one (sx_ret (ex_and (ex_isi (n := "str") (by rfl) T.b_isinstance (ex_name 0) (by rfl) T.b_str) (ex_and (ex_chain or_lt o2_lt or_lt o2_lt (ex_int) (ex_callB call_len op1_len (by rfl) T.b_len (el_cons (ex_name 0) (el_nil))) (ex_int)) (ex_bop1 (ex_cmp (or_eq hr.units) o2_eq (ex_of_new (en_lc (own := [("_law_sign", 2)]) rfl sc_law_is_word.nd (ix_str' (ex_name 0)) (blkOk_by (own := [("_law_sign", 2)]) (N := n_law_is_word) (sc := defScope s_law_is_word) (by decide +kernel)) (gb_name sc_law_is_word.nd rfl (fun _ _ => by first | exact Or.inl rfl | exact Or.inr rfl) (fun _ _ => by first | exact Or.inr rfl | exact Or.inl rfl)) rfl (fun _ _ _ _ _ => ets_one (eb_cmp or_ni op2_inS (ex_name 2) (ex_name 1) (by rfl))) (fun _ _ _ _ _ => ex_name 2))) (ex_of_new (en_lst (el_nil))) (nomark _)))))))
abbrev n_law_is_name : List Str := ["_law_it", "_law_signs", "_law_sign"]
theorem sc_law_is_name : FnScope n_law_is_name ["_law_it"] (defScope s_law_is_name) := ⟨rfl, rfl, rfl, by decide +kernel, rfl, by decide +kernel, by decide +kernel⟩
def g_law_is_name : SF Z0 :=
  sSeq (sSet 1 (xC (T.str "abcdefghijklmnopqrstuvwxyz0123456789")))
    (sSeq (sIf (xbOr (xbNot (xTru (xIs "str" (xName 0)))) (xbOr (xbNot (xb (x3 ltX ltX (xC (T.int 0)) (xCall lenT (xCons (xName 0) (xNil))) (xC (T.int 9))))) (xb (x2 (inS true) (x2 ixT (xName 0) (xC (T.int 0))) (xC (T.str "ABCDEFGHIJKLMNOPQRSTUVWXYZ")))))) (sRet (xC (T.bl false))) (sSkip))
    (sRet (x2 (eqX false) (xLc [2] (iStr (xCut (xName 0) (oSome (xC (T.int 1))) (oNone))) (gSet 2) (xb (x2 (inS true) (xName 2) (xName 1))) (xName 2)) (xLst (xNil)))))
def f_law_is_name : FP := fpOf (bodyF 1 3 g_law_is_name)
theorem ok_law_is_name (T : Txt K mg) : FnOk P w K mg base CX0 1 T.d_law_is_name.f T.d_law_is_name.fd ["_law_it"] (spP K f_law_is_name) :=
  fn_defP T.d_law_is_name.F sc_law_is_name fun cdv A out z H E hr =>
    ss_cons (sx_set (i := 1) sc_law_is_name.nd rfl (ex_str))
    (ss_cons (sx_if (eb_w (ew_or (eb_not (eb_tru (ex_isi (n := "str") (by rfl) T.b_isinstance (ex_name 0) (by rfl) T.b_str))) (ew_or (eb_not (eb_chain or_lt o2_lt or_lt o2_lt (ex_int) (ex_callB call_len op1_len (by rfl) T.b_len (el_cons (ex_name 0) (el_nil))) (ex_int))) (ew_or1 (eb_cmp or_ni op2_inS (ex_ix ix_seq op2_ix (ex_name 0) (ex_int)) (ex_str) (by rfl)))))) (ss_one (sx_ret (ex_bl))) (ss_nil))
    (ss_one (sx_ret (ex_cmp (or_eq hr.units) o2_eq (ex_of_new (en_lc (own := [("_law_sign", 2)]) rfl sc_law_is_name.nd (ix_str' (ex_cut (ex_name 0) (eo_some (ex_int)) (eo_none))) (blkOk_by (own := [("_law_sign", 2)]) (N := n_law_is_name) (sc := defScope s_law_is_name) (by decide +kernel)) (gb_name sc_law_is_name.nd rfl (fun _ _ => by first | exact Or.inl rfl | exact Or.inr rfl) (fun _ _ => by first | exact Or.inr rfl | exact Or.inl rfl)) rfl (fun _ _ _ _ _ => ets_one (eb_cmp or_ni op2_inS (ex_name 2) (ex_name 1) (by rfl))) (fun _ _ _ _ _ => ex_name 2))) (ex_of_new (en_lst (el_nil))) (nomark _)))))
abbrev n_law_string : List Str := ["_law_deck_here", "_law_way", "_law_many", "_law_small", "_law_text", "_law_k", "_law_signs", "_law_at", "_law_odd"]
theorem sc_law_string : FnScope n_law_string ["_law_deck_here"] (defScope s_law_string) := ⟨rfl, rfl, rfl, by decide +kernel, rfl, by decide +kernel, by decide +kernel⟩
def g_law_string (d c : Addr) : SF (deckZ d c) :=
  sSeq (sAsg (xTup (xCons (xCallF (drawT dp dq d c) (xCons (xName 0) (xCons (xC (T.int 4)) (xNil)))) (xCons (xCallF (drawT dp dq d c) (xCons (xName 0) (xCons (xC (T.int 11)) (xNil)))) (xCons (xC (T.str "abcdefghijklmnopqrstuvwxyz")) (xNil))))) (gTupT 3 (gsCons (gSet 1) (gsCons (gSet 2) (gsCons (gSet 3) (gsNil))))))
    (sSeq (sSet 4 (xMeth "str" joinT (xC (T.str "")) (xCons (xLc [5] (iRng (xName 2)) (gSet 5) (xYes) (xCallF (f_law_pick d c) (xCons (xName 0) (xCons (xName 3) (xNil))))) (xNil))))
    (sSeq (sIf (xb (x2 (eqX false) (xName 1) (xC (T.int 1)))) (sSeq (sSet 6 (x2 addX (xName 3) (x2 mulX (xC (T.str "0123456789")) (xC (T.int 2)))))
    (sSet 4 (x2 addX (xCallF (f_law_pick d c) (xCons (xName 0) (xCons (xMeth "str" (strM (fun a => T.str (Txt.upper a)) 5592405) (xName 3) xNil) (xNil)))) (xMeth "str" joinT (xC (T.str "")) (xCons (xLc [5] (iRng (xCallF (drawT dp dq d c) (xCons (xName 0) (xCons (xC (T.int 10)) (xNil))))) (gSet 5) (xYes) (xCallF (f_law_pick d c) (xCons (xName 0) (xCons (xName 6) (xNil))))) (xNil)))))) (sSkip))
    (sSeq (sIf (xb (x2 gtX (xName 1) (xC (T.int 1)))) (sSeq (sSet 7 (xCallF (drawT dp dq d c) (xCons (xName 0) (xCons (x2 addX (xCall lenT (xCons (xName 4) (xNil))) (xC (T.int 1))) (xNil)))))
    (sSeq (sSet 8 (xLst (xCons (xC (T.str "A")) (xCons (xC (T.str "Z")) (xCons (xC (T.str "0")) (xCons (xC (T.str "9")) (xCons (xC (T.str "_")) (xCons (xC (T.str " ")) (xCons (xC (T.str "-")) (xCons (xC (T.str "(")) (xCons (xC (T.str ",")) (xCons (xC (T.str "\n")) (xCons (xC (T.str "~")) (xCons (xC (T.str "@")) (xCons (xC (T.str "[")) (xCons (xC (T.str "`")) (xCons (xC (T.str "{")) (xNil))))))))))))))))))
    (sSet 4 (x2 addX (x2 addX (xCut (xName 4) (oNone) (oSome (xName 7))) (xCallF (f_law_pick d c) (xCons (xName 0) (xCons (xName 8) (xNil))))) (xCut (xName 4) (oSome (xName 7)) (oNone)))))) (sSkip))
    (sRet (xName 4)))))
def f_law_string (d c : Addr) : FF (deckZ d c) := bodyF 1 9 (g_law_string d c)
theorem ok_law_string (T : Txt K mg) (d c : Addr) : FnOk P w K mg base CX0 3 T.d_law_string.f T.d_law_string.fd ["_law_deck_here"] (spS K (deckZ d c) (f_law_string d c)) :=
  fn_def T.d_law_string.F sc_law_string fun cdv A out z H E hr =>
    ss_cons (sx_asg (ex_tup (el_cons (ex_call (ok_draw T.d_law_draw.F ⟨T.b_int, T.b_list⟩ d c) (hr.mono (by decide)) (by rfl) T.d_law_draw.m T.d_law_draw.F.kp T.d_law_draw.b (el_cons (ex_name 0) (el_cons (ex_int) (el_nil)))) (el_cons (ex_call (ok_draw T.d_law_draw.F ⟨T.b_int, T.b_list⟩ d c) (hr.mono (by decide)) (by rfl) T.d_law_draw.m T.d_law_draw.F.kp T.d_law_draw.b (el_cons (ex_name 0) (el_cons (ex_int) (el_nil)))) (el_cons (ex_str) (el_nil))))) (gx_tup rfl (gxs_cons (gx_name sc_law_string.nd) (gxs_cons (gx_name sc_law_string.nd) (gxs_cons (gx_name sc_law_string.nd) (gxs_nil))))))
    (ss_cons (sx_set (i := 4) sc_law_string.nd rfl (ex_m PySem.F.plainAttrs_str PySem.F.slot_str_join PySem.F.type_str_join mt_join opm_join (ex_str) (el_cons (ex_of_new (en_lc (own := [("_law_k", 5)]) rfl sc_law_string.nd (ix_rng (by rfl) T.b_range (ex_name 2)) (blkOk_by (own := [("_law_k", 5)]) (N := n_law_string) (sc := defScope s_law_string) (by decide +kernel)) (gb_name sc_law_string.nd rfl (fun _ _ => by first | exact Or.inl rfl | exact Or.inr rfl) (fun _ _ => by first | exact Or.inr rfl | exact Or.inl rfl)) rfl (fun _ _ _ _ _ => ets_nil) (fun _ _ _ _ _ => ex_call (ok_law_pick T d c) (hr.mono (by decide)) (by rfl) T.d_law_pick.m T.d_law_pick.F.kp T.d_law_pick.b (el_cons (ex_name 0) (el_cons (ex_name 3) (el_nil)))))) (el_nil))))
    (ss_cons (sx_if (eb_cmp (or_eq hr.units) o2_eq (ex_name 1) (ex_int) (nomark _)) (ss_cons (sx_set (i := 6) sc_law_string.nd rfl (ex_add (ex_name 3) (ex_mul (ex_str) (ex_int))))
    (ss_one (sx_set (i := 4) sc_law_string.nd rfl (ex_add (ex_call (ok_law_pick T d c) (hr.mono (by decide)) (by rfl) T.d_law_pick.m T.d_law_pick.F.kp T.d_law_pick.b (el_cons (ex_name 0) (el_cons (ex_m0 PySem.F.plainAttrs_str PySem.F.slot_str_upper PySem.F.type_str_upper mt_upper (opm_str (is_str Txt.upper)) (ex_name 3)) (el_nil)))) (ex_m PySem.F.plainAttrs_str PySem.F.slot_str_join PySem.F.type_str_join mt_join opm_join (ex_str) (el_cons (ex_of_new (en_lc (own := [("_law_k", 5)]) rfl sc_law_string.nd (ix_rng (by rfl) T.b_range (ex_call (ok_draw T.d_law_draw.F ⟨T.b_int, T.b_list⟩ d c) (hr.mono (by decide)) (by rfl) T.d_law_draw.m T.d_law_draw.F.kp T.d_law_draw.b (el_cons (ex_name 0) (el_cons (ex_int) (el_nil))))) (blkOk_by (own := [("_law_k", 5)]) (N := n_law_string) (sc := defScope s_law_string) (by decide +kernel)) (gb_name sc_law_string.nd rfl (fun _ _ => by first | exact Or.inl rfl | exact Or.inr rfl) (fun _ _ => by first | exact Or.inr rfl | exact Or.inl rfl)) rfl (fun _ _ _ _ _ => ets_nil) (fun _ _ _ _ _ => ex_call (ok_law_pick T d c) (hr.mono (by decide)) (by rfl) T.d_law_pick.m T.d_law_pick.F.kp T.d_law_pick.b (el_cons (ex_name 0) (el_cons (ex_name 6) (el_nil)))))) (el_nil))))))) (ss_nil))
    (ss_cons (sx_if (eb_cmp or_gt o2_gt (ex_name 1) (ex_int) (nomark _)) (ss_cons (sx_set (i := 7) sc_law_string.nd rfl (ex_call (ok_draw T.d_law_draw.F ⟨T.b_int, T.b_list⟩ d c) (hr.mono (by decide)) (by rfl) T.d_law_draw.m T.d_law_draw.F.kp T.d_law_draw.b (el_cons (ex_name 0) (el_cons (ex_add (ex_callB call_len op1_len (by rfl) T.b_len (el_cons (ex_name 4) (el_nil))) (ex_int)) (el_nil)))))
    (ss_cons (sx_set (i := 8) sc_law_string.nd rfl (ex_of_new (en_lst (el_cons (ex_str) (el_cons (ex_str) (el_cons (ex_str) (el_cons (ex_str) (el_cons (ex_str) (el_cons (ex_str) (el_cons (ex_str) (el_cons (ex_str) (el_cons (ex_str) (el_cons (ex_str) (el_cons (ex_str) (el_cons (ex_str) (el_cons (ex_str) (el_cons (ex_str) (el_cons (ex_str) (el_nil)))))))))))))))))))
    (ss_one (sx_set (i := 4) sc_law_string.nd rfl (ex_add (ex_add (ex_cut (ex_name 4) (eo_none) (eo_some (ex_name 7))) (ex_call (ok_law_pick T d c) (hr.mono (by decide)) (by rfl) T.d_law_pick.m T.d_law_pick.F.kp T.d_law_pick.b (el_cons (ex_name 0) (el_cons (ex_name 8) (el_nil))))) (ex_cut (ex_name 4) (eo_some (ex_name 7)) (eo_none))))))) (ss_nil))
    (ss_one (sx_ret (ex_name 4))))))
abbrev n_law_value : List Str := ["_law_deck_here", "_law_some"]
theorem sc_law_value : FnScope n_law_value ["_law_deck_here"] (defScope s_law_value) := ⟨rfl, rfl, rfl, by decide +kernel, rfl, by decide +kernel, by decide +kernel⟩
def g_law_value (d c : Addr) : SF (deckZ d c) :=
  sSeq (sSet 1 (xLst (xCons (xC T.non) (xCons (xC (T.bl true)) (xCons (xC (T.bl false)) (xCons (xC (T.int 0)) (xCons (xC (T.int 1)) (xCons (x1 negI (xC (T.int 1))) (xCons (x2 powI (xC (T.int 10)) (xC (T.int 39))) (xCons (xTup (xNil)) (xCons (xLst (xNil)) (xCons (xDnil) (xCons (xTup (xCons (xC (T.str "a")) (xNil))) (xCons (xLst (xCons (xC (T.str "a")) (xNil))) (xCons (xDict [Sum.inr "a"] (xCons (xC (T.str "b")) (xNil))) (xCons (xTup (xCons (xC (T.str "K")) (xNil))) (xCons (xTup (xCons (xTup (xCons (xC (T.str "a")) (xNil))) (xNil))) (xNil))))))))))))))))))
    (sRet (xCallF (f_law_pick d c) (xCons (xName 0) (xCons (xName 1) (xNil)))))
def f_law_value (d c : Addr) : FF (deckZ d c) := bodyF 1 2 (g_law_value d c)
theorem ok_law_value (T : Txt K mg) (d c : Addr) : FnOk P w K mg base CX0 3 T.d_law_value.f T.d_law_value.fd ["_law_deck_here"] (spS K (deckZ d c) (f_law_value d c)) :=
  fn_def T.d_law_value.F sc_law_value fun cdv A out z H E hr =>
    ss_cons (sx_set (i := 1) sc_law_value.nd rfl (ex_of_new (en_lst (el_cons (ex_non) (el_cons (ex_bl) (el_cons (ex_bl) (el_cons (ex_int) (el_cons (ex_int) (el_cons (ex_neg ex_int) (el_cons (ex_pow (ex_int) (ex_int)) (el_cons (ex_tup (el_nil)) (el_cons (ex_of_new (en_lst (el_nil))) (el_cons (ex_of_new (en_dnil)) (el_cons (ex_tup (el_cons (ex_str) (el_nil))) (el_cons (ex_of_new (en_lst (el_cons (ex_str) (el_nil)))) (el_cons (ex_of_new (en_dict (ed_cons (ex_str) (ed_nil)))) (el_cons (ex_tup (el_cons (ex_str) (el_nil))) (el_cons (ex_tup (el_cons (ex_tup (el_cons (ex_str) (el_nil))) (el_nil))) (el_nil)))))))))))))))))))
    (ss_one (sx_ret (ex_call (ok_law_pick T d c) (hr.mono (by decide)) (by rfl) T.d_law_pick.m T.d_law_pick.F.kp T.d_law_pick.b (el_cons (ex_name 0) (el_cons (ex_name 1) (el_nil))))))
abbrev n_law_right : List Str := ["_law_it", "_law_was", "_law_due"]
theorem sc_law_right : FnScope n_law_right ["_law_it"] (defScope s_law_right) := ⟨rfl, rfl, rfl, by decide +kernel, rfl, by decide +kernel, by decide +kernel⟩
def g_law_right : SF Z0 :=
  sSeq (sPar 1 2 (xCons (xCall reprT (xCons (xName 0) (xNil))) (xCons (xLst (xCons (xCallP (f_law_is_word) (xCons (xName 0) (xNil))) (xCons (xCallP (f_law_is_name) (xCons (xName 0) (xNil))) (xNil)))) (xNil))))
    (sSeq (sIf (xbOr (xb (x2 (eqX true) (xCall reprT (xCons (xLst (xCons (xCallP (f_is_word) (xCons (xName 0) (xNil))) (xCons (xCallP (f_is_name) (xCons (xName 0) (xNil))) (xNil)))) (xNil))) (xCall reprT (xCons (xName 2) (xNil))))) (xb (x2 (eqX true) (xCall reprT (xCons (xLst (xCons (xCallP (f_is_word) (xOrd 1 [0] (xCons (xName 0) (xNil)))) (xCons (xCallP (f_is_name) (xOrd 1 [0] (xCons (xName 0) (xNil)))) (xNil)))) (xNil))) (xCall reprT (xCons (xName 2) (xNil)))))) (sRet (xC (T.bl false))) (sSkip))
    (sRet (x2 (eqX false) (xCall reprT (xCons (xName 0) (xNil))) (xName 1))))
def f_law_right : FP := fpOf (bodyF 1 3 g_law_right)
theorem ok_law_right (T : Txt K mg) : FnG P w K mg base 2 T.d_law_right.f T.d_law_right.fd ["_law_it"] (spP K f_law_right) :=
  fn_defGP T.d_law_right.F sc_law_right fun cdv A out z H E gd hr =>
    ss_cons (sx_par (i := 1) (j := 2) rfl sc_law_right.nd rfl rfl (el_cons (ex_callB (call_repr gd hr.units) op1_repr (by rfl) T.b_repr (el_cons (ex_name 0) (el_nil))) (el_cons (ex_of_new (en_lst (el_cons (ex_callP (ok_law_is_word T) (hr.mono (by decide)) (by rfl) T.d_law_is_word.m T.d_law_is_word.F.kp T.d_law_is_word.b (el_cons (ex_name 0) (el_nil))) (el_cons (ex_callP (ok_law_is_name T) (hr.mono (by decide)) (by rfl) T.d_law_is_name.m T.d_law_is_name.F.kp T.d_law_is_name.b (el_cons (ex_name 0) (el_nil))) (el_nil))))) (el_nil))))
    (ss_cons (sx_if (eb_w (ew_or (eb_cmp (or_ne hr.units) o2_eq (ex_callB (call_repr gd hr.units) op1_repr (by rfl) T.b_repr (el_cons (ex_of_new (en_lst (el_cons (ex_callP (ok_is_word T) (hr.mono (by decide)) (by rfl) T.d_is_word.m T.d_is_word.F.kp T.d_is_word.b (el_cons (ex_name 0) (el_nil))) (el_cons (ex_callP (ok_is_name T) (hr.mono (by decide)) (by rfl) T.d_is_name.m T.d_is_name.F.kp T.d_is_name.b (el_cons (ex_name 0) (el_nil))) (el_nil))))) (el_nil))) (ex_callB (call_repr gd hr.units) op1_repr (by rfl) T.b_repr (el_cons (ex_name 2) (el_nil))) (nomark _)) (ew_or1 (eb_cmp (or_ne hr.units) o2_eq (ex_callB (call_repr gd hr.units) op1_repr (by rfl) T.b_repr (el_cons (ex_of_new (en_lst (el_cons (ex_callKP (ok_is_word T) (hr.mono (by decide)) (by rfl) T.d_is_word.m T.d_is_word.F.kp (kord (ps := ["thing"]) (ks := ["thing"]) (ix := [0]) T.d_is_word.F (fun _ _ _ _ _ _ us hl => match us, hl with | [_], _ => ⟨rfl, rfl⟩)) (elk_cons (ex_name 0) (elk_nil))) (el_cons (ex_callKP (ok_is_name T) (hr.mono (by decide)) (by rfl) T.d_is_name.m T.d_is_name.F.kp (kord (ps := ["thing"]) (ks := ["thing"]) (ix := [0]) T.d_is_name.F (fun _ _ _ _ _ _ us hl => match us, hl with | [_], _ => ⟨rfl, rfl⟩)) (elk_cons (ex_name 0) (elk_nil))) (el_nil))))) (el_nil))) (ex_callB (call_repr gd hr.units) op1_repr (by rfl) T.b_repr (el_cons (ex_name 2) (el_nil))) (nomark _))))) (ss_one (sx_ret (ex_bl))) (ss_nil))
    (ss_one (sx_ret (ex_cmp (or_eq hr.units) o2_eq (ex_callB (call_repr gd hr.units) op1_repr (by rfl) T.b_repr (el_cons (ex_name 0) (el_nil))) (ex_name 1) (nomark _)))))
abbrev n_law : List Str := ["_law_script", "_law_deck_here", "_law_turn", "_law_sign", "_law_some", "_law_it"]
theorem sc_law : FnScope n_law ["_law_script"] (defScope s_law) := ⟨rfl, rfl, rfl, by decide +kernel, rfl, by decide +kernel, by decide +kernel⟩
def g_law (d c : Addr) : SF (deckZ d c) :=
  sSeq (sForE (iRng (xC (T.int 24))) (gSet 2) (sIf (xbOr (xbNot (xTru (xCallP (f_law_right) (xCons (xCallF (f_law_string d c) (xCons (xName 1) (xNil))) (xNil))))) (xbNot (xTru (xCallP (f_law_right) (xCons (xCallF (f_law_value d c) (xCons (xName 1) (xNil))) (xNil)))))) (sRet (xC (T.bl false))) (sSkip)))
    (sSeq (sForE (iStr (xC (T.str "abcdefghijklmnopqrstuvwxyz"))) (gSet 3) (sIf (xbOr (xbNot (xTru (xCallP (f_law_right) (xCons (xName 3) (xNil))))) (xbOr (xbNot (xTru (xCallP (f_law_right) (xCons (x2 addX (xC (T.str "k")) (xName 3)) (xNil))))) (xbNot (xTru (xCallP (f_law_right) (xCons (x2 addX (xMeth "str" (strM (fun a => T.str (Txt.upper a)) 5592405) (xName 3) xNil) (xName 3)) (xNil))))))) (sRet (xC (T.bl false))) (sSkip)))
    (sSeq (sForE (iStr (xC (T.str "0123456789"))) (gSet 3) (sIf (xbOr (xbNot (xTru (xCallP (f_law_right) (xCons (xName 3) (xNil))))) (xbOr (xbNot (xTru (xCallP (f_law_right) (xCons (x2 addX (xC (T.str "K")) (xName 3)) (xNil))))) (xbNot (xTru (xCallP (f_law_right) (xCons (x2 addX (xC (T.str "k")) (xName 3)) (xNil))))))) (sRet (xC (T.bl false))) (sSkip)))
    (sSeq (sSet 4 (xLst (xCons (xC (T.str "")) (xCons (xC (T.str "a")) (xCons (xC (T.str "K")) (xCons (xC (T.str "abcdefgh")) (xCons (xC (T.str "abcdefghi")) (xCons (xC (T.str "Kabcdef7")) (xCons (xC (T.str "Kabcdef78")) (xCons (xC (T.str "aK")) (xCons (xC (T.str "KK")) (xCons (xC (T.str "K0")) (xCons (xC (T.str "0K")) (xCons (xC (T.str "a0")) (xCons (xC (T.str "lock")) (xCons (xC (T.str " a")) (xNil)))))))))))))))))
    (sRet (x2 (eqX false) (xLc [5] (iSeq (xName 4)) (gSet 5) (xbNot (xTru (xCallP (f_law_right) (xCons (xName 5) (xNil))))) (xName 5)) (xLst (xNil)))))))
theorem rest_law (T : Txt K mg) (d c f : Addr) (cdv : Value) (A : Around) (out : List Env) (z : Shared) (H : Hp) (E : XK) (gd : A.guards = some []) (hr : Room 3 (A.deeper (envOfC "law" (defScope s_law) z.heap.objs.size f cdv))) :
    SS (cxOf CX0 P w K mg base n_law "law" (defScope s_law) f cdv A out z H E).nox (deckZ d c) ((defBody s_law).drop 1) (g_law d c) :=
    ss_cons (sx_for PassesOwn.never rfl (ix_rng (by rfl) T.b_range (ex_int)) (gx_name sc_law.nd) (ss_one (sx_if (eb_w (ew_or (eb_not (eb_tru (ex_callGP (ok_law_right T) gd (hr.mono (by decide)) (by rfl) T.d_law_right.m T.d_law_right.F.kp T.d_law_right.b (el_cons (ex_call (ok_law_string T d c) (hr.mono (by decide)) (by rfl) T.d_law_string.m T.d_law_string.F.kp T.d_law_string.b (el_cons (ex_name 1) (el_nil))) (el_nil))))) (ew_or1 (eb_not (eb_tru (ex_callGP (ok_law_right T) gd (hr.mono (by decide)) (by rfl) T.d_law_right.m T.d_law_right.F.kp T.d_law_right.b (el_cons (ex_call (ok_law_value T d c) (hr.mono (by decide)) (by rfl) T.d_law_value.m T.d_law_value.F.kp T.d_law_value.b (el_cons (ex_name 1) (el_nil))) (el_nil)))))))) (ss_one (sx_ret (ex_bl))) (ss_nil))))
    (ss_cons (sx_for PassesOwn.never rfl (ix_str' (ex_str)) (gx_name sc_law.nd) (ss_one (sx_if (eb_w (ew_or (eb_not (eb_tru (ex_callGP (ok_law_right T) gd (hr.mono (by decide)) (by rfl) T.d_law_right.m T.d_law_right.F.kp T.d_law_right.b (el_cons (ex_name 3) (el_nil))))) (ew_or (eb_not (eb_tru (ex_callGP (ok_law_right T) gd (hr.mono (by decide)) (by rfl) T.d_law_right.m T.d_law_right.F.kp T.d_law_right.b (el_cons (ex_add (ex_str) (ex_name 3)) (el_nil))))) (ew_or1 (eb_not (eb_tru (ex_callGP (ok_law_right T) gd (hr.mono (by decide)) (by rfl) T.d_law_right.m T.d_law_right.F.kp T.d_law_right.b (el_cons (ex_add (ex_m0 PySem.F.plainAttrs_str PySem.F.slot_str_upper PySem.F.type_str_upper mt_upper (opm_str (is_str Txt.upper)) (ex_name 3)) (ex_name 3)) (el_nil))))))))) (ss_one (sx_ret (ex_bl))) (ss_nil))))
    (ss_cons (sx_for PassesOwn.never rfl (ix_str' (ex_str)) (gx_name sc_law.nd) (ss_one (sx_if (eb_w (ew_or (eb_not (eb_tru (ex_callGP (ok_law_right T) gd (hr.mono (by decide)) (by rfl) T.d_law_right.m T.d_law_right.F.kp T.d_law_right.b (el_cons (ex_name 3) (el_nil))))) (ew_or (eb_not (eb_tru (ex_callGP (ok_law_right T) gd (hr.mono (by decide)) (by rfl) T.d_law_right.m T.d_law_right.F.kp T.d_law_right.b (el_cons (ex_add (ex_str) (ex_name 3)) (el_nil))))) (ew_or1 (eb_not (eb_tru (ex_callGP (ok_law_right T) gd (hr.mono (by decide)) (by rfl) T.d_law_right.m T.d_law_right.F.kp T.d_law_right.b (el_cons (ex_add (ex_str) (ex_name 3)) (el_nil))))))))) (ss_one (sx_ret (ex_bl))) (ss_nil))))
    (ss_cons (sx_set (i := 4) sc_law.nd rfl (ex_of_new (en_lst (el_cons (ex_str) (el_cons (ex_str) (el_cons (ex_str) (el_cons (ex_str) (el_cons (ex_str) (el_cons (ex_str) (el_cons (ex_str) (el_cons (ex_str) (el_cons (ex_str) (el_cons (ex_str) (el_cons (ex_str) (el_cons (ex_str) (el_cons (ex_str) (el_cons (ex_str) (el_nil))))))))))))))))))
    (ss_one (sx_ret (ex_cmp (or_eq hr.units) o2_eq (ex_of_new (en_lc (own := [("_law_it", 5)]) rfl sc_law.nd (ix_lst (ex_name 4)) (blkOk_by (own := [("_law_it", 5)]) (N := n_law) (sc := defScope s_law) (by decide +kernel)) (gb_name sc_law.nd rfl (fun _ _ => by first | exact Or.inl rfl | exact Or.inr rfl) (fun _ _ => by first | exact Or.inr rfl | exact Or.inl rfl)) rfl (fun _ _ _ _ _ => ets_one (eb_not (eb_tru (ex_callGP (ok_law_right T) gd (hr.mono (by decide)) (by rfl) T.d_law_right.m T.d_law_right.F.kp T.d_law_right.b (el_cons (ex_name 5) (el_nil)))))) (fun _ _ _ _ _ => ex_name 5))) (ex_of_new (en_lst (el_nil))) (nomark _)))))))
end
end L2.TL
-- builtins ['int', 'isinstance', 'len', 'list', 'range', 'repr', 'str'] consts ['LONGEST']
-- G ['_law_right', 'law']
-- levels {'is_word': 1, 'is_name': 1, '_law_deck': 1, '_law_draw': 1, '_law_pick': 2, '_law_is_word': 1, '_law_is_name': 1, '_law_string': 3, '_law_value': 3, '_law_right': 2, 'law': 4}
namespace L2.TL
open PySem PySem.Spec
open PyProof.Rows
def lo (c : Nat) : Bool := decide (97 ≤ c) && decide (c ≤ 122)
def up (c : Nat) : Bool := decide (65 ≤ c) && decide (c ≤ 90)
def di (c : Nat) : Bool := decide (48 ≤ c) && decide (c ≤ 57)
theorem u_alpha : (List.range 128).all (fun c => Unicode.isAlpha c == (lo c || up c)) = true := by decide +kernel
theorem u_upper : (List.range 128).all (fun c => Unicode.isUpper c == up c) = true := by decide +kernel
theorem u_lower : (List.range 128).all (fun c => Unicode.isLower c == lo c) = true := by decide +kernel
theorem u_title : (List.range 128).all (fun c => Unicode.isTitle c == false) = true := by decide +kernel
theorem u_alnum : (List.range 128).all (fun c => Unicode.isAlnum c == (lo c || up c || di c)) = true := by decide +kernel
theorem u_low : (List.range 128).all (fun c => Unicode.lowerOf c == [if up c then c + 32 else c]) = true := by decide +kernel
theorem u_up : (List.range 128).all (fun c => Unicode.upperOf c == [if lo c then c - 32 else c]) = true := by decide +kernel
abbrev ltS : Str := Str.ofString "abcdefghijklmnopqrstuvwxyz"
theorem tab {p q : Nat → Bool} (h : (List.range 128).all (fun c => p c == q c) = true) {c : Nat} (hc : c < 128) : p c = q c := by
  have := List.all_eq_true.mp h c (List.mem_range.mpr hc)
  simpa using this
theorem m_lt : (List.range 128).all (fun c => decide (c ∈ ltS.cps.toList) == lo c) = true := by decide +kernel
theorem m_up : (List.range 128).all (fun c => decide (c ∈ (Str.ofString "ABCDEFGHIJKLMNOPQRSTUVWXYZ").cps.toList) == up c) = true := by decide +kernel
theorem m_sg : (List.range 128).all (fun c => decide (c ∈ (Str.ofString "abcdefghijklmnopqrstuvwxyz0123456789").cps.toList) == (lo c || di c)) = true := by decide +kernel
theorem b_lt : ltS.cps.toList.all (fun c => decide (c < 128)) = true := by decide +kernel
theorem b_up : (Str.ofString "ABCDEFGHIJKLMNOPQRSTUVWXYZ").cps.toList.all (fun c => decide (c < 128)) = true := by decide +kernel
theorem b_sg : (Str.ofString "abcdefghijklmnopqrstuvwxyz0123456789").cps.toList.all (fun c => decide (c < 128)) = true := by decide +kernel
theorem mem_lt {l : List Nat} {p : Nat → Bool} (h : (List.range 128).all (fun c => decide (c ∈ l) == p c) = true) (b : l.all (fun c => decide (c < 128)) = true) (c : Nat) : decide (c ∈ l) = (decide (c < 128) && p c) := by
  by_cases hc : c < 128
  · have e : decide (c ∈ l) = p c := tab (p := fun c => decide (c ∈ l)) h hc
    rw [e]
    simp [hc]
  · have : ¬ c ∈ l := fun m => hc (of_decide_eq_true (List.all_eq_true.mp b c m))
    simp [this, hc]
theorem ascii_all (x : Str) : Txt.isascii x = x.cps.toList.all fun c => decide (c < 128) := by
  unfold Txt.isascii
  rw [← Array.all_toList]
theorem all_congr {l : List Nat} {p q : Nat → Bool} (h : ∀ c ∈ l, p c = q c) : l.all p = l.all q := by
  induction l with
  | nil => rfl
  | cons a r ih => rw [List.all_cons, List.all_cons, h a (by simp), ih fun c hc => h c (by simp [hc])]
theorem any_congr {l : List Nat} {p q : Nat → Bool} (h : ∀ c ∈ l, p c = q c) : l.any p = l.any q := by
  induction l with
  | nil => rfl
  | cons a r ih => rw [List.any_cons, List.any_cons, h a (by simp), ih fun c hc => h c (by simp [hc])]
/-- words: the program's tests are the law's -/
theorem word_math (x : Str) (h1 : 1 ≤ x.length) : (Txt.isascii x && Txt.isalpha x && Txt.islower x) = x.cps.toList.all fun c => decide (c ∈ ltS.cps.toList) := by
  have hne : x.cps.toList ≠ [] := by
    intro e
    unfold Str.length at h1
    rw [← Array.length_toList, e] at h1
    exact absurd h1 (by decide)
  have hpos : decide (x.length > 0) = true := decide_eq_true h1
  rw [all_congr fun c _ => mem_lt m_lt b_lt c, ascii_all]
  unfold Txt.isalpha Txt.islower
  rw [hpos, Bool.true_and, ← Array.all_toList, ← Array.any_toList, ← Array.any_toList]
  generalize x.cps.toList = l at hne
  cases ha : l.all fun c => decide (c < 128) with
  | false =>
    rw [Bool.false_and, Bool.false_and]
    obtain ⟨c, hc, hn⟩ := List.all_eq_false.mp ha
    symm
    exact List.all_eq_false.mpr ⟨c, hc, by simp at hn; simp; omega⟩
  | true =>
    have small : ∀ c ∈ l, c < 128 := fun c hc => of_decide_eq_true (List.all_eq_true.mp ha c hc)
    have eA : l.all Unicode.isAlpha = l.all fun c => lo c || up c := all_congr fun c hc => tab u_alpha (small c hc)
    have eL : l.any Unicode.isLower = l.any lo := any_congr fun c hc => tab u_lower (small c hc)
    have eU : (l.any fun c => Unicode.isUpper c || Unicode.isTitle c) = l.any up := any_congr fun c hc => by
      have e1 := tab u_upper (small c hc)
      have e2 : Unicode.isTitle c = false := tab (q := fun _ => false) u_title (small c hc)
      rw [e1, e2, Bool.or_false]
    have eR : (l.all fun c => decide (c < 128) && lo c) = l.all lo := all_congr fun c hc => by simp [small c hc]
    rw [eA, eL, eU, eR, Bool.true_and]
    cases hl : l.all lo with
    | true =>
      have hlo : ∀ c ∈ l, lo c = true := fun c hc => List.all_eq_true.mp hl c hc
      have e1 : (l.all fun c => lo c || up c) = true := List.all_eq_true.mpr fun c hc => by rw [hlo c hc]; rfl
      have e2 : l.any lo = true := by
        cases l with
        | nil => exact absurd rfl hne
        | cons a r => rw [List.any_cons, hlo a (by simp)]; rfl
      have e3 : l.any up = false := List.any_eq_false.mpr fun c hc => by
        have := hlo c hc
        unfold lo at this
        unfold up
        simp at this ⊢
        omega
      rw [e1, e2, e3]
      rfl
    | false =>
      obtain ⟨c, hc, hn⟩ := List.all_eq_false.mp hl
      cases hu : up c with
      | true =>
        have e3 : l.any up = true := List.any_eq_true.mpr ⟨c, hc, hu⟩
        rw [e3]
        simp
      | false =>
        have e1 : (l.all fun c => lo c || up c) = false := List.all_eq_false.mpr ⟨c, hc, by simp at hn; simp [hn, hu]⟩
        rw [e1]
        rfl
theorem lower_list (r : List Nat) (hr : ∀ c ∈ r, c < 128) : Txt.lower ⟨r.toArray⟩ = ⟨(r.map fun c => if up c then c + 32 else c).toArray⟩ := by
  unfold Txt.lower placed
  congr 1
  have e : ((⟨r.toArray⟩ : Str).cps.mapIdx fun i c => (Unicode.lowerAt (⟨r.toArray⟩ : Str).cps i).toArray) = (r.map fun c => #[if up c then c + 32 else c]).toArray := by
    apply Array.ext
    · simp
    · intro i h1 h2
      simp only [Array.getElem_mapIdx, List.getElem_toArray, List.getElem_map]
      have hi : i < r.length := by simpa using h2
      unfold Unicode.lowerAt
      have : (r.toArray)[i]? = some r[i] := by simp [hi]
      simp only [this]
      have hc := hr r[i] (List.getElem_mem hi)
      have n3 : (r[i] == 0x3A3) = false := by
        simp
        omega
      rw [n3, Bool.false_and]
      have := tab (q := fun c => true) (p := fun c => Unicode.lowerOf c == [if up c then c + 32 else c]) (by
        have := u_low
        simpa using this) hc
      have := eq_of_beq this
      simp [this]
  rw [e]
  clear e
  induction r with
  | nil => rfl
  | cons a l ih =>
    have := ih fun c hc => hr c (by simp [hc])
    apply Array.ext'
    simp only [List.map_cons, Array.toList_flatten, List.map_map] at this ⊢
    simp
    have q := congrArg Array.toList this
    simpa [Array.toList_flatten] using q
theorem name_math (c : Nat) (r : List Nat) : (Txt.isascii ⟨(c :: r).toArray⟩ && (Txt.isalnum ⟨(c :: r).toArray⟩ && (Txt.isupper ⟨#[c]⟩ && decide (Str.mk r.toArray = Txt.lower ⟨r.toArray⟩)))) =
    (decide (c ∈ (Str.ofString "ABCDEFGHIJKLMNOPQRSTUVWXYZ").cps.toList) && r.all fun x => decide (x ∈ (Str.ofString "abcdefghijklmnopqrstuvwxyz0123456789").cps.toList)) := by
  rw [all_congr fun c _ => mem_lt m_sg b_sg c, mem_lt m_up b_up c, ascii_all]
  show ((c :: r).all _ && _) = _
  rw [List.all_cons]
  cases hc : decide (c < 128) with
  | false => simp
  | true =>
    have hc' : c < 128 := of_decide_eq_true hc
    rw [Bool.true_and, Bool.true_and]
    cases ha : r.all fun c => decide (c < 128) with
    | false =>
      rw [Bool.false_and]
      obtain ⟨x, hx, hn⟩ := List.all_eq_false.mp ha
      have : (r.all fun x => decide (x < 128) && (lo x || di x)) = false := List.all_eq_false.mpr ⟨x, hx, by simp at hn; simp; omega⟩
      rw [this, Bool.and_false]
    | true =>
      have small : ∀ c ∈ r, c < 128 := fun c hc => of_decide_eq_true (List.all_eq_true.mp ha c hc)
      rw [Bool.true_and, all_congr (q := fun x => lo x || di x) fun x hx => by simp [small x hx]]
      have e1 : Txt.isupper ⟨#[c]⟩ = up c := by
        unfold Txt.isupper
        have a1 := tab u_upper hc'
        have a2 := tab u_lower hc'
        have a3 : Unicode.isTitle c = false := tab (q := fun _ => false) u_title hc'
        simp [a1, a2, a3]
        intro hu
        unfold up at hu
        unfold lo
        simp at hu ⊢
        omega
      have e2 : Txt.isalnum ⟨(c :: r).toArray⟩ = ((lo c || up c || di c) && r.all fun x => lo x || up x || di x) := by
        unfold Txt.isalnum
        have : decide ((Str.mk (c :: r).toArray).length > 0) = true := decide_eq_true (by simp [Str.length])
        rw [this, Bool.true_and, ← Array.all_toList]
        show ((c :: r).all _) = _
        rw [List.all_cons, tab u_alnum hc', all_congr fun x hx => tab u_alnum (small x hx)]
      have e3 : decide (Str.mk r.toArray = Txt.lower ⟨r.toArray⟩) = r.all fun x => !up x := by
        rw [lower_list r small, Bool.eq_iff_iff, decide_eq_true_iff, List.all_eq_true]
        constructor
        · intro h x hx
          have h' : r = r.map fun c => if up c then c + 32 else c := by
            have := congrArg (fun z : Str => z.cps.toList) h
            simpa using this
          obtain ⟨i, hi, rfl⟩ := List.getElem_of_mem hx
          have q : r[i] = if up r[i] then r[i] + 32 else r[i] := by
            have := congrArg (fun l : List Nat => l[i]?) h'
            simpa [hi] using this
          cases hu : up r[i] with
          | false => rfl
          | true =>
            rw [hu] at q
            simp at q
        · intro h
          congr 2
          have : r.map (fun c => if up c then c + 32 else c) = r.map id := List.map_congr_left fun x hx => by
            have := h x hx
            simp at this
            simp [this]
          rw [this, List.map_id]
      rw [e1, e2, e3]
      cases hu : up c with
      | false => simp
      | true =>
        simp only [Bool.or_true, Bool.true_or, Bool.true_and]
        rw [Bool.eq_iff_iff]
        simp only [Bool.and_eq_true, List.all_eq_true]
        constructor
        · intro ⟨h1, h2⟩ x hx
          have a := h1 x hx
          have b := h2 x hx
          simp at b
          simpa [b] using a
        · intro h
          refine ⟨fun x hx => ?_, fun x hx => ?_⟩
          · have := h x hx
            simp at this ⊢
            rcases this with q | q
            · exact .inl (.inl q)
            · exact .inr q
          · have := h x hx
            unfold lo di at this
            unfold up
            simp at this ⊢
            omega
def lenB (x : Str) : Bool := decide (1 ≤ x.length) && decide (x.length ≤ 8)
theorem is_word_str (x : Str) (hx : x.length ≤ 1000) : f_is_word [.str x] = some (.bl (lenB x && Txt.isascii x && Txt.isalpha x && Txt.islower x)) := by
  have hz : x.length ≤ sizeLine := by rw [sizeLine_eq]; omega
  unfold lenB
  by_cases h1 : 1 ≤ x.length
  · by_cases h2 : x.length ≤ 8
    · have e1 : (1 : Int) ≤ x.length := by omega
      have e2 : (x.length : Int) ≤ 8 := by omega
      cases ha : Txt.isascii x <;> cases hb : Txt.isalpha x <;> cases hc : Txt.islower x <;>
      simp [f_is_word, fpOf, bodyF, g_is_word, sSeq, sIf, xbOr, xbNot, xTru, xIs, xName, isTy, tyName, tru, xb, x3, xC, xCall, xCons, xNil, lenT, leX, orT, cmpI, sRet, sSkip, hz, e1, e2, h1, h2, xAnd, xMeth, strMT, ha, hb, hc]
    · have e1 : (1 : Int) ≤ x.length := by omega
      have e2 : ¬ (x.length : Int) ≤ 8 := by omega
      simp [f_is_word, fpOf, bodyF, g_is_word, sSeq, sIf, xbOr, xbNot, xTru, xIs, xName, isTy, tyName, tru, xb, x3, xC, xCall, xCons, xNil, lenT, leX, orT, cmpI, sRet, sSkip, hz, e1, e2, h1, h2]
  · have e1 : ¬ (1 : Int) ≤ x.length := by omega
    simp [f_is_word, fpOf, bodyF, g_is_word, sSeq, sIf, xbOr, xbNot, xTru, xIs, xName, isTy, tyName, tru, xb, x3, xC, xCall, xCons, xNil, lenT, leX, orT, cmpI, sRet, sSkip, hz, e1, h1]
def oddP (z : Str) : T → Bool := fun t => match t with
  | .str ⟨⟨[c]⟩⟩ => !decide (c ∈ z.cps.toList)
  | _ => false
theorem odd_filter (y z : Str) : ((signs y).filter (oddP z)).isEmpty = y.cps.toList.all fun c => decide (c ∈ z.cps.toList) := by
  unfold signs
  generalize y.cps.toList = l
  induction l with
  | nil => rfl
  | cons c r ih =>
    rw [List.map_cons, List.filter_cons]
    have e : oddP z (.str ⟨#[c]⟩) = !decide (c ∈ z.cps.toList) := rfl
    rw [e, List.all_cons]
    cases decide (c ∈ z.cps.toList) with
    | true =>
      rw [Bool.true_and, ← ih]
      rfl
    | false => rfl
/-- the signs of a text of small code points -/
theorem no_odd (y z : Str) (hy : ∀ c ∈ y.cps.toList, c < 1114112) : eqX false (.lst ((signs y).filter (oddP z))) (.lst []) = some (.bl (y.cps.toList.all fun c => decide (c ∈ z.cps.toList))) := by
  rw [eq_nil, ← odd_filter]
  · rfl
  · intro t ht
    have := (List.mem_filter.mp ht).1
    unfold signs at this
    obtain ⟨c, hc, rfl⟩ := List.mem_map.mp this
    refine ⟨rfl, ?_, Nat.zero_le _⟩
    have := hy c hc
    show ((#[c] : Array Nat).all fun c => decide (c < 0x110000)) = true
    simp
    omega
theorem odd_go {Z : Res} (y z : Str) (i : Nat) (τ : List SV) (s : Z.S) (j : Nat) (hi : i < τ.length) (hj : τ[j]? = some (.im (.str z))) (hij : j ≠ i) : lcGo (gSet i) (xb (x2 (inS true) (xName i) (xName j))) (xName i) τ (signs y) s = some ((signs y).filter (oddP z), s) := by
  refine lcGo_filter (signs y) fun a ha => ?_
  unfold signs at ha
  obtain ⟨c, hc, rfl⟩ := List.mem_map.mp ha
  refine ⟨τ.set i (.im (.str ⟨#[c]⟩)), by unfold gSet; rw [if_pos hi], ?_, ?_⟩
  · unfold xb x2 xName
    rw [List.getElem?_set_self hi, List.getElem?_set_ne (fun e => hij e.symm), hj]
    rfl
  · unfold xName
    rw [List.getElem?_set_self hi]
theorem comp_odd {Z : Res} {y z : Str} {i j : Nat} {f : EFs Z} {τ : List SV} {s : Z.S} (hf : f τ s = some (signs y, s)) (hi : τ[i]? = some .un) (hw : wipeT τ [i] = τ) (hj : τ[j]? = some (.im (.str z))) (hij : j ≠ i) (hy : y.length ≤ 1000) (hc : ∀ c ∈ y.cps.toList, c < 1114112) :
    x2 (eqX false) (xLc [i] f (gSet i) (xb (x2 (inS true) (xName i) (xName j))) (xName i)) (xLst xNil) τ s = some (.bl (y.cps.toList.all fun c => decide (c ∈ z.cps.toList)), s) := by
  have hl : i < τ.length := (List.getElem?_eq_some_iff.mp hi).1
  have h1 : (signs y).length ≤ sizeLine := by
    rw [signs_len, sizeLine_eq]
    omega
  have go := odd_go (Z := Z) y z i τ s j hl hj hij
  have h2 : ([i].all fun v => match τ[v]? with
      | some x => !isOw x
      | none => true) = true := by simp [hi, isOw]
  exact ev_x2 (ev_lc hf h1 h2 (by rw [hw]; exact go)) (ev_lst ev_nil (Nat.zero_le _)) (no_odd y z hc)
theorem law_is_word_str (x : Str) (hx : x.length ≤ 1000) (hc : ∀ c ∈ x.cps.toList, c < 1114112) : f_law_is_word [.str x] = some (.bl (lenB x && x.cps.toList.all fun c => decide (c ∈ (Str.ofString "abcdefghijklmnopqrstuvwxyz").cps.toList))) := by
  have hz : x.length ≤ sizeLine := by rw [sizeLine_eq]; omega
  unfold lenB
  by_cases h1 : 1 ≤ x.length
  · have e0 : 0 < x.length := h1
    by_cases h2 : x.length ≤ 8
    · have e2 : x.length < 9 := by omega
      have e3 : (x.length : Int) < 9 := by omega
      have co := comp_odd (Z := Z0) (y := x) (z := Str.ofString "abcdefghijklmnopqrstuvwxyz") (i := 2) (j := 1) (f := iStr (xName 0)) (τ := [SV.im (T.str x), SV.im (T.str (Str.ofString "abcdefghijklmnopqrstuvwxyz")), SV.un]) (s := ()) rfl rfl rfl rfl (by decide) hx hc
      simp [f_law_is_word, fpOf, bodyF, g_law_is_word, sSeq, sSet, xName, xIs, isTy, tyName, tru, x3, xC, xCall, xCons, xNil, lenT, ltX, orT, cmpI, sRet, hz, e0, e2, e3, h1, h2, xAnd, co]
    · have e2 : ¬ x.length < 9 := by omega
      have e3 : ¬ (x.length : Int) < 9 := by omega
      simp [f_law_is_word, fpOf, bodyF, g_law_is_word, sSeq, sSet, xName, xIs, isTy, tyName, tru, x3, xC, xCall, xCons, xNil, lenT, ltX, orT, cmpI, sRet, hz, e0, e2, e3, h1, h2, xAnd]
  · have e0 : ¬ 0 < x.length := by omega
    simp [f_law_is_word, fpOf, bodyF, g_law_is_word, sSeq, sSet, xName, xIs, isTy, tyName, tru, x3, xC, xCall, xCons, xNil, lenT, ltX, orT, cmpI, sRet, hz, e0, h1, xAnd]
theorem first_sign (c : Nat) (r : List Nat) (hr : r.length + 1 ≤ 1000) : ixT (.str ⟨(c :: r).toArray⟩) (.int 0) = some (.str ⟨#[c]⟩) := by
  unfold ixT
  have hz : (Str.mk (c :: r).toArray).length ≤ sizeLine := by
    rw [sizeLine_eq]
    simp [Str.length]
    omega
  simp only [if_pos hz]
  have : atI (c :: r).toArray.toList (0 : Int) = some c := by
    have := atI_nat' (l := c :: r) (k := 0) (by simp)
    simpa using this
  rw [this]
theorem rest_text (c : Nat) (r : List Nat) (hr : r.length + 1 ≤ 1000) : cutT (.str ⟨(c :: r).toArray⟩) (some 1) none = some (.str ⟨r.toArray⟩) := by
  have hz : (Str.mk (c :: r).toArray).length ≤ sizeLine := by
    rw [sizeLine_eq]
    simp [Str.length]
    omega
  unfold cutT
  simp only [if_pos hz]
  congr 2
  unfold cutS HT.sIx
  simp [Str.length]
theorem xlen {Z : Res} {τ : List SV} {s : Z.S} {i : Nat} {x : Str} (h : τ[i]? = some (.im (.str x))) (hx : x.length ≤ 1000) : xCall (Z := Z) lenT (xCons (xName i) xNil) τ s = some (.int x.length, s) := by
  refine ev_call (ev_cons (ev_name h) ev_nil) ?_
  unfold lenT
  exact if_pos (by rw [sizeLine_eq]; omega)
/-- 1 <= len(x) <= 8 -/
theorem chain18 {Z : Res} {τ : List SV} {s : Z.S} {i : Nat} {x : Str} (h : τ[i]? = some (.im (.str x))) (hx : x.length ≤ 1000) : xb (x3 leX leX (xC (T.int 1)) (xCall lenT (xCons (xName i) xNil)) (xC (T.int 8))) τ s = some (lenB x, s) := by
  refine ev_xb ?_
  unfold x3 lenB
  simp only [xlen h hx, xC]
  by_cases h1 : 1 ≤ x.length
  · have e1 : (1 : Int) ≤ x.length := by omega
    have q : leX (.int 1) (.int x.length) = some (.bl true) := by simp [leX, orT, cmpI, e1]
    rw [q]
    by_cases h2 : x.length ≤ 8
    · have e2 : (x.length : Int) ≤ 8 := by omega
      simp [leX, orT, cmpI, h1, h2, e2]
    · have e2 : ¬ (x.length : Int) ≤ 8 := by omega
      simp [leX, orT, cmpI, h1, h2, e2]
  · have e1 : ¬ (1 : Int) ≤ x.length := by omega
    have q : leX (.int 1) (.int x.length) = some (.bl false) := by simp [leX, orT, cmpI, e1]
    rw [q]
    simp [h1]
/-- 0 < len(x) < 9 -/
theorem chain09 {Z : Res} {τ : List SV} {s : Z.S} {i : Nat} {x : Str} (h : τ[i]? = some (.im (.str x))) (hx : x.length ≤ 1000) : x3 ltX ltX (xC (T.int 0)) (xCall lenT (xCons (xName i) xNil)) (xC (T.int 9)) τ s = some (.bl (lenB x), s) := by
  unfold x3 lenB
  simp only [xlen h hx, xC]
  by_cases h1 : 1 ≤ x.length
  · have e1 : (0 : Int) < x.length := by omega
    have q : ltX (.int 0) (.int x.length) = some (.bl true) := by
      unfold ltX orT cmpI
      simp only [decide_eq_true e1]
    rw [q]
    by_cases h2 : x.length ≤ 8
    · have e2 : (x.length : Int) < 9 := by omega
      simp [ltX, orT, cmpI, h1, h2, e2]
    · have e2 : ¬ (x.length : Int) < 9 := by omega
      simp [ltX, orT, cmpI, h1, h2, e2]
  · have e1 : ¬ (0 : Int) < x.length := by omega
    have q : ltX (.int 0) (.int x.length) = some (.bl false) := by
      unfold ltX orT cmpI
      simp only [decide_eq_false e1]
    rw [q]
    simp [h1]
theorem not_str {Z : Res} {τ : List SV} {s : Z.S} {i : Nat} {x : Str} (h : τ[i]? = some (.im (.str x))) : xbNot (xTru (xIs "str" (xName i))) τ s = some (false, s) := ev_bnot (k := true) (ev_tru (ev_is (ev_name h) rfl) rfl)
/-- not a text, or of another length -/
theorem is_name_len (x : Str) (hx : x.length ≤ 1000) (hl : lenB x = false) : f_is_name [.str x] = some (.bl false) ∧ f_law_is_name [.str x] = some (.bl false) := by
  refine ⟨ev_fp rfl (ev_seq_rt (ev_if_t (ev_or_f (not_str rfl) (ev_bnot (k := false) ?_)) (ev_ret rfl))), ev_fp rfl (ev_seq (ev_set rfl (by simp)) (ev_seq_rt (ev_if_t (ev_or_f (not_str rfl) (ev_or_t (ev_bnot (k := false) (ev_xb ?_)))) (ev_ret rfl))))⟩
  · rw [← hl]
    exact chain18 rfl hx
  · rw [← hl]
    exact chain09 rfl hx
theorem and3 (a b c : Bool) : (a && (b && c)) = (a && b && c) := by cases a <;> rfl
theorem is_name_at (c : Nat) (r : List Nat) (hr : r.length + 1 ≤ 8) : f_is_name [.str ⟨(c :: r).toArray⟩] = some (.bl (Txt.isascii ⟨(c :: r).toArray⟩ && (Txt.isalnum ⟨(c :: r).toArray⟩ && (Txt.isupper ⟨#[c]⟩ && decide (Str.mk r.toArray = Txt.lower ⟨r.toArray⟩))))) := by
  have hl : lenB ⟨(c :: r).toArray⟩ = true := by
    unfold lenB
    simp [Str.length]
    omega
  have hx : (Str.mk (c :: r).toArray).length ≤ 1000 := by
    simp [Str.length]
    omega
  have hlow : strM (fun a => T.str (Txt.lower a)) 5592405 (.str ⟨r.toArray⟩) [] = some (.str (Txt.lower ⟨r.toArray⟩)) := by
    unfold strM
    refine if_pos ?_
    simp [Str.length]
    omega
  refine ev_fp rfl (ev_seq (ev_if_f (s1 := (() : Z0.S)) (ev_or_f (not_str rfl) (ev_bnot (k := true) ?_)) rfl) (ev_ret ?_))
  · rw [← hl]
    exact chain18 rfl hx
  · cases h1 : Txt.isascii ⟨(c :: r).toArray⟩ with
    | false => exact ev_and_f (a := .bl false) (ev_meth (ev_name rfl) rfl ev_nil (by show some (T.bl _) = _; rw [h1])) rfl
    | true =>
      refine ev_and_t (a := .bl true) (ev_meth (ev_name rfl) rfl ev_nil (by show some (T.bl _) = _; rw [h1])) rfl ?_
      rw [Bool.true_and]
      cases h2 : Txt.isalnum ⟨(c :: r).toArray⟩ with
      | false => exact ev_and_f (a := .bl false) (ev_meth (ev_name rfl) rfl ev_nil (by show some (T.bl _) = _; rw [h2])) rfl
      | true =>
        refine ev_and_t (a := .bl true) (ev_meth (ev_name rfl) rfl ev_nil (by show some (T.bl _) = _; rw [h2])) rfl ?_
        rw [Bool.true_and]
        cases h3 : Txt.isupper ⟨#[c]⟩ with
        | false => exact ev_and_f (a := .bl false) (ev_meth (ev_x2 (ev_name rfl) rfl (first_sign c r (by omega))) rfl ev_nil (by show some (T.bl _) = _; rw [h3])) rfl
        | true =>
          refine ev_and_t (a := .bl true) (ev_meth (ev_x2 (ev_name rfl) rfl (first_sign c r (by omega))) rfl ev_nil (by show some (T.bl _) = _; rw [h3])) rfl ?_
          rw [Bool.true_and]
          exact ev_x2 (ev_cut (ev_name rfl) (ev_oSome rfl) rfl (rest_text c r (by omega))) (ev_meth (ev_cut (ev_name rfl) (ev_oSome rfl) rfl (rest_text c r (by omega))) rfl ev_nil hlow) (eq_str false _ _)
abbrev upS : Str := Str.ofString "ABCDEFGHIJKLMNOPQRSTUVWXYZ"
abbrev sgS : Str := Str.ofString "abcdefghijklmnopqrstuvwxyz0123456789"
theorem law_is_name_at (c : Nat) (r : List Nat) (hr : r.length + 1 ≤ 8) (hc : ∀ x ∈ r, x < 1114112) : f_law_is_name [.str ⟨(c :: r).toArray⟩] = some (.bl (decide (c ∈ upS.cps.toList) && r.all fun x => decide (x ∈ sgS.cps.toList))) := by
  have hl : lenB ⟨(c :: r).toArray⟩ = true := by
    unfold lenB
    simp [Str.length]
    omega
  have hx : (Str.mk (c :: r).toArray).length ≤ 1000 := by
    simp [Str.length]
    omega
  refine ev_fp rfl (ev_seq (ev_set rfl (by simp)) ?_)
  have odd : xb (x2 (inS true) (x2 ixT (xName (Z := Z0) 0) (xC (T.int 0))) (xC (T.str upS))) [SV.im (.str ⟨(c :: r).toArray⟩), SV.im (.str sgS), SV.un] () = some (!decide (c ∈ upS.cps.toList), ()) := ev_xb (ev_x2 (ev_x2 (ev_name rfl) rfl (first_sign c r (by omega))) rfl rfl)
  have nlen : xbNot (xb (x3 ltX ltX (xC (T.int 0)) (xCall lenT (xCons (xName (Z := Z0) 0) xNil)) (xC (T.int 9)))) [SV.im (.str ⟨(c :: r).toArray⟩), SV.im (.str sgS), SV.un] () = some (false, ()) := ev_bnot (k := true) (ev_xb (by rw [← hl]; exact chain09 rfl hx))
  cases h1 : decide (c ∈ upS.cps.toList) with
  | false =>
    rw [h1] at odd
    exact ev_seq_rt (ev_if_t (ev_or_f (not_str rfl) (ev_or_f nlen odd)) (ev_ret rfl))
  | true =>
    rw [h1] at odd
    refine ev_seq (ev_if_f (ev_or_f (not_str rfl) (ev_or_f nlen odd)) rfl) (ev_ret ?_)
    rw [Bool.true_and]
    refine comp_odd (y := ⟨r.toArray⟩) (z := sgS) (ev_str (ev_cut (ev_name rfl) (ev_oSome rfl) rfl (rest_text c r (by omega)))) rfl rfl rfl (by decide) (by simp [Str.length]; omega) hc
end L2.TL
namespace L2.TL
open PySem PySem.Spec
open PyProof.Rows
def Both (t : T) : Prop := ∃ b1 b2 : Bool, f_is_word [t] = some (.bl b1) ∧ f_law_is_word [t] = some (.bl b1) ∧ f_is_name [t] = some (.bl b2) ∧ f_law_is_name [t] = some (.bl b2)
def Small (x : Str) : Prop := x.length ≤ 1000 ∧ ∀ c ∈ x.cps.toList, c < 1114112
theorem both_str (x : Str) (h : Small x) : Both (.str x) := by
  cases hl : lenB x with
  | false =>
    obtain ⟨n1, n2⟩ := is_name_len x h.1 hl
    refine ⟨_, false, is_word_str x h.1, ?_, n1, n2⟩
    rw [law_is_word_str x h.1 h.2, hl]
    rfl
  | true =>
    have h1 : 1 ≤ x.length := by
      unfold lenB at hl
      simp at hl
      exact hl.1
    have h8 : x.length ≤ 8 := by
      unfold lenB at hl
      simp at hl
      exact hl.2
    obtain ⟨c, r, e⟩ : ∃ c r, x.cps.toList = c :: r := by
      cases e : x.cps.toList with
      | nil =>
        unfold Str.length at h1
        rw [← Array.length_toList, e] at h1
        exact absurd h1 (by decide)
      | cons c r => exact ⟨c, r, rfl⟩
    have ex : x = ⟨(c :: r).toArray⟩ := by
      rw [← e]
    have hr : r.length + 1 ≤ 8 := by
      have : x.cps.toList.length ≤ 8 := by
        rw [Array.length_toList]
        exact h8
      rw [e] at this
      simpa using this
    have hc : ∀ y ∈ r, y < 1114112 := fun y hy => h.2 y (by rw [e]; simp [hy])
    have n2 := law_is_name_at c r hr hc
    rw [← ex] at n2
    refine ⟨_, _, is_word_str x h.1, ?_, ?_, n2⟩
    · rw [law_is_word_str x h.1 h.2, hl, ← word_math x h1]
      simp
    · rw [ex, is_name_at c r hr, name_math]
theorem both_other (t : T) (m : String) (h : tyName t = some m) (hm : (m == "str") = false) : Both t := by
  have hi : isTy "str" t = some false := by
    unfold isTy
    simp only [h]
    have : (m == "bool" && "str" == "int") = false := by
      have : ("str" == "int") = false := by decide
      rw [this, Bool.and_false]
    rw [hm, this]
    rfl
  have hx : ∀ (τ : List SV) (i : Nat) (s : Z0.S), τ[i]? = some (.im t) → xbNot (xTru (xIs "str" (xName (Z := Z0) i))) τ s = some (true, s) := fun τ i s e => ev_bnot (k := false) (ev_tru (ev_is (ev_name e) hi) rfl)
  refine ⟨false, false, ev_fp rfl (ev_seq_rt (ev_if_t (ev_or_t (hx _ 0 () rfl)) (ev_ret rfl))), ev_fp rfl (ev_seq (ev_set rfl (by simp)) (ev_ret (ev_and_f (a := .bl false) (ev_is (ev_name rfl) hi) rfl))),
    ev_fp rfl (ev_seq_rt (ev_if_t (ev_or_t (hx _ 0 () rfl)) (ev_ret rfl))), ev_fp rfl (ev_seq (ev_set rfl (by simp)) (ev_seq_rt (ev_if_t (ev_or_t (hx _ 0 () rfl)) (ev_ret rfl))))⟩
theorem show2 (b1 b2 : Bool) : reprT [.lst [.bl b1, .bl b2]] = some (.str (T.show (.lst [.bl b1, .bl b2]))) := by
  have : showOk (.lst [.bl b1, .bl b2]) = true := by cases b1 <;> cases b2 <;> decide +kernel
  exact if_pos this
theorem two_le : ([T.bl true, T.bl true] : List T).length ≤ sizeLine := by rw [sizeLine_eq]; decide
theorem right_ok (t : T) (hs : showOk t = true) (hb : Both t) : f_law_right [t] = some (.bl true) := by
  obtain ⟨b1, b2, e1, e2, e3, e4⟩ := hb
  have z2 : ([T.bl b1, T.bl b2] : List T).length ≤ sizeLine := by
    rw [sizeLine_eq]
    show 2 ≤ 16777216
    decide
  have rt : reprT [t] = some (.str t.show) := by
    exact if_pos hs
  have e1' : f_is_word (ord [0] [t]) = some (.bl b1) := e1
  have e3' : f_is_name (ord [0] [t]) = some (.bl b2) := e3
  have ko : ∀ τ : List SV, τ[0]? = some (.im t) → xOrd (Z := Z0) 1 [0] (xCons (xName 0) xNil) τ (() : Z0.S) = some (ord [0] [t], (() : Z0.S)) := fun τ h => by
    exact ev_ord (Z := Z0) (ev_cons (ev_name h) ev_nil) rfl
  refine ev_fp rfl (ev_seq (ev_par (a := .str t.show) (b := .lst [.bl b1, .bl b2]) (s1 := (() : Z0.S)) (ev_cons (ev_call (ev_cons (ev_name rfl) ev_nil) rt) (ev_cons (ev_lst (ev_cons (ev_callP (ev_cons (ev_name rfl) ev_nil) e2) (ev_cons (ev_callP (ev_cons (ev_name rfl) ev_nil) e4) ev_nil)) z2) ev_nil)) (by simp) (by simp)) ?_)
  have r1 : xCall (Z := Z0) reprT (xCons (xName 2) xNil) [SV.im t, SV.im (.str t.show), SV.im (.lst [.bl b1, .bl b2])] (() : Z0.S) = some (.str (T.show (.lst [.bl b1, .bl b2])), (() : Z0.S)) := ev_call (ev_cons (ev_name rfl) ev_nil) (show2 b1 b2)
  have ne : ∀ x : Str, eqX true (.str x) (.str x) = some (.bl false) := fun x => by
    rw [eq_str]
    simp
  have p1 : xCallP (Z := Z0) f_is_word (xOrd 1 [0] (xCons (xName 0) xNil)) [SV.im t, SV.im (.str t.show), SV.im (.lst [.bl b1, .bl b2])] (() : Z0.S) = some (.bl b1, (() : Z0.S)) := ev_callP (ko _ rfl) e1'
  have p2 : xCallP (Z := Z0) f_is_name (xOrd 1 [0] (xCons (xName 0) xNil)) [SV.im t, SV.im (.str t.show), SV.im (.lst [.bl b1, .bl b2])] (() : Z0.S) = some (.bl b2, (() : Z0.S)) := ev_callP (ko _ rfl) e3'
  have q1 : xCall (Z := Z0) reprT (xCons (xLst (xCons (xCallP f_is_word (xOrd 1 [0] (xCons (xName 0) xNil))) (xCons (xCallP f_is_name (xOrd 1 [0] (xCons (xName 0) xNil))) xNil))) xNil) [SV.im t, SV.im (.str t.show), SV.im (.lst [.bl b1, .bl b2])] (() : Z0.S) = some (.str (T.show (.lst [.bl b1, .bl b2])), (() : Z0.S)) := ev_call (ev_cons (ev_lst (ev_cons p1 (ev_cons p2 ev_nil)) z2) ev_nil) (show2 b1 b2)
  have q2 : x2 (Z := Z0) (eqX true) (xCall reprT (xCons (xLst (xCons (xCallP f_is_word (xOrd 1 [0] (xCons (xName 0) xNil))) (xCons (xCallP f_is_name (xOrd 1 [0] (xCons (xName 0) xNil))) xNil))) xNil)) (xCall reprT (xCons (xName 2) xNil)) [SV.im t, SV.im (.str t.show), SV.im (.lst [.bl b1, .bl b2])] (() : Z0.S) = some (.bl false, (() : Z0.S)) := ev_x2 q1 r1 (ne _)
  show sSeq (Z := Z0) _ _ [SV.im t, SV.im (.str t.show), SV.im (.lst [.bl b1, .bl b2])] (() : Z0.S) = _
  refine ev_seq (ev_if_f (s1 := (() : Z0.S)) (ev_or_f (ev_xb (ev_x2 (ev_call (ev_cons (ev_lst (ev_cons (ev_callP (ev_cons (ev_name rfl) ev_nil) e1) (ev_cons (ev_callP (ev_cons (ev_name rfl) ev_nil) e3) ev_nil)) z2) ev_nil) (show2 b1 b2)) (b := .str (T.show (.lst [.bl b1, .bl b2]))) (s2 := (() : Z0.S)) r1 (ne _)))
    (ev_xb q2)) rfl) (ev_ret ?_)
  refine ev_x2 (ev_call (ev_cons (ev_name rfl) ev_nil) rt) (ev_name rfl) ?_
  rw [eq_str]
  simp
theorem show_str (x : Str) (h : Small x) : showOk (.str x) = true := by
  have hl : (reprText x).length ≤ sizeLine := by
    have := PySem.StrLaws.reprText_len x fun c hc => Nat.lt_of_lt_of_le (h.2 c hc) (by decide)
    rw [sizeLine_eq]
    have := h.1
    omega
  unfold showOk
  have e : (T.d (.str x)).shown = reprText x := rfl
  rw [e, decide_eq_true hl]
  rfl
theorem right_str (x : Str) (h : Small x) : f_law_right [.str x] = some (.bl true) := right_ok _ (show_str x h) (both_str x h)
end L2.TL
namespace L2.TL
open PySem PySem.Spec
open PyProof.Rows
def We {S α : Type} (r : Option (α × S)) (P : α → S → Prop) : Prop := ∃ a s, r = some (a, s) ∧ P a s
section
variable {Z : Res} {f fa fb : EF Z} {fs : EFs Z} {τ : List SV} {s : Z.S}
theorem we_imp {S α : Type} {r : Option (α × S)} {P Q : α → S → Prop} (h : We r P) (k : ∀ a s, P a s → Q a s) : We r Q := by
  obtain ⟨a, s, e, p⟩ := h
  exact ⟨a, s, e, k a s p⟩
theorem we_name {i : Nat} {t : T} {P : T → Z.S → Prop} (h : τ[i]? = some (.im t)) (p : P t s) : We (xName (Z := Z) i τ s) P := ⟨t, s, ev_name h, p⟩
theorem we_c {t : T} {P : T → Z.S → Prop} (p : P t s) : We (xC (Z := Z) t τ s) P := ⟨t, s, rfl, p⟩
theorem we_nil {P : List T → Z.S → Prop} (p : P [] s) : We (xNil (Z := Z) τ s) P := ⟨[], s, rfl, p⟩
theorem we_cons {P : List T → Z.S → Prop} (h : We (f τ s) fun a s1 => We (fs τ s1) fun as s2 => P (a :: as) s2) : We (xCons f fs τ s) P := by
  obtain ⟨a, s1, e1, as, s2, e2, p⟩ := h
  exact ⟨_, _, ev_cons e1 e2, p⟩
theorem we_x2 {op : T → T → Option T} {P : T → Z.S → Prop} (h : We (fa τ s) fun a s1 => We (fb τ s1) fun b s2 => ∃ c, op a b = some c ∧ P c s2) : We (x2 op fa fb τ s) P := by
  obtain ⟨a, s1, e1, b, s2, e2, c, e3, p⟩ := h
  exact ⟨_, _, ev_x2 e1 e2 e3, p⟩
theorem we_call {op : List T → Option T} {P : T → Z.S → Prop} (h : We (fs τ s) fun as s1 => ∃ c, op as = some c ∧ P c s1) : We (xCall op fs τ s) P := by
  obtain ⟨a, s1, e1, c, e3, p⟩ := h
  exact ⟨_, _, ev_call e1 e3, p⟩
theorem we_callP {fp : FP} {P : T → Z.S → Prop} (h : We (fs τ s) fun as s1 => ∃ c, fp as = some c ∧ P c s1) : We (xCallP fp fs τ s) P := by
  obtain ⟨a, s1, e1, c, e3, p⟩ := h
  exact ⟨_, _, ev_callP e1 e3, p⟩
theorem we_callF {ff : FF Z} {P : T → Z.S → Prop} (h : We (fs τ s) fun as s1 => We (ff as s1) P) : We (xCallF ff fs τ s) P := by
  obtain ⟨a, s1, e1, c, s2, e3, p⟩ := h
  exact ⟨_, _, ev_callF e1 e3, p⟩
theorem we_tup {P : T → Z.S → Prop} (h : We (fs τ s) fun as s1 => as.length ≤ 1000 ∧ P (.tup as) s1) : We (xTup fs τ s) P := by
  obtain ⟨a, s1, e1, z, p⟩ := h
  exact ⟨_, _, ev_tup e1 (Nat.le_trans z (by rw [sizeLine_eq]; decide)), p⟩
theorem we_lst {P : T → Z.S → Prop} (h : We (fs τ s) fun as s1 => as.length ≤ 1000 ∧ P (.lst as) s1) : We (xLst fs τ s) P := by
  obtain ⟨a, s1, e1, z, p⟩ := h
  exact ⟨_, _, ev_lst e1 (Nat.le_trans z (by rw [sizeLine_eq]; decide)), p⟩
theorem we_meth {ty : String} {op : T → List T → Option T} {P : T → Z.S → Prop} (h : We (f τ s) fun a s1 => tyName a = some ty ∧ We (fs τ s1) fun as s2 => ∃ c, op a as = some c ∧ P c s2) : We (xMeth ty op f fs τ s) P := by
  obtain ⟨a, s1, e1, ht, as, s2, e2, c, e3, p⟩ := h
  exact ⟨_, _, ev_meth e1 ht e2 e3, p⟩
/-- statements that go on -/
def Wn {Z : Res} (r : Option (Out Z.S)) (P : List SV → Z.S → Prop) : Prop := ∃ τ s, r = some (.nx τ s) ∧ P τ s
theorem wn_set {i : Nat} {P : List SV → Z.S → Prop} (h : We (f τ s) fun a s1 => i < τ.length ∧ P (τ.set i (.im a)) s1) : Wn (sSet i f τ s) P := by
  obtain ⟨a, s1, e, hi, p⟩ := h
  exact ⟨_, _, ev_set e hi, p⟩
theorem wn_seq {g g' : SF Z} {P : List SV → Z.S → Prop} (h : Wn (g τ s) fun τ1 s1 => Wn (g' τ1 s1) P) : Wn (sSeq g g' τ s) P := by
  obtain ⟨τ1, s1, e, τ2, s2, e2, p⟩ := h
  exact ⟨_, _, ev_seq e e2, p⟩
end
theorem of_we {S α : Type} {r : Option (α × S)} {P : α → S → Prop} (h : We r P) : ∃ a s, r = some (a, s) ∧ P a s := h
section
variable {d c : Addr} {τ : List SV} {s : Deck}
abbrev Dz (d c : Addr) : Res := deckZ d c
theorem we_draw {f : EF (deckZ d c)} {P : T → Deck → Prop} (h0 : τ[0]? = some (.im (.adr d))) (h : We (f τ s) fun a s1 => ∃ n : Int, a = .int n ∧ 0 < n ∧ n < 1073741824 ∧ ∀ (k : Nat) (s2 : Deck), (k : Int) < n → P (.int k) s2) :
    We (xCallF (drawT dp dq d c) (xCons (xName 0) (xCons f xNil)) τ s) P := by
  obtain ⟨a, s1, e, n, rfl, h1, h2, q⟩ := h
  obtain ⟨k, s2, e2, hk⟩ := drawT_some dp dq d c s1 n h1 h2
  exact ⟨_, _, ev_callF (ev_cons (ev_name h0) (ev_cons e ev_nil)) e2, q k s2 hk⟩
theorem lenT_str (x : Str) (h : x.length ≤ 1000) : lenT [.str x] = some (.int x.length) := if_pos (by rw [sizeLine_eq]; omega)
theorem ixT_str (x : Str) (h : x.length ≤ 1000) (k : Nat) (hk : (k : Int) < x.length) : ∃ c ∈ x.cps.toList, ixT (.str x) (.int k) = some (.str ⟨#[c]⟩) := by
  have hk' : k < x.cps.toList.length := by
    unfold Str.length at hk
    rw [Array.length_toList]
    omega
  refine ⟨x.cps.toList[k], List.getElem_mem hk', ?_⟩
  have hz : x.length ≤ sizeLine := by rw [sizeLine_eq]; omega
  show (if x.length ≤ sizeLine then _ else _) = _
  rw [if_pos hz, atI_nat' hk']
theorem pick_str (x : Str) (h1 : 1 ≤ x.length) (h2 : x.length ≤ 1000) (s : Deck) : ∃ c' ∈ x.cps.toList, ∃ s', f_law_pick d c [.adr d, .str x] s = some (.str ⟨#[c']⟩, s') := by
  obtain ⟨k, s2, e2, hk⟩ := drawT_some dp dq d c s (x.length : Int) (by omega) (by omega)
  obtain ⟨c', hc, e⟩ := ixT_str x h2 k hk
  exact ⟨c', hc, s2, ev_ff rfl (ev_ret (ev_x2 (ev_name rfl) (ev_callF (ev_cons (ev_name rfl) (ev_cons (ev_call (ev_cons (ev_name rfl) ev_nil) (lenT_str x h2)) ev_nil)) e2) e))⟩
theorem pick_lst (l : List T) (h1 : 1 ≤ l.length) (h2 : l.length ≤ 1000) (s : Deck) : ∃ t ∈ l, ∃ s', f_law_pick d c [.adr d, .lst l] s = some (t, s') := by
  obtain ⟨k, s2, e2, hk⟩ := drawT_some dp dq d c s (l.length : Int) (by omega) (by omega)
  have hk' : k < l.length := by omega
  refine ⟨l[k], List.getElem_mem hk', s2, ev_ff rfl (ev_ret (ev_x2 (ev_name rfl) (ev_callF (ev_cons (ev_name rfl) (ev_cons (ev_call (ev_cons (ev_name rfl) ev_nil) rfl) ev_nil)) e2) ?_))⟩
  exact atI_nat' hk'
theorem we_pickS {f : EF (deckZ d c)} {P : T → Deck → Prop} (h0 : τ[0]? = some (.im (.adr d))) (h : We (f τ s) fun a s1 => ∃ x : Str, a = .str x ∧ 1 ≤ x.length ∧ x.length ≤ 1000 ∧ ∀ c' ∈ x.cps.toList, ∀ s2 : Deck, P (.str ⟨#[c']⟩) s2) :
    We (xCallF (f_law_pick d c) (xCons (xName 0) (xCons f xNil)) τ s) P := by
  obtain ⟨a, s1, e, x, rfl, h1, h2, q⟩ := h
  obtain ⟨c', hc, s2, e2⟩ := pick_str x h1 h2 s1
  exact ⟨_, _, ev_callF (ev_cons (ev_name h0) (ev_cons e ev_nil)) e2, q c' hc s2⟩
theorem we_pickL {f : EF (deckZ d c)} {P : T → Deck → Prop} (h0 : τ[0]? = some (.im (.adr d))) (h : We (f τ s) fun a s1 => ∃ l : List T, a = .lst l ∧ 1 ≤ l.length ∧ l.length ≤ 1000 ∧ ∀ t ∈ l, ∀ s2 : Deck, P t s2) :
    We (xCallF (f_law_pick d c) (xCons (xName 0) (xCons f xNil)) τ s) P := by
  obtain ⟨a, s1, e, x, rfl, h1, h2, q⟩ := h
  obtain ⟨t, ht, s2, e2⟩ := pick_lst x h1 h2 s1
  exact ⟨_, _, ev_callF (ev_cons (ev_name h0) (ev_cons e ev_nil)) e2, q t ht s2⟩
def Sm (n : Nat) (x : Str) : Prop := x.length ≤ n ∧ ∀ c ∈ x.cps.toList, c < 1114112
theorem Sm.app {n m : Nat} {x y : Str} (h : Sm n x) (k : Sm m y) : Sm (n + m) (x ++ y) := by
  refine ⟨?_, fun c hc => ?_⟩
  · rw [Str.length_append]
    exact Nat.add_le_add h.1 k.1
  · rcases mem_cps_append.mp hc with q | q
    · exact h.2 c q
    · exact k.2 c q
theorem Sm.one {c : Nat} (h : c < 1114112) : Sm 1 ⟨#[c]⟩ := ⟨Nat.le_refl _, fun e he => by
  have : e = c := by simpa using he
  rw [this]
  exact h⟩
theorem Sm.cut {n : Nat} {x : Str} (h : Sm n x) (lo hi : Option Int) : Sm n (cutS x lo hi) := by
  constructor
  · unfold cutS Str.length
    simp only [List.size_toArray, List.length_take, List.length_drop, Array.length_toList]
    have := h.1
    unfold Str.length at this
    omega
  · intro e he
    unfold cutS at he
    simp only [List.toList_toArray] at he
    exact h.2 e (List.mem_of_mem_drop (List.mem_of_mem_take he))
theorem join_ones (cs : List Nat) : Txt.join "" (cs.map fun c => (⟨#[c]⟩ : Str)) = ⟨cs.toArray⟩ := by
  rw [_root_.TL.join_eq]
  induction cs with
  | nil => rfl
  | cons a r ih =>
    cases r with
    | nil => rfl
    | cons b r =>
      show ((⟨#[a]⟩ : Str) ++ "" ++ Str.join "" (List.map (fun c => (⟨#[c]⟩ : Str)) (b :: r))) = _
      rw [ih]
      apply Str.ext'
      simp only [Str.cps_append]
      have : ("" : Str).cps = #[] := by decide +kernel
      rw [this]
      simp
end
end L2.TL
namespace L2.TL
open PySem PySem.Spec
open PyProof.Rows
theorem ones_of : ∀ bs : List T, (∀ b ∈ bs, ∃ c : Nat, b = T.str ⟨#[c]⟩ ∧ c < 1114112) → ∃ cs : List Nat, bs = (cs.map fun c => (⟨#[c]⟩ : Str)).map T.str ∧ ∀ c ∈ cs, c < 1114112
  | [], _ => ⟨[], rfl, fun _ h => by cases h⟩
  | b :: r, h => by
    obtain ⟨c, e, hc⟩ := h b (by simp)
    obtain ⟨cs, e2, hcs⟩ := ones_of r fun x hx => h x (by simp [hx])
    refine ⟨c :: cs, by rw [e, e2]; rfl, fun y hy => ?_⟩
    rcases List.mem_cons.mp hy with rfl | hy
    · exact hc
    · exact hcs y hy
theorem sum_ones : ∀ cs : List Nat, ((cs.map fun c => (⟨#[c]⟩ : Str)).map (·.length)).sum = cs.length
  | [] => rfl
  | c :: r => by
    simp only [List.map_cons, List.sum_cons, List.length_cons, sum_ones r]
    show 1 + r.length = r.length + 1
    omega
section
variable {d c : Addr} {τ : List SV} {s : Deck}
theorem we_joinlc {f : EF (deckZ d c)} {j : Nat} {x : Str} {P : T → Deck → Prop} (h0 : τ[0]? = some (.im (.adr d))) (hj : τ[j]? = some (.im (.str x))) (hl : τ.length = 9) (hn : j ≠ 5) (h5 : ∃ v, τ[5]? = some v ∧ isOw v = false) (h1 : 1 ≤ x.length) (hx : Sm 1000 x)
    (h : We (f τ s) fun a s1 => ∃ n : Nat, a = .int n ∧ n ≤ 20 ∧ ∀ (y : Str) (s2 : Deck), Sm n y → P (.str y) s2) :
    We (xMeth "str" joinT (xC (T.str "")) (xCons (xLc [5] (iRng f) (gSet 5) xYes (xCallF (f_law_pick d c) (xCons (xName 0) (xCons (xName j) xNil)))) xNil) τ s) P := by
  obtain ⟨a, s1, e, n, rfl, hn20, q⟩ := h
  have lw : (wipeT τ [5]).length = 9 := by rw [wipeT_length]; exact hl
  obtain ⟨bs, s2, e2, hbl, hP⟩ := lcGo_all (Z := deckZ d c) (gt := gSet 5) (fe := xCallF (f_law_pick d c) (xCons (xName 0) (xCons (xName j) xNil))) (τ := wipeT τ [5]) (P := fun b => ∃ c : Nat, b = T.str ⟨#[c]⟩ ∧ c < 1114112) (fun a => by
    refine ⟨(wipeT τ [5]).set 5 (.im a), if_pos (by omega), fun s => ?_⟩
    obtain ⟨c', hc, s', e'⟩ := pick_str (d := d) (c := c) x h1 hx.1 s
    refine ⟨_, s', ev_callF (ev_cons (ev_name ?_) (ev_cons (ev_name ?_) ev_nil)) e', c', rfl, hx.2 c' hc⟩
    · show ((τ.set 5 .un).set 5 (.im a))[0]? = _
      rw [List.getElem?_set_ne (by decide), List.getElem?_set_ne (by decide)]
      exact h0
    · show ((τ.set 5 .un).set 5 (.im a))[j]? = _
      rw [List.getElem?_set_ne (by omega), List.getElem?_set_ne (by omega)]
      exact hj) (intsFrom 0 n) s1
  obtain ⟨cs, rfl, hcs⟩ := ones_of bs hP
  have hlen : cs.length = n := by
    rw [intsFrom_len] at hbl
    simpa using hbl
  refine ⟨_, s2, ev_meth (a := .str "") rfl rfl (ev_cons (ev_lc (items := intsFrom 0 n) (ev_rng (n := (n : Int)) e ⟨by omega, by omega⟩) ?_ ?_ e2) ev_nil) (c := .str ⟨cs.toArray⟩) ?_, q _ _ ⟨?_, ?_⟩⟩
  · rw [intsFrom_len, sizeLine_eq]
    omega
  · obtain ⟨v, hv, ho⟩ := h5
    simp only [List.all_cons, List.all_nil, hv, ho]
    rfl
  · unfold joinT
    simp only [strs?_map]
    have z : ("" : Str).length = 0 := by decide +kernel
    rw [sum_ones, z, if_pos (by simp; omega), join_ones]
  · show cs.toArray.size ≤ n
    simp [hlen]
  · intro y hy
    exact hcs y (by simpa using hy)
end
end L2.TL
namespace L2.TL
open PySem PySem.Spec
open PyProof.Rows
def Wr {Z : Res} (r : Option (Out Z.S)) (P : T → Z.S → Prop) : Prop := ∃ a s, r = some (.rt a s) ∧ P a s
section
variable {Z : Res} {f fa fb : EF Z} {fs : EFs Z} {τ : List SV} {s : Z.S}
theorem we_ff {g : SF Z} {n m : Nat} {ts : List T} {P : T → Z.S → Prop} (hn : ts.length = n) (h : Wr (g (ts.map SV.im ++ List.replicate (m - n) SV.un) s) P) : We (bodyF n m g ts s) P := by
  obtain ⟨a, s1, e, p⟩ := h
  exact ⟨a, s1, ev_ff hn e, p⟩
theorem wr_seq {g g' : SF Z} {P : T → Z.S → Prop} (h : Wn (g τ s) fun τ1 s1 => Wr (g' τ1 s1) P) : Wr (sSeq g g' τ s) P := by
  obtain ⟨τ1, s1, e, a, s2, e2, p⟩ := h
  exact ⟨_, _, ev_seq e e2, p⟩
theorem wr_ret {P : T → Z.S → Prop} (h : We (f τ s) P) : Wr (sRet f τ s) P := by
  obtain ⟨a, s1, e, p⟩ := h
  exact ⟨_, _, ev_ret e, p⟩
theorem wn_asg {gt : GF} {P : List SV → Z.S → Prop} (h : We (f τ s) fun a s1 => ∃ τ', gt a τ = some τ' ∧ P τ' s1) : Wn (sAsg f gt τ s) P := by
  obtain ⟨a, s1, e, τ', e2, p⟩ := h
  exact ⟨_, _, ev_asg e e2, p⟩
theorem wn_imp {r : Option (Out Z.S)} {P Q : List SV → Z.S → Prop} (h : Wn r P) (k : ∀ τ s, P τ s → Q τ s) : Wn r Q := by
  obtain ⟨τ, s, e, p⟩ := h
  exact ⟨τ, s, e, k τ s p⟩
theorem wn_if {ft : EFb Z} {g g' : SF Z} {P : List SV → Z.S → Prop} (b : Bool) (h : ft τ s = some (b, s)) (ht : b = true → Wn (g τ s) P) (hf : b = false → Wn (g' τ s) P) : Wn (sIf ft g g' τ s) P := by
  cases b with
  | true =>
    obtain ⟨τ1, s1, e, p⟩ := ht rfl
    exact ⟨τ1, s1, ev_if_t h e, p⟩
  | false =>
    obtain ⟨τ1, s1, e, p⟩ := hf rfl
    exact ⟨τ1, s1, ev_if_f h e, p⟩
theorem wn_skip {P : List SV → Z.S → Prop} (p : P τ s) : Wn (sSkip (Z := Z) τ s) P := ⟨τ, s, rfl, p⟩
end
theorem eq_int (neg : Bool) (x y : Int) : eqX neg (.int x) (.int y) = some (.bl (if neg then !decide (x = y) else decide (x = y))) := by
  unfold eqX orT eqS
  simp only [scV, scal, if_true]
  by_cases h : x = y
  · subst h
    simp
  · have : ¬ V.int x = V.int y := fun e => h (by injection e)
    simp [h]
theorem addX_str {x y : Str} (h : x.length + y.length ≤ 2000) : addX (.str x) (.str y) = some (.str (x ++ y)) := by
  have e : addS (.str x) (.str y) = some (.str (x ++ y)) := if_pos (by rw [sizeLine_eq]; omega)
  have e0 : addI (.str x) (.str y) = none := rfl
  unfold addX orT
  simp only [e0, e]
theorem addX_int (x y : Int) : addX (.int x) (.int y) = some (.int (x + y)) := rfl
abbrev sgS2 : Str := Str.ofString "abcdefghijklmnopqrstuvwxyz" ++ Txt.mul (Str.ofString "0123456789") 2
def smB (n : Nat) (x : Str) : Bool := decide (x.length ≤ n) && x.cps.toList.all fun c => decide (c < 1114112)
theorem smB_ok {n : Nat} {x : Str} (h : smB n x = true) : Sm n x := by
  unfold smB at h
  rw [Bool.and_eq_true, decide_eq_true_eq, List.all_eq_true] at h
  exact ⟨h.1, fun c hc => of_decide_eq_true (h.2 c hc)⟩
theorem sm_lt : Sm 1000 ltS := smB_ok (by decide +kernel)
theorem sm_up : Sm 1000 (Txt.upper ltS) := smB_ok (by decide +kernel)
theorem sm_sg2 : Sm 1000 sgS2 := smB_ok (by decide +kernel)
theorem l_lt : 1 ≤ ltS.length := by decide +kernel
theorem l_up : 1 ≤ (Txt.upper ltS).length := by decide +kernel
theorem l_sg2 : 1 ≤ sgS2.length := by decide +kernel
theorem mulS_ok {x : Str} {n : Int} (h : 0 ≤ n ∧ n ≤ 1000 ∧ x.length ≤ 1000) : mulS (.str x) (.int n) = some (.str (Txt.mul x n)) := if_pos h
theorem strM_ok {g : Str → T} {m : Nat} {x : Str} (h : x.length ≤ m) : strM g m (.str x) [] = some (g x) := if_pos h
theorem mul_dg : mulX (.str (Str.ofString "0123456789")) (.int 2) = some (.str (Txt.mul (Str.ofString "0123456789") 2)) := by
  have e : mulS (.str (Str.ofString "0123456789")) (.int 2) = some (.str (Txt.mul (Str.ofString "0123456789") 2)) := mulS_ok ⟨by decide, by decide, by decide +kernel⟩
  have e0 : mulI (.str (Str.ofString "0123456789")) (.int 2) = none := rfl
  unfold mulX orT
  simp only [e0, e]
theorem Sm.mono {n m : Nat} {x : Str} (h : Sm n x) (k : n ≤ m) : Sm m x := ⟨Nat.le_trans h.1 k, h.2⟩
abbrev oddL : List T := [T.str "A", T.str "Z", T.str "0", T.str "9", T.str "_", T.str " ", T.str "-", T.str "(", T.str ",", T.str "\n", T.str "~", T.str "@", T.str "[", T.str "`", T.str "{"]
def smT (n : Nat) : T → Bool
  | .str x => smB n x
  | _ => false
theorem odd_sm : oddL.all (smT 1) = true := by decide +kernel
theorem smT_ok {n : Nat} {t : T} (h : smT n t = true) : ∃ x, t = .str x ∧ Sm n x := by
  cases t with
  | str x => exact ⟨x, rfl, smB_ok h⟩
  | _ => cases h
section
variable {d c : Addr}
def SI (d : Addr) (n : Nat) (k1 : Nat) (τ : List SV) : Prop := ∃ x : Str, τ.length = 9 ∧ τ[0]? = some (.im (.adr d)) ∧ τ[1]? = some (.im (.int k1)) ∧ τ[3]? = some (.im (.str ltS)) ∧ τ[4]? = some (.im (.str x)) ∧ Sm n x ∧ ∃ v, τ[5]? = some v ∧ isOw v = false
theorem string_some (s : Deck) : We (f_law_string d c [.adr d] s) fun a _ => ∃ x, a = .str x ∧ Small x := by
  refine we_ff rfl (wr_seq (wn_asg (we_tup (we_cons (we_draw rfl (we_c ⟨4, rfl, by decide, by decide, fun k1 s1 h1 => ?_⟩))))))
  refine we_cons (we_draw rfl (we_c ⟨11, rfl, by decide, by decide, fun k2 s2 h2 => ?_⟩))
  refine we_cons (we_c (we_nil ⟨(by decide : 3 ≤ 1000), _, rfl, ?_⟩))
  refine wr_seq (wn_imp (P := fun τ _ => SI d 11 k1 τ) (wn_set (we_joinlc (x := ltS) rfl rfl rfl (by decide) ⟨_, rfl, rfl⟩ l_lt sm_lt (we_name rfl ⟨k2, rfl, by omega, fun y s3 hy => ⟨by simp, y, rfl, rfl, rfl, rfl, rfl, hy.mono (by omega), _, rfl, rfl⟩⟩))) ?_)
  clear h2 h1
  intro τ s3 ⟨x, hl, t0, t1, t3, t4, hx, v5, t5, o5⟩
  refine wr_seq (wn_imp (P := fun τ _ => SI d 11 k1 τ) (wn_if (decide ((k1 : Int) = 1)) (ev_xb (ev_x2 (ev_name t1) rfl (eq_int false k1 1))) (fun _ => ?_) (fun _ => wn_skip ⟨x, hl, t0, t1, t3, t4, hx, v5, t5, o5⟩)) ?_)
  · refine wn_seq (wn_set (we_x2 (we_name t3 (we_x2 (we_c (we_c ⟨_, mul_dg, _, addX_str (by decide +kernel), by omega, ?_⟩))))))
    have u0 : (τ.set 6 (.im (.str sgS2)))[0]? = some (.im (.adr d)) := by rw [List.getElem?_set_ne (by decide)]; exact t0
    have u1 : (τ.set 6 (.im (.str sgS2)))[1]? = some (.im (.int k1)) := by rw [List.getElem?_set_ne (by decide)]; exact t1
    have u3 : (τ.set 6 (.im (.str sgS2)))[3]? = some (.im (.str ltS)) := by rw [List.getElem?_set_ne (by decide)]; exact t3
    have u5 : (τ.set 6 (.im (.str sgS2)))[5]? = some v5 := by rw [List.getElem?_set_ne (by decide)]; exact t5
    have u6 : (τ.set 6 (.im (.str sgS2)))[6]? = some (.im (.str sgS2)) := by rw [List.getElem?_set_self (by omega)]
    have ul : (τ.set 6 (.im (.str sgS2))).length = 9 := by rw [List.length_set]; exact hl
    refine wn_set (we_x2 (we_pickS u0 (we_meth (we_name u3 ⟨rfl, we_nil ⟨.str (Txt.upper ltS), strM_ok (by decide +kernel), _, rfl, l_up, sm_up.1, fun c' hc s4 => ?_⟩⟩))))
    refine we_joinlc (x := sgS2) u0 u6 ul (by decide) ⟨_, u5, o5⟩ l_sg2 sm_sg2 (we_draw u0 (we_c ⟨10, rfl, by decide, by decide, fun k3 s5 h3 => ⟨k3, rfl, by omega, fun y s6 hy => ?_⟩⟩))
    have q : Sm 11 ((⟨#[c']⟩ : Str) ++ y) := (Sm.app (Sm.one (sm_up.2 c' hc)) hy).mono (by omega)
    refine ⟨_, addX_str (by have := q.1; rw [Str.length_append] at this; omega), by rw [ul]; decide, _, by rw [List.length_set]; exact ul, ?_, ?_, ?_, List.getElem?_set_self (by rw [ul]; decide), q, v5, ?_, o5⟩
    · rw [List.getElem?_set_ne (by decide)]; exact u0
    · rw [List.getElem?_set_ne (by decide)]; exact u1
    · rw [List.getElem?_set_ne (by decide)]; exact u3
    · rw [List.getElem?_set_ne (by decide)]; exact u5
  clear t0 t1 t3 t4 t5 o5 hl hx v5 x s3 τ
  intro τ s3 ⟨x, hl, t0, t1, t3, t4, hx, v5, t5, o5⟩
  refine wr_seq (wn_imp (P := fun τ _ => SI d 23 k1 τ) (wn_if (decide ((1 : Int) < k1)) (ev_xb (ev_x2 (ev_name t1) rfl rfl)) (fun _ => ?_) (fun _ => wn_skip ⟨x, hl, t0, t1, t3, t4, hx.mono (by decide), v5, t5, o5⟩)) ?_)
  · have xl := hx.1
    refine wn_seq (wn_set (we_draw t0 (we_x2 (we_call (we_cons (we_name t4 (we_nil ⟨_, lenT_str x (by omega), we_c ⟨_, addX_int _ _, _, rfl, by omega, by omega, fun k3 s4 h3 => ?_⟩⟩)))))))
    have hz : oddL.length ≤ sizeLine := by
      rw [sizeLine_eq]
      show 15 ≤ 16777216
      decide
    refine ⟨by omega, wn_seq (wn_set ⟨.lst oddL, s4, ev_lst rfl hz, ?_, ?_⟩)⟩
    · rw [List.length_set]; omega
    have w0 : ((τ.set 7 (.im (.int k3))).set 8 (.im (.lst oddL)))[0]? = some (.im (.adr d)) := by rw [List.getElem?_set_ne (by decide), List.getElem?_set_ne (by decide)]; exact t0
    have w1 : ((τ.set 7 (.im (.int k3))).set 8 (.im (.lst oddL)))[1]? = some (.im (.int k1)) := by rw [List.getElem?_set_ne (by decide), List.getElem?_set_ne (by decide)]; exact t1
    have w3 : ((τ.set 7 (.im (.int k3))).set 8 (.im (.lst oddL)))[3]? = some (.im (.str ltS)) := by rw [List.getElem?_set_ne (by decide), List.getElem?_set_ne (by decide)]; exact t3
    have w4 : ((τ.set 7 (.im (.int k3))).set 8 (.im (.lst oddL)))[4]? = some (.im (.str x)) := by rw [List.getElem?_set_ne (by decide), List.getElem?_set_ne (by decide)]; exact t4
    have w5 : ((τ.set 7 (.im (.int k3))).set 8 (.im (.lst oddL)))[5]? = some v5 := by rw [List.getElem?_set_ne (by decide), List.getElem?_set_ne (by decide)]; exact t5
    have w7 : ((τ.set 7 (.im (.int k3))).set 8 (.im (.lst oddL)))[7]? = some (.im (.int k3)) := by rw [List.getElem?_set_ne (by decide), List.getElem?_set_self (by omega)]
    have w8 : ((τ.set 7 (.im (.int k3))).set 8 (.im (.lst oddL)))[8]? = some (.im (.lst oddL)) := by rw [List.getElem?_set_self (by rw [List.length_set]; omega)]
    have wl : ((τ.set 7 (.im (.int k3))).set 8 (.im (.lst oddL))).length = 9 := by rw [List.length_set, List.length_set]; exact hl
    generalize (τ.set 7 (.im (.int k3))).set 8 (.im (.lst oddL)) = τ' at w0 w1 w3 w4 w5 w7 w8 wl
    have xz : x.length ≤ sizeLine := by rw [sizeLine_eq]; omega
    have ct : ∀ lo hi, cutT (.str x) lo hi = some (.str (cutS x lo hi)) := fun lo hi => if_pos xz
    refine wn_set (we_x2 (we_x2 ⟨_, s4, ev_cut (ev_name w4) rfl (ev_oSome (ev_name w7)) (ct none (some (k3 : Int))), we_pickL w0 (we_name w8 ⟨oddL, rfl, by decide, by decide, fun t ht s5 => ?_⟩)⟩))
    obtain ⟨y, rfl, hy⟩ := smT_ok (List.all_eq_true.mp odd_sm t ht)
    have c1 := Sm.cut hx none (some (k3 : Int))
    have c2 := Sm.cut hx (some (k3 : Int)) none
    refine ⟨_, addX_str (by have := c1.1; have := hy.1; omega), _, s5, ev_cut (ev_name w4) (ev_oSome (ev_name w7)) rfl (ct (some (k3 : Int)) none), _, addX_str (by have := c1.1; have := c2.1; have := hy.1; rw [Str.length_append]; omega), by omega, _, by rw [List.length_set]; exact wl, ?_, ?_, ?_, List.getElem?_set_self (by omega), ((c1.app hy).app c2).mono (by decide : 11 + 1 + 11 ≤ 23), v5, ?_, o5⟩
    · rw [List.getElem?_set_ne (by decide)]; exact w0
    · rw [List.getElem?_set_ne (by decide)]; exact w1
    · rw [List.getElem?_set_ne (by decide)]; exact w3
    · rw [List.getElem?_set_ne (by decide)]; exact w5
  clear t0 t1 t3 t4 t5 o5 hl hx v5 x s3 τ
  intro τ s3 ⟨x, hl, t0, t1, t3, t4, hx, v5, t5, o5⟩
  exact wr_ret (we_name t4 ⟨x, rfl, Nat.le_trans hx.1 (by decide), hx.2⟩)
end
end L2.TL
namespace L2.TL
open PySem PySem.Spec
open PyProof.Rows
abbrev menu : List T := [T.non, T.bl true, T.bl false, T.int 0, T.int 1, T.int (-1), T.int (10 ^ 39), T.tup [], T.lst [], T.dct [], T.tup [T.str "a"], T.lst [T.str "a"], T.dct [(Sum.inr "a", T.str "b")], T.tup [T.str "K"], T.tup [T.tup [T.str "a"]]]
def otherB (t : T) : Bool := showOk t && match tyName t with
  | some m => m != "str"
  | none => false
theorem other_ok {t : T} (h : otherB t = true) : f_law_right [t] = some (.bl true) := by
  unfold otherB at h
  rw [Bool.and_eq_true] at h
  obtain ⟨h1, h2⟩ := h
  cases e : tyName t with
  | none => rw [e] at h2; cases h2
  | some m =>
    rw [e] at h2
    exact right_ok t h1 (both_other t m e (by simpa using h2))
theorem menu_ok : menu.all otherB = true := by decide +kernel
theorem ev_dict {Z : Res} {fs : EFs Z} {τ : List SV} {s s1 : Z.S} {as : List T} {ks : List Key} (h : fs τ s = some (as, s1)) (h2 : as.length = ks.length ∧ ks.Nodup ∧ ks.length ≤ 15) : xDict ks fs τ s = some (.dct (ks.zip as), s1) := by
  unfold xDict
  simp only [h]
  exact if_pos h2
section
variable {d c : Addr}
theorem value_some (s : Deck) : We (f_law_value d c [.adr d] s) fun a _ => f_law_right [a] = some (.bl true) := by
  have hz : ∀ l : List T, l.length ≤ 20 → l.length ≤ sizeLine := fun l h => by
    rw [sizeLine_eq]
    omega
  have e10 : powI (.int 10) (.int 39) = some (.int (10 ^ 39)) := by
    have : ∀ i j : Int, 0 ≤ j ∧ j ≤ 1000000 ∧ i.natAbs < 2 ^ 64 → powI (.int i) (.int j) = some (.int (i ^ j.toNat)) := fun i j h => if_pos h
    exact this 10 39 (by decide)
  have em : ∀ τ : List SV, xLst (Z := deckZ d c) (xCons (xC T.non) (xCons (xC (T.bl true)) (xCons (xC (T.bl false)) (xCons (xC (T.int 0)) (xCons (xC (T.int 1)) (xCons (x1 negI (xC (T.int 1))) (xCons (x2 powI (xC (T.int 10)) (xC (T.int 39))) (xCons (xTup (xNil)) (xCons (xLst (xNil)) (xCons (xDnil) (xCons (xTup (xCons (xC (T.str "a")) (xNil))) (xCons (xLst (xCons (xC (T.str "a")) (xNil))) (xCons (xDict [Sum.inr "a"] (xCons (xC (T.str "b")) (xNil))) (xCons (xTup (xCons (xC (T.str "K")) (xNil))) (xCons (xTup (xCons (xTup (xCons (xC (T.str "a")) (xNil))) (xNil))) (xNil)))))))))))))))) τ s = some (.lst menu, s) := fun τ =>
    ev_lst (ev_cons rfl (ev_cons rfl (ev_cons rfl (ev_cons rfl (ev_cons rfl (ev_cons (ev_x1 rfl rfl) (ev_cons (ev_x2 rfl rfl e10) (ev_cons (ev_tup rfl (hz [] (by decide))) (ev_cons (ev_lst rfl (hz [] (by decide))) (ev_cons rfl (ev_cons (ev_tup rfl (hz [_] (by decide))) (ev_cons (ev_lst rfl (hz [_] (by decide))) (ev_cons (ev_dict (ks := [Sum.inr "a"]) (as := [T.str "b"]) rfl ⟨rfl, List.nodup_cons.mpr ⟨fun h => (by cases h), List.nodup_nil⟩, by decide⟩) (ev_cons (ev_tup rfl (hz [_] (by decide))) (ev_cons (ev_tup (ev_cons (ev_tup rfl (hz [_] (by decide))) rfl) (hz [_] (by decide))) rfl))))))))))))))) (hz _ (by decide))
  refine we_ff rfl (wr_seq (wn_set ⟨_, s, em _, (by simp), wr_ret (we_pickL rfl (we_name rfl ⟨menu, rfl, by decide, by decide, fun t ht s2 => other_ok (List.all_eq_true.mp menu_ok t ht)⟩))⟩))
theorem sFor_inv {Z : Res} {gt : GF} {gb : SF Z} (Inv : List SV → Prop) : ∀ (items : List T), (∀ a ∈ items, ∀ τ s, Inv τ → ∃ τ1, gt a τ = some τ1 ∧ Wn (gb τ1 s) fun τ2 _ => Inv τ2) → ∀ τ s, Inv τ → Wn (sFor gt gb items τ s) fun τ2 _ => Inv τ2
  | [], _, τ, s, i => ⟨τ, s, rfl, i⟩
  | a :: r, h, τ, s, i => by
    obtain ⟨τ1, e1, τ2, s2, e2, i2⟩ := h a (by simp) τ s i
    obtain ⟨τ3, s3, e3, i3⟩ := sFor_inv Inv r (fun b hb => h b (by simp [hb])) τ2 s2 i2
    refine ⟨τ3, s3, ?_, i3⟩
    unfold sFor
    simp only [e1, e2]
    exact e3
theorem ev_for {Z : Res} {fi : EFs Z} {gt : GF} {gb : SF Z} {τ : List SV} {s s1 : Z.S} {items : List T} {o : Option (Out Z.S)} (h : fi τ s = some (items, s1)) (h2 : sFor gt gb items τ s1 = o) : sForE fi gt gb τ s = o := by
  unfold sForE
  simp only [h]
  exact h2
def LI (d : Addr) (τ : List SV) : Prop := τ.length = 6 ∧ τ[1]? = some (.im (.adr d)) ∧ ∃ v, τ[5]? = some v ∧ isOw v = false
theorem LI.set {d : Addr} {τ : List SV} (h : LI d τ) {i : Nat} (h1 : i ≠ 1) (h5 : i ≠ 5) (v : SV) : LI d (τ.set i v) := by
  obtain ⟨a, b, w, e, o⟩ := h
  refine ⟨by rw [List.length_set]; exact a, ?_, w, ?_, o⟩
  · rw [List.getElem?_set_ne h1]; exact b
  · rw [List.getElem?_set_ne h5]; exact e
/-- not _law_right(..) is false -/
theorem ev_good {Z : Res} {f : EF Z} {τ : List SV} {s s1 : Z.S} {t : T} (h : f τ s = some (t, s1)) (r : f_law_right [t] = some (.bl true)) : xbNot (xTru (xCallP f_law_right (xCons f xNil))) τ s = some (false, s1) :=
  ev_bnot (k := true) (ev_tru (ev_callP (ev_cons h ev_nil) r) rfl)
theorem wn_if_f {Z : Res} {ft : EFb Z} {g g' : SF Z} {τ : List SV} {s s1 : Z.S} {P : List SV → Z.S → Prop} (h : ft τ s = some (false, s1)) (hf : Wn (g' τ s1) P) : Wn (sIf ft g g' τ s) P := by
  obtain ⟨τ1, s2, e, p⟩ := hf
  exact ⟨τ1, s2, ev_if_f h e, p⟩
abbrev words : List T := [T.str "", T.str "a", T.str "K", T.str "abcdefgh", T.str "abcdefghi", T.str "Kabcdef7", T.str "Kabcdef78", T.str "aK", T.str "KK", T.str "K0", T.str "0K", T.str "a0", T.str "lock", T.str " a"]
theorem words_sm : words.all (smT 1000) = true := by decide +kernel
theorem right_sm {t : T} (h : smT 1000 t = true) : f_law_right [t] = some (.bl true) := by
  obtain ⟨x, rfl, hx⟩ := smT_ok h
  exact right_str x hx
theorem lets_sm : (signs (Str.ofString "abcdefghijklmnopqrstuvwxyz")).all (fun t => match t with
    | .str x => smB 20 x && smB 20 (Txt.upper x)
    | _ => false) = true := by decide +kernel
theorem digs_sm : (signs (Str.ofString "0123456789")).all (smT 20) = true := by decide +kernel
theorem law_some (s : Deck) (v0 : SV) : Wr (g_law d c [v0, .im (.adr d), .un, .un, .un, .un] s) fun a _ => a = .bl true := by
  have sK : Sm 10 ("K" : Str) := smB_ok (by decide +kernel)
  have sk : Sm 10 ("k" : Str) := smB_ok (by decide +kernel)
  refine wr_seq (wn_imp (P := fun τ _ => LI d τ) ?_ ?_)
  · obtain ⟨τ2, s2, e, p⟩ := sFor_inv (Z := deckZ d c) (LI d) (intsFrom 0 24) (gt := gSet 2) (gb := sIf (xbOr (xbNot (xTru (xCallP (f_law_right) (xCons (xCallF (f_law_string d c) (xCons (xName 1) (xNil))) (xNil))))) (xbNot (xTru (xCallP (f_law_right) (xCons (xCallF (f_law_value d c) (xCons (xName 1) (xNil))) (xNil)))))) (sRet (xC (T.bl false))) (sSkip))
      (fun a _ τ s i => by
        obtain ⟨il, i1, i5⟩ := i
        have j := LI.set ⟨il, i1, i5⟩ (i := 2) (by decide) (by decide) (.im a)
        refine ⟨τ.set 2 (.im a), if_pos (by omega), ?_⟩
        obtain ⟨t, s3, e3, x, rfl, hx⟩ := string_some (d := d) (c := c) s
        obtain ⟨t4, s4, e4, h4⟩ := value_some (d := d) (c := c) s3
        exact wn_if_f (ev_or_f (ev_good (ev_callF (ev_cons (ev_name j.2.1) ev_nil) e3) (right_str x hx)) (ev_good (ev_callF (ev_cons (ev_name j.2.1) ev_nil) e4) h4)) (wn_skip j)) _ s (⟨rfl, rfl, _, rfl, rfl⟩ : LI d [v0, .im (.adr d), .un, .un, .un, .un])
    exact ⟨τ2, s2, ev_for (ev_rng (n := 24) rfl (by decide)) e, p⟩
  intro τ s i
  refine wr_seq (wn_imp (P := fun τ _ => LI d τ) ?_ ?_)
  · obtain ⟨τ2, s2, e, p⟩ := sFor_inv (Z := deckZ d c) (LI d) (signs (Str.ofString "abcdefghijklmnopqrstuvwxyz")) (gt := gSet 3) (gb := sIf (xbOr (xbNot (xTru (xCallP (f_law_right) (xCons (xName 3) (xNil))))) (xbOr (xbNot (xTru (xCallP (f_law_right) (xCons (x2 addX (xC (T.str "k")) (xName 3)) (xNil))))) (xbNot (xTru (xCallP (f_law_right) (xCons (x2 addX (xMeth "str" (strM (fun a => T.str (Txt.upper a)) 5592405) (xName 3) xNil) (xName 3)) (xNil))))))) (sRet (xC (T.bl false))) (sSkip))
      (fun a ha τ s i => by
        obtain ⟨il, i1, i5⟩ := i
        have j := LI.set ⟨il, i1, i5⟩ (i := 3) (by decide) (by decide) (.im a)
        have j3 : (τ.set 3 (.im a))[3]? = some (.im a) := List.getElem?_set_self (by omega)
        refine ⟨τ.set 3 (.im a), if_pos (by omega), ?_⟩
        have q := List.all_eq_true.mp lets_sm a ha
        cases a with
        | str x =>
          have q : (smB 20 x && smB 20 (Txt.upper x)) = true := q
          rw [Bool.and_eq_true] at q
          have h1 := smB_ok q.1
          have h2 := smB_ok q.2
          refine wn_if_f (ev_or_f (ev_good (ev_name j3) (right_str x (h1.mono (by decide)))) (ev_or_f (ev_good (ev_x2 rfl (ev_name j3) (addX_str (by have := h1.1; have := sk.1; omega))) (right_str _ ((sk.app h1).mono (by decide)))) (ev_good (ev_x2 (ev_meth (ev_name j3) rfl ev_nil (strM_ok (by have := h1.1; omega))) (ev_name j3) (addX_str (by have := h1.1; have := h2.1; omega))) (right_str _ ((h2.app h1).mono (by decide)))))) (wn_skip j)
        | _ => cases q) τ s i
    exact ⟨τ2, s2, ev_for (ev_str rfl) e, p⟩
  clear i s τ
  intro τ s i
  refine wr_seq (wn_imp (P := fun τ _ => LI d τ) ?_ ?_)
  · obtain ⟨τ2, s2, e, p⟩ := sFor_inv (Z := deckZ d c) (LI d) (signs (Str.ofString "0123456789")) (gt := gSet 3) (gb := sIf (xbOr (xbNot (xTru (xCallP (f_law_right) (xCons (xName 3) (xNil))))) (xbOr (xbNot (xTru (xCallP (f_law_right) (xCons (x2 addX (xC (T.str "K")) (xName 3)) (xNil))))) (xbNot (xTru (xCallP (f_law_right) (xCons (x2 addX (xC (T.str "k")) (xName 3)) (xNil))))))) (sRet (xC (T.bl false))) (sSkip))
      (fun a ha τ s i => by
        obtain ⟨il, i1, i5⟩ := i
        have j := LI.set ⟨il, i1, i5⟩ (i := 3) (by decide) (by decide) (.im a)
        have j3 : (τ.set 3 (.im a))[3]? = some (.im a) := List.getElem?_set_self (by omega)
        refine ⟨τ.set 3 (.im a), if_pos (by omega), ?_⟩
        obtain ⟨x, rfl, h1⟩ := smT_ok (List.all_eq_true.mp digs_sm a ha)
        exact wn_if_f (ev_or_f (ev_good (ev_name j3) (right_str x (h1.mono (by decide)))) (ev_or_f (ev_good (ev_x2 rfl (ev_name j3) (addX_str (by have := h1.1; have := sK.1; omega))) (right_str _ ((sK.app h1).mono (by decide)))) (ev_good (ev_x2 rfl (ev_name j3) (addX_str (by have := h1.1; have := sk.1; omega))) (right_str _ ((sk.app h1).mono (by decide)))))) (wn_skip j)) τ s i
    exact ⟨τ2, s2, ev_for (ev_str rfl) e, p⟩
  clear i s τ
  intro τ s i
  obtain ⟨il, i1, v5, i5, o5⟩ := i
  have wz : words.length ≤ sizeLine := by
    rw [sizeLine_eq]
    show 14 ≤ 16777216
    decide
  refine wr_seq (wn_set ⟨.lst words, s, ev_lst rfl wz, by omega, ?_⟩)
  have t4 : (τ.set 4 (.im (.lst words)))[4]? = some (.im (.lst words)) := List.getElem?_set_self (by omega)
  have t5 : (τ.set 4 (.im (.lst words)))[5]? = some v5 := by rw [List.getElem?_set_ne (by decide)]; exact i5
  have tl : (τ.set 4 (.im (.lst words))).length = 6 := by rw [List.length_set]; exact il
  generalize τ.set 4 (.im (.lst words)) = τ' at t4 t5 tl
  have lg := lcGo_filter (Z := deckZ d c) (gt := gSet 5) (ft := xbNot (xTru (xCallP f_law_right (xCons (xName 5) xNil)))) (fe := xName 5) (τ := wipeT τ' [5]) (p := fun _ => false) (s := s) words fun a ha => by
    have l6 : (wipeT τ' [5]).length = 6 := by rw [wipeT_length]; exact tl
    have e5 : ((wipeT τ' [5]).set 5 (.im a))[5]? = some (.im a) := List.getElem?_set_self (by omega)
    exact ⟨_, if_pos (by omega), ev_good (ev_name e5) (right_sm (List.all_eq_true.mp words_sm a ha)), ev_name e5⟩
  have fn : words.filter (fun _ => false) = [] := rfl
  rw [fn] at lg
  refine wr_ret ⟨_, s, ev_x2 (ev_lc (ev_seqL (ev_name t4)) wz ?_ lg) (ev_lst rfl (by rw [sizeLine_eq]; decide)) (eq_nil false [] fun _ h => by cases h), rfl⟩
  simp only [List.all_cons, List.all_nil, t5, o5]
  rfl
end
end L2.TL
namespace L2.TL
open PySem PySem.Spec
open PyProof.Rows
def spLaw (K : PySem.W.Frag) : Sp := fun vs H Q _ => ∃ (a : Addr) (ns : List Int), vs = [.ref a] ∧ SqL K H a (ns.map V.int) ∧ ns.length ≤ 63 ∧ ∀ H' : Hp, Q (.bl true) H'
def noH : Hp := fun _ => none
section
variable {P : Program} {w : World} {K : PySem.W.Frag} {mg : Str → Option Value} {base : Heap}
theorem ok_law (W : Txt K mg) {f : Addr} {fd : FuncData} (F : Fun K "law" "law" s_law f fd) : FnG P w K mg base 4 f fd ["_law_script"] (spLaw K) := by
  refine fn_g F sc_law (fun vs H Q E h => ?_) fun cdv A out z H vs Q E gd hr h => ?_
  · obtain ⟨a, ns, rfl, _⟩ := h
    rfl
  · obtain ⟨a, ns, rfl, hS, hl, q⟩ := h
    refine ⟨_, pss_cons (ps_set (i := 1) sc_law.nd rfl (.inl rfl) (pe_call (ok_deck W.d_law_deck.F ⟨W.b_int, W.b_list⟩) (hr.mono (by decide)) (by rfl) W.d_law_deck.m W.d_law_deck.F.kp W.d_law_deck.b .nil pass0 (pa_cons (pv 0) pa_nil)))
      (pss_ex fun i : Addr × Addr => (rest_law W i.1 i.2 f cdv A out z H E gd hr).pss), ?_⟩
    refine ⟨_, rfl, a, ns, rfl, hS, hl, fun H' d c s sub hd hc dk => ?_⟩
    obtain ⟨t, s', e, rfl⟩ := law_some (d := d) (c := c) s .un
    refine ⟨(d, c), noH, noH, [.un, .im (.adr d), .un, .un, .un, .un], s, _, ?_, e, ?_⟩
    · have no : ∀ (i : Nat) (t : L2.TL.T), ([.un, .im (.adr d), .un, .un, .un, .un] : List SV)[i]? ≠ some (.ow t) := fun i t h => by
        match i, h with
        | 0, h => cases h
        | 1, h => cases h
        | 2, h => cases h
        | 3, h => cases h
        | 4, h => cases h
        | 5, h => cases h
        | n + 6, h => cases h
      exact
        { sub := fun _ _ h => by cases h
          res := dk
          rf := fun _ _ => ⟨rfl, rfl⟩
          fr := fun _ _ h => by cases h
          len := rfl
          im := fun i t h => by
            match i, h with
            | 0, h => cases h
            | 1, h =>
              cases h
              exact ⟨.ref d, rfl, rfl⟩
            | 2, h => cases h
            | 3, h => cases h
            | 4, h => cases h
            | 5, h => cases h
            | n + 6, h => cases h
          ow := fun i t h => absurd h (no i t)
          inj := fun i j t u p _ h => absurd h (no i t) }
    · intro I' H1 v _ _ hv
      have hv : v = .bl true := hv
      subst hv
      exact q _
end
end L2.TL
namespace L2.TL
open PySem PySem.Spec
open PyProof.Rows
/-! the end: what the top has written -/
theorem all_mk {l : PySem.W.OpenLaw} {w : World} {K : PySem.W.Frag} {h : Heap} {mg : Str → Option Value} {fa : Addr} (X : K.In h) (G : h.Ns mainGlobals mg) (hfa : mg "law" = some (.ref fa))
    {f0 : Addr} {od0 an0 : Option Addr} {sl0 : Array (Option Value)} {oc0 kV0 dc0 pm0 cd0 ct0 : Value}
    (a0 : PySem.W.nsIn K mainGlobals "is_word" = some (some (.ref f0))) (l0 : K.lookup f0 = some ⟨oc0, od0, .func (PySem.W.fnOf "is_word" "is_word" (defArgs s_is_word) (defBody s_is_word) (defScope s_is_word) .none kV0 dc0 pm0 an0 cd0 ct0), sl0⟩) (c0 : PySem.W.codeIn K cd0 "is_word" = true) (k0 : PySem.W.keepIn K (.ref f0) = true)
    {f1 : Addr} {od1 an1 : Option Addr} {sl1 : Array (Option Value)} {oc1 kV1 dc1 pm1 cd1 ct1 : Value}
    (a1 : PySem.W.nsIn K mainGlobals "is_name" = some (some (.ref f1))) (l1 : K.lookup f1 = some ⟨oc1, od1, .func (PySem.W.fnOf "is_name" "is_name" (defArgs s_is_name) (defBody s_is_name) (defScope s_is_name) .none kV1 dc1 pm1 an1 cd1 ct1), sl1⟩) (c1 : PySem.W.codeIn K cd1 "is_name" = true) (k1 : PySem.W.keepIn K (.ref f1) = true)
    {f2 : Addr} {od2 an2 : Option Addr} {sl2 : Array (Option Value)} {oc2 kV2 dc2 pm2 cd2 ct2 : Value}
    (a2 : PySem.W.nsIn K mainGlobals "_law_deck" = some (some (.ref f2))) (l2 : K.lookup f2 = some ⟨oc2, od2, .func (PySem.W.fnOf "_law_deck" "_law_deck" (defArgs sDeck) (defBody sDeck) (defScope sDeck) .none kV2 dc2 pm2 an2 cd2 ct2), sl2⟩) (c2 : PySem.W.codeIn K cd2 "_law_deck" = true) (k2 : PySem.W.keepIn K (.ref f2) = true)
    {f3 : Addr} {od3 an3 : Option Addr} {sl3 : Array (Option Value)} {oc3 kV3 dc3 pm3 cd3 ct3 : Value}
    (a3 : PySem.W.nsIn K mainGlobals "_law_draw" = some (some (.ref f3))) (l3 : K.lookup f3 = some ⟨oc3, od3, .func (PySem.W.fnOf "_law_draw" "_law_draw" (defArgs sDraw) (defBody sDraw) (defScope sDraw) .none kV3 dc3 pm3 an3 cd3 ct3), sl3⟩) (c3 : PySem.W.codeIn K cd3 "_law_draw" = true) (k3 : PySem.W.keepIn K (.ref f3) = true)
    {f4 : Addr} {od4 an4 : Option Addr} {sl4 : Array (Option Value)} {oc4 kV4 dc4 pm4 cd4 ct4 : Value}
    (a4 : PySem.W.nsIn K mainGlobals "_law_pick" = some (some (.ref f4))) (l4 : K.lookup f4 = some ⟨oc4, od4, .func (PySem.W.fnOf "_law_pick" "_law_pick" (defArgs s_law_pick) (defBody s_law_pick) (defScope s_law_pick) .none kV4 dc4 pm4 an4 cd4 ct4), sl4⟩) (c4 : PySem.W.codeIn K cd4 "_law_pick" = true) (k4 : PySem.W.keepIn K (.ref f4) = true)
    {f5 : Addr} {od5 an5 : Option Addr} {sl5 : Array (Option Value)} {oc5 kV5 dc5 pm5 cd5 ct5 : Value}
    (a5 : PySem.W.nsIn K mainGlobals "_law_is_word" = some (some (.ref f5))) (l5 : K.lookup f5 = some ⟨oc5, od5, .func (PySem.W.fnOf "_law_is_word" "_law_is_word" (defArgs s_law_is_word) (defBody s_law_is_word) (defScope s_law_is_word) .none kV5 dc5 pm5 an5 cd5 ct5), sl5⟩) (c5 : PySem.W.codeIn K cd5 "_law_is_word" = true) (k5 : PySem.W.keepIn K (.ref f5) = true)
    {f6 : Addr} {od6 an6 : Option Addr} {sl6 : Array (Option Value)} {oc6 kV6 dc6 pm6 cd6 ct6 : Value}
    (a6 : PySem.W.nsIn K mainGlobals "_law_is_name" = some (some (.ref f6))) (l6 : K.lookup f6 = some ⟨oc6, od6, .func (PySem.W.fnOf "_law_is_name" "_law_is_name" (defArgs s_law_is_name) (defBody s_law_is_name) (defScope s_law_is_name) .none kV6 dc6 pm6 an6 cd6 ct6), sl6⟩) (c6 : PySem.W.codeIn K cd6 "_law_is_name" = true) (k6 : PySem.W.keepIn K (.ref f6) = true)
    {f7 : Addr} {od7 an7 : Option Addr} {sl7 : Array (Option Value)} {oc7 kV7 dc7 pm7 cd7 ct7 : Value}
    (a7 : PySem.W.nsIn K mainGlobals "_law_string" = some (some (.ref f7))) (l7 : K.lookup f7 = some ⟨oc7, od7, .func (PySem.W.fnOf "_law_string" "_law_string" (defArgs s_law_string) (defBody s_law_string) (defScope s_law_string) .none kV7 dc7 pm7 an7 cd7 ct7), sl7⟩) (c7 : PySem.W.codeIn K cd7 "_law_string" = true) (k7 : PySem.W.keepIn K (.ref f7) = true)
    {f8 : Addr} {od8 an8 : Option Addr} {sl8 : Array (Option Value)} {oc8 kV8 dc8 pm8 cd8 ct8 : Value}
    (a8 : PySem.W.nsIn K mainGlobals "_law_value" = some (some (.ref f8))) (l8 : K.lookup f8 = some ⟨oc8, od8, .func (PySem.W.fnOf "_law_value" "_law_value" (defArgs s_law_value) (defBody s_law_value) (defScope s_law_value) .none kV8 dc8 pm8 an8 cd8 ct8), sl8⟩) (c8 : PySem.W.codeIn K cd8 "_law_value" = true) (k8 : PySem.W.keepIn K (.ref f8) = true)
    {f9 : Addr} {od9 an9 : Option Addr} {sl9 : Array (Option Value)} {oc9 kV9 dc9 pm9 cd9 ct9 : Value}
    (a9 : PySem.W.nsIn K mainGlobals "_law_right" = some (some (.ref f9))) (l9 : K.lookup f9 = some ⟨oc9, od9, .func (PySem.W.fnOf "_law_right" "_law_right" (defArgs s_law_right) (defBody s_law_right) (defScope s_law_right) .none kV9 dc9 pm9 an9 cd9 ct9), sl9⟩) (c9 : PySem.W.codeIn K cd9 "_law_right" = true) (k9 : PySem.W.keepIn K (.ref f9) = true)
    {f10 : Addr} {od10 an10 : Option Addr} {sl10 : Array (Option Value)} {oc10 kV10 dc10 pm10 cd10 ct10 : Value}
    (a10 : PySem.W.nsIn K mainGlobals "law" = some (some (.ref f10))) (l10 : K.lookup f10 = some ⟨oc10, od10, .func (PySem.W.fnOf "law" "law" (defArgs s_law) (defBody s_law) (defScope s_law) .none kV10 dc10 pm10 an10 cd10 ct10), sl10⟩) (c10 : PySem.W.codeIn K cd10 "law" = true) (k10 : PySem.W.keepIn K (.ref f10) = true)
    (z_int : PySem.W.nsIn K mainGlobals "int" = some none)
    (z_isinstance : PySem.W.nsIn K mainGlobals "isinstance" = some none)
    (z_len : PySem.W.nsIn K mainGlobals "len" = some none)
    (z_list : PySem.W.nsIn K mainGlobals "list" = some none)
    (z_range : PySem.W.nsIn K mainGlobals "range" = some none)
    (z_repr : PySem.W.nsIn K mainGlobals "repr" = some none)
    (z_str : PySem.W.nsIn K mainGlobals "str" = some none)
    {t_LONGEST : Tok} (v_LONGEST : PySem.W.nsIn K mainGlobals "LONGEST" = some (some (.int 8 t_LONGEST)))
    : ∃ fd : FuncData, (∀ (s : Shared) (v : Value), BindsTo s fd ⟨[v], []⟩ [("_law_script", v)]) ∧ ∀ base : Heap, K.In base → base.Ns mainGlobals mg → FnG l.prog w K mg base 4 fa fd ["_law_script"] (spLaw K) := by
  have e := hfa.symm.trans (PySem.W.mg_of X G a10)
  cases e
  have F0 := fun_mk (st := s_is_word) l0 c0 k0
  have B0 := F0.binds (ps := ["thing"]) fun _ _ _ _ _ _ us hl => match us, hl with | [_], _ => rfl
  have F1 := fun_mk (st := s_is_name) l1 c1 k1
  have B1 := F1.binds (ps := ["thing"]) fun _ _ _ _ _ _ us hl => match us, hl with | [_], _ => rfl
  have F2 := fun_mk (st := sDeck) l2 c2 k2
  have B2 := F2.binds (ps := ["_law_script"]) fun _ _ _ _ _ _ us hl => match us, hl with | [_], _ => rfl
  have F3 := fun_mk (st := sDraw) l3 c3 k3
  have B3 := F3.binds (ps := ["_law_deck_here", "_law_many"]) fun _ _ _ _ _ _ us hl => match us, hl with | [_, _], _ => rfl
  have F4 := fun_mk (st := s_law_pick) l4 c4 k4
  have B4 := F4.binds (ps := ["_law_deck_here", "_law_some"]) fun _ _ _ _ _ _ us hl => match us, hl with | [_, _], _ => rfl
  have F5 := fun_mk (st := s_law_is_word) l5 c5 k5
  have B5 := F5.binds (ps := ["_law_it"]) fun _ _ _ _ _ _ us hl => match us, hl with | [_], _ => rfl
  have F6 := fun_mk (st := s_law_is_name) l6 c6 k6
  have B6 := F6.binds (ps := ["_law_it"]) fun _ _ _ _ _ _ us hl => match us, hl with | [_], _ => rfl
  have F7 := fun_mk (st := s_law_string) l7 c7 k7
  have B7 := F7.binds (ps := ["_law_deck_here"]) fun _ _ _ _ _ _ us hl => match us, hl with | [_], _ => rfl
  have F8 := fun_mk (st := s_law_value) l8 c8 k8
  have B8 := F8.binds (ps := ["_law_deck_here"]) fun _ _ _ _ _ _ us hl => match us, hl with | [_], _ => rfl
  have F9 := fun_mk (st := s_law_right) l9 c9 k9
  have B9 := F9.binds (ps := ["_law_it"]) fun _ _ _ _ _ _ us hl => match us, hl with | [_], _ => rfl
  have W : Txt K mg :=
    { b_int := PySem.W.mg_none_of X G z_int
      b_isinstance := PySem.W.mg_none_of X G z_isinstance
      b_len := PySem.W.mg_none_of X G z_len
      b_list := PySem.W.mg_none_of X G z_list
      b_range := PySem.W.mg_none_of X G z_range
      b_repr := PySem.W.mg_none_of X G z_repr
      b_str := PySem.W.mg_none_of X G z_str
      c_LONGEST := ⟨_, PySem.W.mg_of X G v_LONGEST⟩
      d_is_word := ⟨_, _, F0, PySem.W.mg_of X G a0, B0⟩
      d_is_name := ⟨_, _, F1, PySem.W.mg_of X G a1, B1⟩
      d_law_deck := ⟨_, _, F2, PySem.W.mg_of X G a2, B2⟩
      d_law_draw := ⟨_, _, F3, PySem.W.mg_of X G a3, B3⟩
      d_law_pick := ⟨_, _, F4, PySem.W.mg_of X G a4, B4⟩
      d_law_is_word := ⟨_, _, F5, PySem.W.mg_of X G a5, B5⟩
      d_law_is_name := ⟨_, _, F6, PySem.W.mg_of X G a6, B6⟩
      d_law_string := ⟨_, _, F7, PySem.W.mg_of X G a7, B7⟩
      d_law_value := ⟨_, _, F8, PySem.W.mg_of X G a8, B8⟩
      d_law_right := ⟨_, _, F9, PySem.W.mg_of X G a9, B9⟩ }
  exact ⟨PySem.W.fnOf "law" "law" (defArgs s_law) (defBody s_law) (defScope s_law) .none kV10 dc10 pm10 an10 cd10 ct10, fun s v => .of_eq rfl, fun base _ _ => ok_law W (fun_mk (st := s_law) l10 c10 k10)⟩
end L2.TL
open PySem PySem.W PyProof.Rows in
set_option maxRecDepth 100000 in
set_option maxHeartbeats 0 in
theorem PySem.Challenge.cw_circlekeep_k02_words_and_names_of_any_va_holds : PySem.Challenge.rw_circlekeep_k02_words_and_names_of_any_va.Holds := by
  w_on; o_law; k_head; (case hw => w_witness2)
  k_fill
  refine L2.TL.walk_g (l := PySem.Challenge.rw_circlekeep_k02_words_and_names_of_any_va) (n := 63) (k := 4) (x := "_law_script") (sp := L2.TL.spLaw) rfl (by decide) rfl ⟨rfl, by decide, by decide⟩ (fun w h Y => PySem.W.kIn_of Y) ?F (fun _ _ a ns hl _ hS => ⟨a, ns, rfl, hS, hl, fun _ => rfl⟩)
  case F =>
    intro w mg fa h KX G hmg
    refine' L2.TL.all_mk KX G hmg ?a0 ?l0 ?c0 ?k0 ?a1 ?l1 ?c1 ?k1 ?a2 ?l2 ?c2 ?k2 ?a3 ?l3 ?c3 ?k3 ?a4 ?l4 ?c4 ?k4 ?a5 ?l5 ?c5 ?k5 ?a6 ?l6 ?c6 ?k6 ?a7 ?l7 ?c7 ?k7 ?a8 ?l8 ?c8 ?k8 ?a9 ?l9 ?c9 ?k9 ?a10 ?l10 ?c10 ?k10 ?z_int ?z_isinstance ?z_len ?z_list ?z_range ?z_repr ?z_str ?v_LONGEST
    (case a0 => k_is)
    (case l0 => k_is)
    (case c0 => k_is)
    (case k0 => k_is)
    (case a1 => k_is)
    (case l1 => k_is)
    (case c1 => k_is)
    (case k1 => k_is)
    (case a2 => k_is)
    (case l2 => k_is)
    (case c2 => k_is)
    (case k2 => k_is)
    (case a3 => k_is)
    (case l3 => k_is)
    (case c3 => k_is)
    (case k3 => k_is)
    (case a4 => k_is)
    (case l4 => k_is)
    (case c4 => k_is)
    (case k4 => k_is)
    (case a5 => k_is)
    (case l5 => k_is)
    (case c5 => k_is)
    (case k5 => k_is)
    (case a6 => k_is)
    (case l6 => k_is)
    (case c6 => k_is)
    (case k6 => k_is)
    (case a7 => k_is)
    (case l7 => k_is)
    (case c7 => k_is)
    (case k7 => k_is)
    (case a8 => k_is)
    (case l8 => k_is)
    (case c8 => k_is)
    (case k8 => k_is)
    (case a9 => k_is)
    (case l9 => k_is)
    (case c9 => k_is)
    (case k9 => k_is)
    (case a10 => k_is)
    (case l10 => k_is)
    (case c10 => k_is)
    (case k10 => k_is)
    (case z_int => k_is)
    (case z_isinstance => k_is)
    (case z_len => k_is)
    (case z_list => k_is)
    (case z_range => k_is)
    (case z_repr => k_is)
    (case z_str => k_is)
    (case v_LONGEST => k_is)
