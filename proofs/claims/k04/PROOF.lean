import PyProof.Rows.All
import Wide.All
import OpenK.AllK
import Wide.FinOn
import HandS.ForMost
import HandS.WordsExc
import HandS.TupAny
import KE.KDictZip
import HandS.ExcInit
import HandS.IsInst
import HandS.StrMore
import HandS.Flow
import HandS.Style
import HandS.FStr
import HandS.List
import HandS.Star
import PyProof.ReprRoads
import HandS.Zip
import HandS.More
import HandS.SortRule
import HandS.Dict
import HandS.ExcField
import HandS.ExcValue
import HandS.ExcIs
import KE.KExcIs
import HandS.ExcOwn
import HandS.DictComp
import KE.KEqNest
import HandS.HotCalls
import PySem.Challenge.RW_circlekeep_k04_books_of_any_values
import PyProof.ReprText
import PyProof.Rows.ReprOcc
set_option Elab.async false
set_option linter.all false
set_option maxRecDepth 100000
set_option maxHeartbeats 4000000
set_option autoImplicit false
/-! TLt: tuples of which it is known that they have no dict. -/
namespace L2.TL
open PySem PySem.Spec
open PyProof.Rows
/-- the tuple at a is one of the built-in ones, without a dict -/
def Pl (K : PySem.W.Frag) (I : Hp) (a : Addr) : Prop := (∃ o u, I a = some (.frz o u) ∧ o.cls = .type "tuple" ∧ o.dict = none) ∨ ∃ o, K.lookup a = some o ∧ o.cls = .type "tuple" ∧ o.dict = none
def SqP (K : PySem.W.Frag) (I : Hp) (a : Addr) (xs : List V) : Prop := SqT K I a xs ∧ Pl K I a
theorem sqt_mono {K : PySem.W.Frag} {I I' : Hp} {a : Addr} {xs : List V} (m : Same I I') (h : SqT K I a xs) : SqT K I' a xs := by
  rcases h with (h | ⟨o, h⟩) | h
  · exact .inl (.inl (m _ _ h))
  · exact .inl (.inr ⟨o, m _ _ h⟩)
  · exact .inr h
theorem sqp_mono {K : PySem.W.Frag} {I I' : Hp} {a : Addr} {xs : List V} (m : Same I I') (h : SqP K I a xs) : SqP K I' a xs := by
  refine ⟨sqt_mono m h.1, ?_⟩
  rcases h.2 with ⟨o, u, h1, h2⟩ | h
  · exact .inl ⟨o, u, m _ _ h1, h2⟩
  · exact .inr h
theorem sqp_new {K : PySem.W.Frag} {I : Hp} {a : Addr} {xs : List V} {ob : Obj} (h : I a = some (.frz ob (.tup xs))) (h1 : ob.cls = .type "tuple") (h2 : ob.dict = none) : SqP K I a xs := ⟨.inl (.inr ⟨ob, h⟩), .inl ⟨ob, _, h, h1, h2⟩⟩
/-- a new tuple is laid -/
def NewT (H : Hp) (xs : List V) (Q : VK) : Prop := ∀ p ob, H p = none → ob.cls = .type "tuple" → ob.dict = none → Q (.ref p) (upd H p (.frz ob (.tup xs)))
section
variable {X : Cx} {es : List Expr} {t : TA} {pos : Pos}
theorem laidT {pins : List (Addr × Obj)} {σ : St} {H : Hp} {s : Shared} {xs : List V} {its : List Value} {tk : Nat} (I : Inv X pins σ H s) (r : Vals xs its) (z : xs.length ≤ sizeLine) :
    Inv X pins σ (upd H s.heap.objs.size (.frz { cls := .type "tuple", data := .seq its.toArray } (.tup xs))) { s with heap := s.heap.push { cls := .type "tuple", data := .seq its.toArray }, toks := tk } :=
  I.laid (fun b o e => Heap.get?_push_of_some _ e) (Nat.le_refl _) ⟨Heap.get?_push_size _ rfl, z, its, r, IsTup.new _ _⟩
/-- (e, ..) -/
def tTupN (t : TA) : TE := fun σ H Q => t σ H fun xs H1 => xs.length ≤ sizeLine ∧ NewT H1 xs Q
theorem pe_tupN {k : Nat} (h : PA X es t) : PE X (.Tuple es k pos) (tTupN t) := by
  refine ⟨fun pins s σ H Q I hq => wpAny_Tuple_spliced (thn (h.run pos pins s σ H _ I hq) ?_)⟩
  rintro us s1 ⟨xs, H1, I1, r, z, q⟩
  refine ⟨by rw [← r.length]; exact z, ?_⟩
  exact ⟨.ref s1.heap.objs.size, _, laidT (tk := s1.toks) I1 r z, rfl, q _ _ (I1.hok.fresh (Nat.le_refl _)) rfl rfl⟩
/-- tuple(x) -/
def rTupleN (K : PySem.W.Frag) : List V → Hp → VK → Prop := fun xs H Q => ∃ p ys, xs = [.ref p] ∧ ((SqL K H p ys ∧ NewT H ys Q) ∨ (SqT K H p ys ∧ Q (.ref p) H))
theorem call_tupleN : CallR X (.type "tuple") (rTupleN X.K) := by
  rintro pins s σ H xs us Q I r ⟨p, ys, rfl, h⟩
  obtain ⟨u, rfl, rx⟩ := vals1 r
  cases rx
  rcases h with ⟨hq, q⟩ | ⟨hq, q⟩
  · obtain ⟨its, rv, pl, hz⟩ := I.list hq
    have hn := rv.length
    refine call_tuple_list pl.isList (fun h' kp => ?_) (by simp only [List.size_toArray] <;> omega)
    have J : Inv X pins σ H { s with heap := h' } := I.kept (t' := s.toks) kp
    exact ⟨.ref h'.objs.size, _, laidT (tk := s.toks) J rv hz, rfl, q _ _ (J.hok.fresh (Nat.le_refl _)) rfl rfl⟩
  · obtain ⟨its, rv, pl, _⟩ := I.tuple hq
    exact call_tuple_same pl ⟨.ref p, H, I, rfl, q⟩
/-- t + u -/
def rCatN (K : PySem.W.Frag) : R2 := fun x y H Q => ∃ a b xs ys, x = .ref a ∧ y = .ref b ∧ SqT K H a xs ∧ SqT K H b ys ∧ xs.length + ys.length ≤ sizeLine ∧
  (xs = [] → Q (.ref b) H) ∧ (xs ≠ [] → ys = [] → Q (.ref a) H) ∧ (xs ≠ [] → ys ≠ [] → NewT H (xs ++ ys) Q)
theorem op_catN : OpR X (binaryOp .Add) (rCatN X.K) := by
  rintro pins s σ H x y v u Q I rx ry ⟨a, b, xs, ys, rfl, rfl, ha, hb, hz, q0, q1, q2⟩
  by_cases hx : xs = []
  · refine op_catA pins s σ H _ _ v u Q I rx ry ⟨a, b, xs, ys, rfl, rfl, ha, hb, hz, q0, fun h => absurd hx h, fun h => absurd hx h⟩
  by_cases hy : ys = []
  · refine op_catA pins s σ H _ _ v u Q I rx ry ⟨a, b, xs, ys, rfl, rfl, ha, hb, hz, q0, q1, fun _ h => absurd hy h⟩
  cases rx
  cases ry
  obtain ⟨its, r1, p1, _⟩ := I.tuple ha
  obtain ⟨its2, r2, p2, _⟩ := I.tuple hb
  refine HT.cat_tup p1 p2 (fun z => hx (r1.nil_iff.mp z)) (fun z => absurd (r2.nil_iff.mp z) hy) (fun _ => ?_) (by rw [← r1.length, ← r2.length]; exact hz)
  exact ⟨.ref s.heap.objs.size, _, laidT (tk := s.toks) I (r1.append r2) (by rw [List.length_append]; exact hz), rfl, q2 hx hy _ _ (I.hok.fresh (Nat.le_refl _)) rfl rfl⟩
/-- t[lo:hi] -/
def rSlN (K : PySem.W.Frag) : V → Option Int → Option Int → Hp → VK → Prop := fun x lo hi H Q => ∃ a xs, x = .ref a ∧ SqT K H a xs ∧
  (HT.sIx xs.length 0 lo = 0 ∧ HT.sIx xs.length xs.length hi = xs.length → Q (.ref a) H) ∧ (¬ (HT.sIx xs.length 0 lo = 0 ∧ HT.sIx xs.length xs.length hi = xs.length) → NewT H (cutV xs lo hi) Q)
theorem sl_tupN : SlR X (rSlN X.K) := by
  rintro pins s σ H x v vl vu lo hi sl Q I rx hs pl pu ⟨a, xs, rfl, hx, q1, q2⟩
  by_cases hw : HT.sIx xs.length 0 lo = 0 ∧ HT.sIx xs.length xs.length hi = xs.length
  · exact sl_tupA pins s σ H _ v vl vu lo hi sl Q I rx hs pl pu ⟨a, xs, rfl, hx, q1, fun h => absurd hw h⟩
  cases rx
  obtain ⟨its, r, ht, hz⟩ := I.tuple hx
  have n1 : its.toArray.size = xs.length := by rw [List.size_toArray, r.length]
  refine ⟨"tuple", _, PyProof.Rows.slot_tuple_getitem.lookup, ht.typeIs, HT.getItem_tuple_cut ht hs pl pu (by rw [n1]; exact hw) ?_ (by rw [n1]; exact hz)⟩
  rw [n1]
  have rc : Vals (cutV xs lo hi) _ := (r.drop (HT.sIx xs.length 0 lo)).take (HT.sIx xs.length xs.length hi - HT.sIx xs.length 0 lo)
  exact ⟨.ref s.heap.objs.size, _, laidT (tk := s.toks) I rc (Nat.le_trans (cutV_length xs lo hi) hz), rfl, q2 hw _ _ (I.hok.fresh (Nat.le_refl _)) rfl rfl⟩
theorem keys_of {h : Heap} : ∀ (prs : List (Key × Value)) (ps : List Addr), (∀ (j : Nat) (q : Key × Value), prs[j]? = some q → ∃ b u, ps[j]? = some b ∧ IsTup h b #[u, q.2] ∧ keyIs q.1 u = true) →
    ∃ ks : List (Value × Value), ks.length = prs.length ∧ ∀ (j : Nat) (q : Key × Value), prs[j]? = some q → ∃ b u, ps[j]? = some b ∧ ks[j]? = some (u, q.2) ∧ IsTup h b #[u, q.2] ∧ keyIs q.1 u = true
  | [], _, _ => ⟨[], rfl, fun j q e => by simp at e⟩
  | p :: r, [], hp => by
    obtain ⟨b, u, e, _⟩ := hp 0 p rfl
    simp at e
  | p :: r, b :: ps, hp => by
    obtain ⟨b', u, e, e2, e3⟩ := hp 0 p rfl
    simp at e
    subst e
    obtain ⟨ks, hl, hk⟩ := keys_of r ps fun j q e => by simpa using hp (j + 1) q (by simpa using e)
    refine ⟨(u, p.2) :: ks, by simp [hl], fun j q e => ?_⟩
    cases j with
    | zero =>
      simp at e
      subst e
      exact ⟨b, u, rfl, rfl, e2, e3⟩
    | succ j =>
      simpa using hk j q (by simpa using e)
/-- dict(t), t a tuple of pairs -/
def rDictT (K : PySem.W.Frag) : List V → Hp → VK → Prop := fun xs H Q => ∃ (a : Addr) (ps : List Addr) (kvs : List (Key × V)), xs = [.ref a] ∧ SqP K H a (ps.map V.ref) ∧ Paired (fun p kv => SqT K H p [kV kv.1, kv.2]) ps kvs ∧
  ∀ p, H p = none → Q (.ref p) (upd H p (.dK (mergeK [] kvs)))
theorem call_dictT (hcalm : X.calm = true) : CallR X (.type "dict") (rDictT X.K) := by
  rintro pins s σ H xs us Q I r ⟨a, ps, kvs, rfl, hq, hp, q⟩
  obtain ⟨u, rfl, rx⟩ := vals1 r
  cases rx
  obtain ⟨its, rv, ht, hz⟩ := I.tuple hq.1
  have ei := refs_at rv
  subst ei
  rw [List.length_map] at hz
  obtain ⟨prs, rel, hl, hpr⟩ := pairs_of I hp
  obtain ⟨o, ho, hc, n, hdat⟩ := ht
  have hd : o.dict = none := by
    rcases hq.2 with ⟨o', u, h1, _, h2⟩ | ⟨o', h1, _, h2⟩
    · have ok : ObjOk X.prog X.w H s.heap a (.frz o' u) := I.hok a _ h1
      have := ok.1
      rw [ho] at this
      cases this
      exact h2
    · have := I.kIn a o' h1
      rw [ho] at this
      cases this
      exact h2
  obtain ⟨ks, kn, kat⟩ := keys_of prs ps hpr
  refine PySem.call_dict_pairs (knd := mixKind X.prog X.w) (kvs := prs) (PairArg.tuple (prog := X.prog) (w := X.w) a (ps.map Value.ref).toArray (fun j => (ps[j]?).getD 0) ks) (I.ok.hd hcalm)
    ⟨⟨o, n, ho, hc, hd, hdat⟩, ⟨by simp [kn, hl], fun j k v e => ?_⟩⟩ ⟨by rw [kn], fun i k v e => ?_⟩ (by rw [kn, hl]; exact hz) fun h' tk hd' k => ?_
  · have hj : j < prs.length := by
      rw [← kn]
      exact (List.getElem?_eq_some_iff.mp e).1
    obtain ⟨b, u, e1, e2, e3, _⟩ := kat j prs[j] (List.getElem?_eq_getElem hj)
    rw [e] at e2
    cases e2
    exact ⟨by simp [e1], .inl (by
      simp only [e1, Option.getD_some]
      exact e3)⟩
  · have hj : i < prs.length := by
      rw [← kn]
      exact (List.getElem?_eq_some_iff.mp e).1
    obtain ⟨b, u, _, e2, _, e4⟩ := kat i prs[i] (List.getElem?_eq_getElem hj)
    have e : ks[i]? = some (k, v) := e
    rw [e] at e2
    cases e2
    exact ⟨_, List.getElem?_eq_getElem hj, e4⟩
  · have hm : (s.heap.objs.size == sysModules) = false := beq_eq_false_iff_ne.mpr (Nat.ne_of_gt I.big)
    have hlen : (mergeK [] kvs).length ≤ sizeLine := by
      have := length_mergeK kvs []
      rw [List.length_nil, Nat.zero_add, rel.length, hl] at this
      exact Nat.le_trans this hz
    refine ⟨.ref s.heap.objs.size, upd H s.heap.objs.size (.dK (mergeK [] kvs)), I.laid (t' := tk) (fun b o e => k b o (by simp) e) (Nat.le_refl _) ?_, rfl, q _ (I.hok.fresh (Nat.le_refl _))⟩
    exact ⟨hlen, hm, merged [] prs, KV.merge rel .nil, hd'⟩
end
end L2.TL
/-! TL0: trees, what stands for a tree, the state of a body told by trees. -/
namespace L2.TL
open PySem PySem.Spec
open PyProof.Rows
/-- what a value is, without places -/
inductive T where
  | non | bl (b : Bool) | int (i : Int) | str (x : Str)
  | tup (ts : List T) | lst (ts : List T) | dct (ps : List (Key × T)) | ins (C : Addr) (fs : List (Str × T)) | adr (a : Addr) | exc (a d C : Addr) (f : Str) (t : T) | ltp (ts : List T) | exv (C : Addr) (fs : List (Str × T))
/-- an exception of the class at C that is held as a value, its fields xs -/
def ExA (I : Hp) (a C : Addr) (xs : List (Str × V)) : Prop := ∃ (φ : Heap → Prop) (od : Option Addr), I a = some (.ext φ) ∧ (∀ h, φ h → ∃ oe vs, h.get? a = some oe ∧ oe.cls = .ref C ∧ oe.dict = od ∧ oe.data = .fields vs) ∧
  ((od = none ∧ xs = []) ∨ ∃ d, od = some d ∧ (I d = some (.xd xs) ∨ I d = some (exd d xs)))
theorem ExA.mono {I I2 : Hp} {a C : Addr} {xs : List (Str × V)} (m : Same I I2) (h : ExA I a C xs) : ExA I2 a C xs := by
  obtain ⟨φ, od, e, k, r⟩ := h
  exact ⟨φ, od, m _ _ e, k, r.imp id fun ⟨d, e1, e2⟩ => ⟨d, e1, e2.imp (m _ _) (m _ _)⟩⟩
mutual
/-- the value v stands for the tree, all its parts lying in the lasting heap I -/
def Is (K : PySem.W.Frag) (I : Hp) : T → V → Prop
  | .non, v => v = .non
  | .bl b, v => v = .bl b
  | .int i, v => v = .int i
  | .str x, v => v = .str x
  | .tup ts, v => ∃ a xs, v = .ref a ∧ SqP K I a xs ∧ IsL K I ts xs
  | .lst ts, v => ∃ a xs, v = .ref a ∧ I a = some (.lst xs) ∧ IsL K I ts xs
  | .dct ps, v => ∃ a xs, v = .ref a ∧ I a = some (.dK xs) ∧ IsD K I ps xs
  | .ins C fs, v => ∃ a dx xs, v = .ref a ∧ I a = some (.ins C dx xs) ∧ IsF K I fs xs
  | .adr a, v => v = .ref a
  | .exc a d _ f t, v => v = .ref a ∧ ∃ y, I d = some (.xd [(f, y)]) ∧ Is K I t y
  | .ltp ts, v => ∃ a xs, v = .ref a ∧ SqT K I a xs ∧ IsL K I ts xs
  | .exv C fs, v => ∃ a xs, v = .ref a ∧ ExA I a C xs ∧ IsF K I fs xs
def IsL (K : PySem.W.Frag) (I : Hp) : List T → List V → Prop
  | [], xs => xs = []
  | t :: ts, xs => ∃ x r, xs = x :: r ∧ Is K I t x ∧ IsL K I ts r
def IsD (K : PySem.W.Frag) (I : Hp) : List (Key × T) → List (Key × V) → Prop
  | [], xs => xs = []
  | (k, t) :: ts, xs => ∃ x r, xs = (k, x) :: r ∧ Is K I t x ∧ IsD K I ts r
def IsF (K : PySem.W.Frag) (I : Hp) : List (Str × T) → List (Str × V) → Prop
  | [], xs => xs = []
  | (k, t) :: ts, xs => ∃ x r, xs = (k, x) :: r ∧ Is K I t x ∧ IsF K I ts r
end
section
variable {K : PySem.W.Frag} {I I' : Hp}
mutual
theorem Is.mono (m : Same I I') : ∀ {t : T} {v : V}, Is K I t v → Is K I' t v
  | .non, _, h => h
  | .bl _, _, h => h
  | .int _, _, h => h
  | .str _, _, h => h
  | .tup _, _, h => by
    obtain ⟨a, xs, e, q, r⟩ := h
    exact ⟨a, xs, e, sqp_mono m q, IsL.mono m r⟩
  | .lst _, _, h => by
    obtain ⟨a, xs, e, q, r⟩ := h
    exact ⟨a, xs, e, m _ _ q, IsL.mono m r⟩
  | .dct _, _, h => by
    obtain ⟨a, xs, e, q, r⟩ := h
    exact ⟨a, xs, e, m _ _ q, IsD.mono m r⟩
  | .ins _ _, _, h => by
    obtain ⟨a, dx, xs, e, q, r⟩ := h
    exact ⟨a, dx, xs, e, m _ _ q, IsF.mono m r⟩
  | .adr _, _, h => h
  | .exc _ _ _ _ _, _, h => by
    obtain ⟨e, y, q, r⟩ := h
    exact ⟨e, y, m _ _ q, Is.mono m r⟩
  | .ltp _, _, h => by
    obtain ⟨a, xs, e, q, r⟩ := h
    exact ⟨a, xs, e, sqt_mono m q, IsL.mono m r⟩
  | .exv _ _, _, h => by
    obtain ⟨a, xs, e, q, r⟩ := h
    exact ⟨a, xs, e, q.mono m, IsF.mono m r⟩
theorem IsL.mono (m : Same I I') : ∀ {ts : List T} {xs : List V}, IsL K I ts xs → IsL K I' ts xs
  | [], _, h => h
  | _ :: _, _, h => by
    obtain ⟨x, r, e, q, z⟩ := h
    exact ⟨x, r, e, Is.mono m q, IsL.mono m z⟩
theorem IsD.mono (m : Same I I') : ∀ {ts : List (Key × T)} {xs : List (Key × V)}, IsD K I ts xs → IsD K I' ts xs
  | [], _, h => h
  | (_, _) :: _, _, h => by
    obtain ⟨x, r, e, q, z⟩ := h
    exact ⟨x, r, e, Is.mono m q, IsD.mono m z⟩
theorem IsF.mono (m : Same I I') : ∀ {ts : List (Str × T)} {xs : List (Str × V)}, IsF K I ts xs → IsF K I' ts xs
  | [], _, h => h
  | (_, _) :: _, _, h => by
    obtain ⟨x, r, e, q, z⟩ := h
    exact ⟨x, r, e, Is.mono m q, IsF.mono m z⟩
end
theorem IsL.nil : IsL K I [] [] := by
  show ([] : List V) = []
  rfl
theorem IsL.cons {t : T} {ts : List T} {x : V} {xs : List V} (h : Is K I t x) (r : IsL K I ts xs) : IsL K I (t :: ts) (x :: xs) := ⟨x, xs, rfl, h, r⟩
theorem IsL.len : ∀ {ts : List T} {xs : List V}, IsL K I ts xs → xs.length = ts.length
  | [], _, h => by
    have h : _ = [] := h
    rw [h]; rfl
  | _ :: _, _, h => by
    obtain ⟨x, r, rfl, _, z⟩ := h
    rw [List.length_cons, List.length_cons, IsL.len z]
theorem IsL.app : ∀ {ts us : List T} {xs ys : List V}, IsL K I ts xs → IsL K I us ys → IsL K I (ts ++ us) (xs ++ ys)
  | [], _, _, _, h, g => by
    have h : _ = [] := h
    subst h
    exact g
  | _ :: _, _, _, _, h, g => by
    obtain ⟨x, r, rfl, q, z⟩ := h
    exact ⟨x, _, rfl, q, IsL.app z g⟩
theorem IsL.at : ∀ {ts : List T} {xs : List V} {i : Nat} {t : T}, IsL K I ts xs → ts[i]? = some t → ∃ x, xs[i]? = some x ∧ Is K I t x
  | [], _, _, _, _, e => by simp at e
  | _ :: _, _, 0, _, h, e => by
    obtain ⟨x, r, rfl, q, z⟩ := h
    simp at e
    subst e
    exact ⟨x, rfl, q⟩
  | _ :: _, _, i + 1, _, h, e => by
    obtain ⟨x, r, rfl, q, z⟩ := h
    obtain ⟨y, e1, e2⟩ := IsL.at (i := i) z (by simpa using e)
    exact ⟨y, by simpa using e1, e2⟩
theorem IsL.atV {ts : List T} {xs : List V} {i : Nat} {x : V} (h : IsL K I ts xs) (e : xs[i]? = some x) : ∃ t, ts[i]? = some t ∧ Is K I t x := by
  have hi : i < ts.length := by
    rw [← h.len]
    exact (List.getElem?_eq_some_iff.mp e).1
  obtain ⟨y, e1, e2⟩ := h.at (List.getElem?_eq_getElem hi)
  rw [e] at e1
  cases e1
  exact ⟨_, List.getElem?_eq_getElem hi, e2⟩
theorem IsL.take : ∀ {ts : List T} {xs : List V} (n : Nat), IsL K I ts xs → IsL K I (ts.take n) (xs.take n)
  | _, _, 0, _ => by
    simp only [List.take_zero]
    exact IsL.nil
  | [], _, _ + 1, h => by
    have h : _ = [] := h
    subst h
    exact IsL.nil
  | _ :: _, _, n + 1, h => by
    obtain ⟨x, r, rfl, q, z⟩ := h
    exact ⟨x, _, rfl, q, IsL.take n z⟩
theorem IsL.drop : ∀ {ts : List T} {xs : List V} (n : Nat), IsL K I ts xs → IsL K I (ts.drop n) (xs.drop n)
  | _, _, 0, h => h
  | [], _, _ + 1, h => by
    have h : _ = [] := h
    subst h
    exact IsL.nil
  | _ :: _, _, n + 1, h => by
    obtain ⟨x, r, rfl, q, z⟩ := h
    exact IsL.drop n z
theorem IsL.dropLast {ts : List T} {xs : List V} (h : IsL K I ts xs) : IsL K I ts.dropLast xs.dropLast := by
  rw [List.dropLast_eq_take, List.dropLast_eq_take, h.len]
  exact h.take _
theorem IsL.rev : ∀ {ts : List T} {xs : List V}, IsL K I ts xs → IsL K I ts.reverse xs.reverse
  | [], _, h => by
    have h : _ = [] := h
    subst h
    exact IsL.nil
  | _ :: _, _, h => by
    obtain ⟨x, r, rfl, q, z⟩ := h
    rw [List.reverse_cons, List.reverse_cons]
    exact IsL.app (IsL.rev z) (IsL.cons q IsL.nil)
theorem IsL.erase : ∀ {ts : List T} {xs : List V} (n : Nat), IsL K I ts xs → IsL K I (ts.eraseIdx n) (xs.eraseIdx n)
  | [], _, _, h => by
    have h : _ = [] := h
    subst h
    exact IsL.nil
  | _ :: _, _, 0, h => by
    obtain ⟨x, r, rfl, q, z⟩ := h
    exact z
  | _ :: _, _, n + 1, h => by
    obtain ⟨x, r, rfl, q, z⟩ := h
    exact ⟨x, _, rfl, q, IsL.erase n z⟩
theorem IsL.strs : ∀ {ss : List Str} {xs : List V}, IsL K I (ss.map T.str) xs → xs = ss.map V.str
  | [], _, h => h
  | _ :: _, _, h => by
    obtain ⟨x, r, rfl, q, z⟩ := h
    have q : x = _ := q
    subst q
    rw [IsL.strs z]
    rfl
theorem IsL.ofStrs : ∀ (ss : List Str), IsL K I (ss.map T.str) (ss.map V.str)
  | [] => IsL.nil
  | _ :: ss => IsL.cons rfl (IsL.ofStrs ss)
theorem IsL.one {t : T} {xs : List V} (h : IsL K I [t] xs) : ∃ x, xs = [x] ∧ Is K I t x := by
  obtain ⟨x, r, rfl, q, z⟩ := h
  have z : r = [] := z
  subst z
  exact ⟨x, rfl, q⟩
theorem IsL.two {t u : T} {xs : List V} (h : IsL K I [t, u] xs) : ∃ x y, xs = [x, y] ∧ Is K I t x ∧ Is K I u y := by
  obtain ⟨x, r, rfl, q, z⟩ := h
  obtain ⟨y, rfl, q2⟩ := z.one
  exact ⟨x, y, rfl, q, q2⟩
theorem IsL.zero {xs : List V} (h : IsL K I [] xs) : xs = [] := h
/-- what an object holds, by its tree -/
def Cn (K : PySem.W.Frag) (I : Hp) (t : T) (o : HO) : Prop :=
  match t, o with
  | .lst ts, .lst xs => IsL K I ts xs
  | .dct ps, .dK xs => IsD K I ps xs
  | .ins C fs, .ins C' _ xs => C = C' ∧ IsF K I fs xs
  | _, _ => False
theorem Cn.mono (m : Same I I') {t : T} {o : HO} (h : Cn K I t o) : Cn K I' t o := by
  cases t <;> cases o <;> first | exact h.elim | exact IsL.mono m h | exact IsD.mono m h | exact ⟨h.1, IsF.mono m h.2⟩
/-- an object that lasts from now on stands for its tree -/
theorem Cn.is {t : T} {o : HO} {a : Addr} (h : Cn K I t o) (e : I a = some o) : Is K I t (.ref a) := by
  cases t <;> cases o <;> first
    | exact h.elim
    | exact ⟨a, _, rfl, e, h⟩
    | (obtain ⟨rfl, h⟩ := h; exact ⟨a, _, _, rfl, e, h⟩)
theorem Cn.lst {ts : List T} {o : HO} (h : Cn K I (.lst ts) o) : ∃ xs, o = .lst xs ∧ IsL K I ts xs := by
  cases o <;> first | exact h.elim | exact ⟨_, rfl, h⟩
end
/-! ### the state -/
/-- what stands in a slot: nothing known; a lasting tree; an object that is this slot's alone -/
inductive SV where
  | un | im (t : T) | ow (t : T)
/-- a resource that is handed on (a deck, a ledger): its states, the places that it owns, what stands there -/
structure Res where
  S : Type
  F : Addr → Prop
  R : S → Hp → Hp → Prop
  dom : ∀ s I H p, R s I H → F p → ∃ o, H p = some o
  loc : ∀ s I H I' H', R s I H → Same I I' → (∀ p, F p → H' p = H p) → R s I' H'
/-- none -/
def Z0 : Res where
  S := Unit
  F := fun _ => False
  R := fun _ _ _ => True
  dom := fun _ _ _ _ _ h => h.elim
  loc := fun _ _ _ _ _ _ _ _ => trivial
/-- the lasting heap I within H; G: what others own, left alone -/
structure Rep0 (Z : Res) (G I H : Hp) (s : Z.S) : Prop where
  sub : Same I H
  res : Z.R s I H
  rf : ∀ p, Z.F p → I p = none ∧ G p = none
  fr : ∀ p o, G p = some o → I p = none ∧ H p = some o
structure Rep (K : PySem.W.Frag) (Z : Res) (G I H : Hp) (σ : St) (τ : List SV) (s : Z.S) : Prop extends Rep0 Z G I H s where
  len : σ.length = τ.length
  im : ∀ (i : Nat) (t : T), τ[i]? = some (SV.im t) → ∃ v : V, σ[i]? = some (some v) ∧ Is K I t v
  ow : ∀ (i : Nat) (t : T), τ[i]? = some (SV.ow t) → ∃ (p : Addr) (o : HO), σ[i]? = some (some (V.ref p)) ∧ I p = none ∧ G p = none ∧ ¬ Z.F p ∧ H p = some o ∧ Cn K I t o
  inj : ∀ (i j : Nat) (t u : T) (p : Addr), i ≠ j → τ[i]? = some (SV.ow t) → τ[j]? = some (SV.ow u) → σ[i]? = some (some (V.ref p)) → σ[j]? ≠ some (some (V.ref p))
/-- what a step does to heaps: the lasting one grows, what is owned (but the resource's) stands -/
structure Ext (F : Addr → Prop) (I H I' H' : Hp) : Prop where
  im : Same I I'
  sub : Same I' H'
  own : ∀ p o, I p = none → ¬ F p → H p = some o → I' p = none ∧ H' p = some o
  nof : ∀ p, F p → I p = none → I' p = none
theorem Ext.refl {F : Addr → Prop} {I H : Hp} (h : Same I H) : Ext F I H I H := ⟨Same.refl _, h, fun _ _ a _ b => ⟨a, b⟩, fun _ _ h => h⟩
theorem Ext.trans {F : Addr → Prop} {I H I1 H1 I2 H2 : Hp} (a : Ext F I H I1 H1) (b : Ext F I1 H1 I2 H2) : Ext F I H I2 H2 :=
  ⟨a.im.trans b.im, b.sub, fun p o h1 h2 h3 => let ⟨q1, q2⟩ := a.own p o h1 h2 h3; b.own p o q1 h2 q2, fun p h1 h2 => b.nof p h1 (a.nof p h1 h2)⟩
section
variable {K : PySem.W.Frag} {Z : Res} {G I H I' H' : Hp} {σ : St} {τ : List SV} {s s' : Z.S}
theorem Rep0.ext (r : Rep0 Z G I H s) (e : Ext Z.F I H I' H') (q : Z.R s' I' H') : Rep0 Z G I' H' s' :=
  ⟨e.sub, q, fun p hp => ⟨e.nof p hp (r.rf p hp).1, (r.rf p hp).2⟩, fun p o hp => by
    have nf : ¬ Z.F p := fun z => by
      rw [(r.rf p z).2] at hp
      cases hp
    obtain ⟨a, b⟩ := r.fr p o hp
    exact e.own p o a nf b⟩
theorem Rep.ext (r : Rep K Z G I H σ τ s) (e : Ext Z.F I H I' H') (q : Z.R s' I' H') : Rep K Z G I' H' σ τ s' := by
  refine ⟨r.toRep0.ext e q, r.len, fun i t h => ?_, fun i t h => ?_, r.inj⟩
  · obtain ⟨v, h1, h2⟩ := r.im i t h
    exact ⟨v, h1, h2.mono e.im⟩
  · obtain ⟨p, o, h1, h2, h3, h4, h5, h6⟩ := r.ow i t h
    obtain ⟨a, b⟩ := e.own p o h2 h4 h5
    exact ⟨p, o, h1, a, h3, h4, b, h6.mono e.im⟩
/-- nothing of the resource is touched -/
theorem Rep.extN (r : Rep K Z G I H σ τ s) (e : Ext (fun _ => False) I H I' H') : Rep K Z G I' H' σ τ s := by
  have hF : ∀ p, Z.F p → I' p = none ∧ H' p = H p := fun p hp => by
    obtain ⟨o, ho⟩ := Z.dom s I H p r.res hp
    obtain ⟨a, b⟩ := e.own p o (r.rf p hp).1 (fun z => z) ho
    exact ⟨a, by rw [b, ho]⟩
  exact r.ext ⟨e.im, e.sub, fun p o a _ b => e.own p o a (fun z => z) b, fun p hp _ => (hF p hp).1⟩ (Z.loc s I H I' H' r.res e.im fun p hp => (hF p hp).2)
theorem Rep.ext' (r : Rep K Z G I H σ τ s) (e : Ext Z.F I H I' H') (q : Z.R s' I' H') : Same I I' ∧ Rep K Z G I' H' σ τ s' := ⟨e.im, r.ext e q⟩
/-- a new object, lasting -/
theorem ext_new {F : Addr → Prop} {p : Addr} {o : HO} (hs : Same I H) (hp : H p = none) (hF : ¬ F p) : Ext F I H (upd I p o) (upd H p o) := by
  have hI : I p = none := hs.free hp
  refine ⟨fun b u e => by rw [upd_ne (ne_of_none e hI)]; exact e, fun b u e => ?_, fun b u h1 h2 h3 => ?_, fun b h1 h2 => by rw [upd_ne (show b ≠ p from fun z => hF (by rw [← z]; exact h1))]; exact h2⟩
  · by_cases hb : b = p
    · subst hb
      rw [upd_same] at e ⊢
      exact e
    · rw [upd_ne hb] at e ⊢
      exact hs b u e
  · have hb : b ≠ p := ne_of_none h3 hp
    rw [upd_ne hb, upd_ne hb]
    exact ⟨h1, h3⟩
/-- a new object, owned -/
theorem ext_newO {F : Addr → Prop} {p : Addr} {o : HO} (hs : Same I H) (hp : H p = none) : Ext F I H I (upd H p o) :=
  ⟨Same.refl _, fun b u e => by rw [upd_ne (ne_of_none (hs b u e) hp)]; exact hs b u e, fun b u h1 _ h3 => ⟨h1, by rw [upd_ne (ne_of_none h3 hp)]; exact h3⟩, fun _ _ h => h⟩
theorem Rep0.nF {p : Addr} (r : Rep0 Z G I H s) (hp : H p = none) : ¬ Z.F p := fun z => by
  obtain ⟨o, e⟩ := Z.dom s I H p r.res z
  rw [hp] at e
  cases e
theorem Rep0.nG {p : Addr} (r : Rep0 Z G I H s) (hp : H p = none) : G p = none := by
  cases e : G p with
  | none => rfl
  | some o =>
    have q := (r.fr p o e).2
    rw [hp] at q
    cases q
/-- a new object is laid, it lasts -/
theorem Rep.new {p : Addr} {o : HO} (r : Rep K Z G I H σ τ s) (hp : H p = none) : Same I (upd I p o) ∧ Rep K Z G (upd I p o) (upd H p o) σ τ s := by
  have e : Ext (fun _ => False) I H (upd I p o) (upd H p o) := ext_new r.sub hp (fun z => z)
  exact ⟨e.im, r.extN e⟩
/-- an object that is nobody's but ours now -/
structure Own1 (K : PySem.W.Frag) (Z : Res) (G I H : Hp) (σ : St) (τ : List SV) (p : Addr) (o : HO) (a : T) : Prop where
  ni : I p = none
  ng : G p = none
  nf : ¬ Z.F p
  at_ : H p = some o
  cn : Cn K I a o
  no : ∀ (i : Nat) (t : T), τ[i]? = some (SV.ow t) → σ[i]? ≠ some (some (V.ref p))
/-- it lasts from now on -/
theorem Rep.freeze1 {p : Addr} {o : HO} {a : T} (r : Rep K Z G I H σ τ s) (w : Own1 K Z G I H σ τ p o a) : Same I (upd I p o) ∧ Rep K Z G (upd I p o) H σ τ s := by
  have m : Same I (upd I p o) := fun b u e => by rw [upd_ne (ne_of_none e w.ni)]; exact e
  have sb : Same (upd I p o) H := fun b u e => by
    by_cases hb : b = p
    · subst hb
      rw [upd_same] at e
      cases e
      exact w.at_
    · rw [upd_ne hb] at e
      exact r.sub b u e
  refine ⟨m, ⟨⟨sb, Z.loc s I H _ H r.res m fun _ _ => rfl, fun q hq => ⟨?_, (r.rf q hq).2⟩, fun q u hq => ⟨?_, (r.fr q u hq).2⟩⟩, r.len, fun i t h => ?_, fun i t h => ?_, r.inj⟩⟩
  · rw [upd_ne (show q ≠ p from fun z => w.nf (by rw [← z]; exact hq))]
    exact (r.rf q hq).1
  · rw [upd_ne (ne_of_none hq w.ng)]
    exact (r.fr q u hq).1
  · obtain ⟨v, h1, h2⟩ := r.im i t h
    exact ⟨v, h1, h2.mono m⟩
  · obtain ⟨q, u, h1, h2, h3, h4, h5, h6⟩ := r.ow i t h
    have hq : q ≠ p := fun z => w.no i t h (by rw [← z]; exact h1)
    exact ⟨q, u, h1, by rw [upd_ne hq]; exact h2, h3, h4, h5, h6.mono m⟩
/-- a new object is laid, it is not known to last -/
theorem Rep.newO {p : Addr} {o : HO} (r : Rep K Z G I H σ τ s) (hp : H p = none) : Rep K Z G I (upd H p o) σ τ s :=
  r.extN (ext_newO (F := fun _ => False) r.sub hp)
theorem Rep.notOwned {p : Addr} (r : Rep K Z G I H σ τ s) (hp : H p = none) (i : Nat) (t : T) (h : τ[i]? = some (SV.ow t)) : σ[i]? ≠ some (some (V.ref p)) := fun e => by
  obtain ⟨q, u, h1, _, _, _, h5, _⟩ := r.ow i t h
  rw [e] at h1
  cases h1
  rw [hp] at h5
  cases h5
theorem Rep.made {p : Addr} {o : HO} {a : T} (r : Rep K Z G I H σ τ s) (hp : H p = none) (c : Cn K I a o) : Rep K Z G I (upd H p o) σ τ s ∧ Own1 K Z G I (upd H p o) σ τ p o a :=
  ⟨r.newO hp, ⟨r.sub.free hp, r.nG hp, r.nF hp, upd_same, c, fun i t h => r.notOwned hp i t h⟩⟩
/-! ### slots are stored -/
theorem Rep.setIm {i : Nat} {v : V} {a : T} (r : Rep K Z G I H σ τ s) (hi : i < τ.length) (h : Is K I a v) : Rep K Z G I H (σ.set i (some v)) (τ.set i (.im a)) s := by
  have hs : i < σ.length := by rw [r.len]; exact hi
  refine ⟨r.toRep0, by rw [List.length_set, List.length_set]; exact r.len, fun j t e => ?_, fun j t e => ?_, fun j k t u p hjk e1 e2 e3 => ?_⟩
  · by_cases hj : i = j
    · subst hj
      rw [List.getElem?_set_self hi] at e
      cases e
      exact ⟨v, List.getElem?_set_self hs, h⟩
    · rw [List.getElem?_set_ne hj] at e ⊢
      exact r.im j t e
  · have hj : i ≠ j := fun z => by
      subst z
      rw [List.getElem?_set_self hi] at e
      cases e
    rw [List.getElem?_set_ne hj] at e ⊢
    exact r.ow j t e
  · have hj : i ≠ j := fun z => by
      subst z
      rw [List.getElem?_set_self hi] at e1
      cases e1
    have hk : i ≠ k := fun z => by
      subst z
      rw [List.getElem?_set_self hi] at e2
      cases e2
    rw [List.getElem?_set_ne hj] at e1 e3
    rw [List.getElem?_set_ne hk] at e2 ⊢
    exact r.inj j k t u p hjk e1 e2 e3
theorem Rep.setOw {i : Nat} {p : Addr} {o : HO} {a : T} (r : Rep K Z G I H σ τ s) (hi : i < τ.length) (w : Own1 K Z G I H σ τ p o a) : Rep K Z G I H (σ.set i (some (.ref p))) (τ.set i (.ow a)) s := by
  have hs : i < σ.length := by rw [r.len]; exact hi
  refine ⟨r.toRep0, by rw [List.length_set, List.length_set]; exact r.len, fun j t e => ?_, fun j t e => ?_, fun j k t u q hjk e1 e2 e3 => ?_⟩
  · have hj : i ≠ j := fun z => by
      subst z
      rw [List.getElem?_set_self hi] at e
      cases e
    rw [List.getElem?_set_ne hj] at e ⊢
    exact r.im j t e
  · by_cases hj : i = j
    · subst hj
      rw [List.getElem?_set_self hi] at e
      cases e
      exact ⟨p, o, List.getElem?_set_self hs, w.ni, w.ng, w.nf, w.at_, w.cn⟩
    · rw [List.getElem?_set_ne hj] at e ⊢
      exact r.ow j t e
  · by_cases hj : i = j
    · subst hj
      rw [List.getElem?_set_self hs] at e3
      cases e3
      rw [List.getElem?_set_ne hjk] at e2 ⊢
      exact w.no k u e2
    · rw [List.getElem?_set_ne hj] at e1 e3
      by_cases hk : i = k
      · subst hk
        rw [List.getElem?_set_self hs]
        intro z
        cases z
        exact w.no j t e1 e3
      · rw [List.getElem?_set_ne hk] at e2 ⊢
        exact r.inj j k t u q hjk e1 e2 e3
/-- a slot's own object lasts from now on -/
theorem Rep.freeze {i : Nat} {a : T} (r : Rep K Z G I H σ τ s) (hi : τ[i]? = some (.ow a)) : ∃ I', Same I I' ∧ Rep K Z G I' H σ (τ.set i (.im a)) s := by
  obtain ⟨p, o, h1, h2, h3, h4, h5, h6⟩ := r.ow i a hi
  have hl : i < τ.length := (List.getElem?_eq_some_iff.mp hi).1
  have m : Same I (upd I p o) := fun b u e => by rw [upd_ne (ne_of_none e h2)]; exact e
  have sb : Same (upd I p o) H := fun b u e => by
    by_cases hb : b = p
    · subst hb
      rw [upd_same] at e
      cases e
      exact h5
    · rw [upd_ne hb] at e
      exact r.sub b u e
  refine ⟨upd I p o, m, ⟨⟨sb, Z.loc s I H _ H r.res m fun _ _ => rfl, fun q hq => ⟨?_, (r.rf q hq).2⟩, fun q u hq => ⟨?_, (r.fr q u hq).2⟩⟩, by rw [List.length_set]; exact r.len, fun j t h => ?_, fun j t h => ?_, fun j k t u q hjk e1 e2 e3 => ?_⟩⟩
  · rw [upd_ne (show q ≠ p from fun z => h4 (by rw [← z]; exact hq))]
    exact (r.rf q hq).1
  · rw [upd_ne (ne_of_none hq h3)]
    exact (r.fr q u hq).1
  · by_cases hj : i = j
    · subst hj
      rw [List.getElem?_set_self hl] at h
      cases h
      exact ⟨_, h1, (h6.mono m).is upd_same⟩
    · rw [List.getElem?_set_ne hj] at h
      obtain ⟨v, g1, g2⟩ := r.im j t h
      exact ⟨v, g1, g2.mono m⟩
  · have hj : i ≠ j := fun z => by
      subst z
      rw [List.getElem?_set_self hl] at h
      cases h
    rw [List.getElem?_set_ne hj] at h
    obtain ⟨q, u, g1, g2, g3, g4, g5, g6⟩ := r.ow j t h
    have hq : q ≠ p := fun z => r.inj i j a t p hj hi h h1 (by rw [← z]; exact g1)
    exact ⟨q, u, g1, by rw [upd_ne hq]; exact g2, g3, g4, g5, g6.mono m⟩
  · have hj : i ≠ j := fun z => by
      subst z
      rw [List.getElem?_set_self hl] at e1
      cases e1
    have hk : i ≠ k := fun z => by
      subst z
      rw [List.getElem?_set_self hl] at e2
      cases e2
    rw [List.getElem?_set_ne hj] at e1
    rw [List.getElem?_set_ne hk] at e2
    exact r.inj j k t u q hjk e1 e2 e3
/-- a slot's own object is changed -/
theorem Rep.change {i : Nat} {a b : T} {p : Addr} {o o' : HO} (r : Rep K Z G I H σ τ s) (hi : τ[i]? = some (.ow a)) (h1 : σ[i]? = some (some (V.ref p))) (h2 : I p = none) (h3 : G p = none) (h4 : ¬ Z.F p) (c : Cn K I b o') : Rep K Z G I (upd H p o') σ (τ.set i (.ow b)) s := by
  have hl : i < τ.length := (List.getElem?_eq_some_iff.mp hi).1
  have sb : Same I (upd H p o') := fun b u e => by rw [upd_ne (ne_of_none e h2)]; exact r.sub b u e
  refine ⟨⟨sb, Z.loc s I H _ _ r.res (Same.refl _) fun q hq => upd_ne fun z => h4 (by rw [← z]; exact hq), r.rf, fun q u hq => ⟨(r.fr q u hq).1, ?_⟩⟩, by rw [List.length_set]; exact r.len, fun j t h => ?_, fun j t h => ?_, fun j k t u q hjk e1 e2 e3 => ?_⟩
  · rw [upd_ne (ne_of_none hq h3)]
    exact (r.fr q u hq).2
  · have hj : i ≠ j := fun z => by
      subst z
      rw [List.getElem?_set_self hl] at h
      cases h
    rw [List.getElem?_set_ne hj] at h
    exact r.im j t h
  · by_cases hj : i = j
    · subst hj
      rw [List.getElem?_set_self hl] at h
      cases h
      exact ⟨p, o', h1, h2, h3, h4, upd_same, c⟩
    · rw [List.getElem?_set_ne hj] at h
      obtain ⟨q, u, g1, g2, g3, g4, g5, g6⟩ := r.ow j t h
      have hq : q ≠ p := fun z => r.inj i j a t p hj hi h h1 (by rw [← z]; exact g1)
      exact ⟨q, u, g1, g2, g3, g4, by rw [upd_ne hq]; exact g5, g6⟩
  · have ow' : ∀ (l : Nat) (t : T), (τ.set i (.ow b))[l]? = some (.ow t) → ∃ t', τ[l]? = some (.ow t') := fun l t e => by
      by_cases hl' : i = l
      · subst hl'
        exact ⟨a, hi⟩
      · rw [List.getElem?_set_ne hl'] at e
        exact ⟨t, e⟩
    obtain ⟨t', e1'⟩ := ow' j t e1
    obtain ⟨u', e2'⟩ := ow' k u e2
    exact r.inj j k t' u' q hjk e1' e2' e3
/-- less is left alone -/
theorem Rep.frame {G' : Hp} (r : Rep K Z G I H σ τ s) (h : ∀ p o, G' p = some o → G p = some o) : Rep K Z G' I H σ τ s := by
  have hn : ∀ p, G p = none → G' p = none := fun p hp => by
    cases e : G' p with
    | none => rfl
    | some o =>
      have q := h p o e
      rw [hp] at q
      cases q
  refine ⟨⟨r.sub, r.res, fun p hp => ⟨(r.rf p hp).1, hn p (r.rf p hp).2⟩, fun p o e => r.fr p o (h p o e)⟩, r.len, r.im, fun i t e => ?_, r.inj⟩
  obtain ⟨p, o, h1, h2, h3, h4, h5, h6⟩ := r.ow i t e
  exact ⟨p, o, h1, h2, hn p h3, h4, h5, h6⟩
/-- one more object that is left alone -/
theorem Rep.guard {p : Addr} {o : HO} {a : T} (r : Rep K Z G I H σ τ s) (w : Own1 K Z G I H σ τ p o a) : Rep K Z (upd G p o) I H σ τ s :=
  ⟨⟨r.sub, r.res, fun q hq => ⟨(r.rf q hq).1, by rw [upd_ne (show q ≠ p from fun z => w.nf (by rw [← z]; exact hq))]; exact (r.rf q hq).2⟩, fun q u e => by
    by_cases hq : q = p
    · subst hq
      rw [upd_same] at e
      cases e
      exact ⟨w.ni, w.at_⟩
    · rw [upd_ne hq] at e
      exact r.fr q u e⟩, r.len, r.im, fun i t e => by
    obtain ⟨q, u, h1, h2, h3, h4, h5, h6⟩ := r.ow i t e
    exact ⟨q, u, h1, h2, by rw [upd_ne (show q ≠ p from fun z => w.no i t e (by rw [← z]; exact h1))]; exact h3, h4, h5, h6⟩, r.inj⟩
/-- slots forgotten (a comprehension's own names) -/
def wipeT (τ : List SV) : List Nat → List SV
  | [] => τ
  | v :: vs => (wipeT τ vs).set v .un
theorem wipeT_length (τ : List SV) : ∀ vs : List Nat, (wipeT τ vs).length = τ.length
  | [] => rfl
  | v :: vs => by unfold wipeT; rw [List.length_set, wipeT_length τ vs]
theorem wipeT_get {τ : List SV} {i : Nat} {x : SV} : ∀ {vs : List Nat}, (wipeT τ vs)[i]? = some x → (i ∈ vs ∧ x = .un) ∨ (i ∉ vs ∧ τ[i]? = some x)
  | [], h => .inr ⟨by simp, h⟩
  | v :: vs, h => by
    unfold wipeT at h
    by_cases hi : v = i
    · subst hi
      by_cases hv : v < (wipeT τ vs).length
      · rw [List.getElem?_set_self hv] at h
        cases h
        exact .inl ⟨by simp, rfl⟩
      · rw [List.getElem?_eq_none (by simpa using hv)] at h
        cases h
    · rw [List.getElem?_set_ne hi] at h
      rcases wipeT_get h with ⟨h1, h2⟩ | ⟨h1, h2⟩
      · exact .inl ⟨by simp [h1], h2⟩
      · exact .inr ⟨by simp only [List.mem_cons, not_or]; exact ⟨fun e => hi e.symm, h1⟩, h2⟩
theorem wipe_out {σ : St} {i : Nat} : ∀ {vs : List Nat}, i ∉ vs → (wipe σ vs)[i]? = σ[i]?
  | [], _ => rfl
  | v :: vs, h => by
    simp only [List.mem_cons, not_or] at h
    unfold wipe
    rw [List.getElem?_set_ne (fun e => h.1 e.symm)]
    exact wipe_out h.2
theorem Rep.wipe {vs : List Nat} (r : Rep K Z G I H σ τ s) : Rep K Z G I H (wipe σ vs) (wipeT τ vs) s := by
  refine ⟨r.toRep0, by rw [wipe_length, wipeT_length]; exact r.len, fun i t e => ?_, fun i t e => ?_, fun i j t u p hij e1 e2 e3 => ?_⟩
  · rcases wipeT_get e with ⟨_, h⟩ | ⟨h1, h2⟩
    · cases h
    · rw [wipe_out h1]
      exact r.im i t h2
  · rcases wipeT_get e with ⟨_, h⟩ | ⟨h1, h2⟩
    · cases h
    · rw [wipe_out h1]
      exact r.ow i t h2
  · rcases wipeT_get e1 with ⟨_, h⟩ | ⟨h1, h2⟩
    · cases h
    · rcases wipeT_get e2 with ⟨_, h⟩ | ⟨h3, h4⟩
      · cases h
      · rw [wipe_out h1] at e3
        rw [wipe_out h3]
        exact r.inj i j t u p hij h2 h4 e3
/-- behind a comprehension: the slots are as they were -/
theorem Rep.unwipe {G0 I0 H0 : Hp} {s0 : Z.S} {vs : List Nat} (r : Rep K Z G0 I0 H0 σ τ s0) (m : Same I0 I) (q : Rep0 Z G I H s) (hw : ∀ (i : Nat) (t : T), τ[i]? = some (.ow t) → i ∉ vs)
    (own : ∀ (i : Nat) (t : T), (wipeT τ vs)[i]? = some (.ow t) → ∃ (p : Addr) (o : HO), (L2.wipe σ vs)[i]? = some (some (V.ref p)) ∧ I p = none ∧ G p = none ∧ ¬ Z.F p ∧ H p = some o ∧ Cn K I t o)
    (wt : ∀ (i : Nat) (t : T), i ∉ vs → τ[i]? = some (.ow t) → (wipeT τ vs)[i]? = some (.ow t)) : Rep K Z G I H σ τ s := by
  refine ⟨q, r.len, fun i t e => ?_, fun i t e => ?_, r.inj⟩
  · obtain ⟨v, h1, h2⟩ := r.im i t e
    exact ⟨v, h1, h2.mono m⟩
  · have hi := hw i t e
    have h := own i t (wt i t hi e)
    rw [wipe_out hi] at h
    exact h
theorem wipeT_out {τ : List SV} {i : Nat} : ∀ {vs : List Nat}, i ∉ vs → (wipeT τ vs)[i]? = τ[i]?
  | [], _ => rfl
  | v :: vs, h => by
    simp only [List.mem_cons, not_or] at h
    unfold wipeT
    rw [List.getElem?_set_ne (fun e => h.1 e.symm)]
    exact wipeT_out h.2
end
end L2.TL
/-! TL1: expressions told by trees. -/
namespace L2.TL
open PySem PySem.Spec
open PyProof.Rows
/-- a reckoning over the slots and the resource's state -/
abbrev EF (Z : Res) := List SV → Z.S → Option (T × Z.S)
abbrev EFs (Z : Res) := List SV → Z.S → Option (List T × Z.S)
abbrev EFb (Z : Res) := List SV → Z.S → Option (Bool × Z.S)
/-- behind an expression that hands out a -/
def Hand (X : Cx) (Z : Res) (G I : Hp) (σ : St) (τ : List SV) (s : Z.S) (a : T) (Q : VK) : Prop :=
  ∀ I' H' v, Same I I' → Rep X.K Z G I' H' σ τ s → Is X.K I' a v → Q v H'
def HandB (X : Cx) (Z : Res) (G I : Hp) (σ : St) (τ : List SV) (s : Z.S) (b : Bool) (Q : Bool → Hp → Prop) : Prop :=
  ∀ I' H', Same I I' → Rep X.K Z G I' H' σ τ s → Q b H'
def HandL (X : Cx) (Z : Res) (G I : Hp) (σ : St) (τ : List SV) (s : Z.S) (as : List T) (Q : List V → Hp → Prop) : Prop :=
  ∀ I' H' vs, Same I I' → Rep X.K Z G I' H' σ τ s → IsL X.K I' as vs → Q vs H'
def EX (X : Cx) (Z : Res) (e : Expr) (f : EF Z) : Prop :=
  ∃ t, PE X e t ∧ ∀ G I H σ τ s a s' Q, Rep X.K Z G I H σ τ s → f τ s = some (a, s') → Hand X Z G I σ τ s' a Q → t σ H Q
def EB (X : Cx) (Z : Res) (e : Expr) (f : EFb Z) : Prop :=
  ∃ t, PT X e t ∧ ∀ G I H σ τ s a s' Q, Rep X.K Z G I H σ τ s → f τ s = some (a, s') → HandB X Z G I σ τ s' a Q → t σ H Q
def EL (X : Cx) (Z : Res) (es : List Expr) (f : EFs Z) : Prop :=
  ∃ t, PA X es t ∧ ∀ G I H σ τ s as s' Q, Rep X.K Z G I H σ τ s → f τ s = some (as, s') → HandL X Z G I σ τ s' as Q → t σ H Q
section
variable {X : Cx} {Z : Res} {a b c e : Expr} {es : List Expr} {fa fb fc : EF Z} {pos : Pos}
/-! ### names, constants -/
def xName {Z : Res} (i : Nat) : EF Z := fun τ s => match τ[i]? with
  | some (.im t) => some (t, s)
  | _ => none
theorem ex_name (i : Nat) {x : Str} (hN : X.N[i]? = some x := by rfl) (hv : Vis X.env.scope x := by first | exact Or.inl rfl | exact Or.inr (Or.inl rfl) | exact Or.inr (Or.inr rfl)) (hd : (x == ("__debug__" : Str)) = false := by decide)
    (hcd : (x == ("__classdict__" : Str)) = false := by decide) : EX X Z (.Name x pos) (xName i) := by
  refine ⟨_, pe_var hN hv hd hcd, fun G I H σ τ s a s' Q r h q => ?_⟩
  unfold xName at h
  split at h
  · rename_i t e
    cases h
    obtain ⟨v, h1, h2⟩ := r.im i _ e
    exact ⟨v, h1, q I H v (Same.refl _) r h2⟩
  · cases h
def xC {Z : Res} (t : T) : EF Z := fun _ s => some (t, s)
theorem ex_int {i : Int} {j : Nat} : EX X Z (.Constant (.int i) j pos) (xC (.int i)) := ⟨_, pe_int, fun G I H σ τ s a s' Q r h q => by
  cases h
  exact q I H _ (Same.refl _) r rfl⟩
theorem ex_bl {i : Bool} {j : Nat} : EX X Z (.Constant (.bool i) j pos) (xC (.bl i)) := ⟨_, pe_bl, fun G I H σ τ s a s' Q r h q => by
  cases h
  exact q I H _ (Same.refl _) r rfl⟩
theorem ex_non {j : Nat} : EX X Z (.Constant .none j pos) (xC .non) := ⟨_, pe_non, fun G I H σ τ s a s' Q r h q => by
  cases h
  exact q I H _ (Same.refl _) r rfl⟩
theorem ex_str {x : Str} {j : Nat} : EX X Z (.Constant (.str x) j pos) (xC (.str x)) := ⟨_, pe_str, fun G I H σ τ s a s' Q r h q => by
  cases h
  exact q I H _ (Same.refl _) r rfl⟩
/-! ### two values -/
/-- an operation on trees that the values' operation r carries out, making new objects at most -/
def Op2 (X : Cx) (r : R2) (op : T → T → Option T) : Prop :=
  ∀ (Z : Res) G I H σ τ s a b c x y Q, Rep X.K Z G I H σ τ s → Is X.K I a x → Is X.K I b y → op a b = some c → Hand X Z G I σ τ s c Q → r x y H Q
def x2 {Z : Res} (op : T → T → Option T) (fa fb : EF Z) : EF Z := fun τ s => match fa τ s with
  | some (a, s1) => match fb τ s1 with
    | some (b, s2) => match op a b with
      | some c => some (c, s2)
      | none => none
    | none => none
  | none => none
theorem x2_run {r : R2} {op : T → T → Option T} {ta tb : TE} (hr : Op2 X r op) (h1 : ∀ G I H σ τ s a s' Q, Rep X.K Z G I H σ τ s → fa τ s = some (a, s') → Hand X Z G I σ τ s' a Q → ta σ H Q)
    (h2 : ∀ G I H σ τ s a s' Q, Rep X.K Z G I H σ τ s → fb τ s = some (a, s') → Hand X Z G I σ τ s' a Q → tb σ H Q) {G I H : Hp} {σ : St} {τ : List SV} {s s' : Z.S} {c : T} {Q : VK}
    (w : Rep X.K Z G I H σ τ s) (h : x2 op fa fb τ s = some (c, s')) (q : Hand X Z G I σ τ s' c Q) : tOp r ta tb σ H Q := by
  unfold x2 at h
  split at h
  · rename_i a s1 ea
    split at h
    · rename_i b s2 eb
      split at h
      · rename_i d ec
        cases h
        refine h1 _ _ _ _ _ _ _ _ _ w ea fun I1 H1 v m1 w1 i1 => ?_
        refine h2 _ _ _ _ _ _ _ _ _ w1 eb fun I2 H2 u m2 w2 i2 => ?_
        exact hr Z _ _ _ _ _ _ _ _ _ _ _ _ w2 (i1.mono m2) i2 ec fun I3 H3 z m3 w3 i3 => q I3 H3 z ((m1.trans m2).trans m3) w3 i3
      · cases h
    · cases h
  · cases h
theorem ex_bin {o : Operator} {r : R2} {op : T → T → Option T} (ho : OpR X (binaryOp o) r) (hr : Op2 X r op) (ha : EX X Z a fa) (hb : EX X Z b fb) : EX X Z (.BinOp a o b pos) (x2 op fa fb) := by
  obtain ⟨ta, pa, h1⟩ := ha
  obtain ⟨tb, pb, h2⟩ := hb
  exact ⟨_, pe_op ho pa pb, fun G I H σ τ s c s' Q w h q => x2_run hr h1 h2 w h q⟩
theorem ex_cmp {o : CmpOp} {r : R2} {op : T → T → Option T} (ho : OpR X (compareOp o) r) (hr : Op2 X r op) (ha : EX X Z a fa) (hb : EX X Z b fb) (hm : behindInMarks o b = false) : EX X Z (.Compare a [o] [b] pos) (x2 op fa fb) := by
  obtain ⟨ta, pa, h1⟩ := ha
  obtain ⟨tb, pb, h2⟩ := hb
  exact ⟨_, pe_cmpR ho pa pb hm, fun G I H σ τ s c s' Q w h q => x2_run hr h1 h2 w h q⟩
def xb {Z : Res} (f : EF Z) : EFb Z := fun τ s => match f τ s with
  | some (.bl k, s') => some (k, s')
  | _ => none
theorem xb_of {f : EF Z} {τ : List SV} {s s' : Z.S} {k : Bool} (h : xb f τ s = some (k, s')) : f τ s = some (.bl k, s') := by
  unfold xb at h
  split at h
  · rename_i e
    cases h
    exact e
  · cases h
theorem eb_cmp {o : CmpOp} {r : R2} {op : T → T → Option T} (ho : OpR X (compareOp o) r) (hr : Op2 X r op) (ha : EX X Z a fa) (hb : EX X Z b fb) (hm : behindInMarks o b = false) : EB X Z (.Compare a [o] [b] pos) (xb (x2 op fa fb)) := by
  obtain ⟨ta, pa, h1⟩ := ha
  obtain ⟨tb, pb, h2⟩ := hb
  exact ⟨_, pt_cmpR ho pa pb hm, fun G I H σ τ s c s' Q w h q => x2_run hr h1 h2 w (xb_of h) fun I' H' v m w' i => ⟨c, i, q I' H' m w'⟩⟩
theorem ex_ix {r : R2} {op : T → T → Option T} (ho : IxR X r) (hr : Op2 X r op) (ha : EX X Z a fa) (hb : EX X Z b fb) (hs : PlainIx b := by exact fun _ _ => rfl) : EX X Z (.Subscript a b pos) (x2 op fa fb) := by
  obtain ⟨ta, pa, h1⟩ := ha
  obtain ⟨tb, pb, h2⟩ := hb
  exact ⟨_, pe_ix ho pa pb hs, fun G I H σ τ s c s' Q w h q => x2_run hr h1 h2 w h q⟩
/-- a <= b < c and its like -/
def x3 {Z : Res} (op op' : T → T → Option T) (fa fb fc : EF Z) : EF Z := fun τ s => match fa τ s with
  | some (a, s1) => match fb τ s1 with
    | some (b, s2) => match op a b with
      | some (.bl true) => match fc τ s2 with
        | some (c, s3) => match op' b c with
          | some d => some (d, s3)
          | none => none
        | none => none
      | some (.bl false) => some (.bl false, s2)
      | _ => none
    | none => none
  | none => none
theorem OpR.or {f : Value → Value → Sem Value} {r r' : R2} (h : OpR X f r) (h' : OpR X f r') : OpR X f (fun x y H Q => r x y H Q ∨ r' x y H Q) := by
  intro pins s σ H x y v u Q I rx ry q
  rcases q with q | q
  · exact h pins s σ H x y v u Q I rx ry q
  · exact h' pins s σ H x y v u Q I rx ry q
theorem Op2.or {r r' : R2} {op op' : T → T → Option T} (h : Op2 X r op) (h' : Op2 X r' op') : Op2 X (fun x y H Q => r x y H Q ∨ r' x y H Q) (fun a b => match op a b with | some c => some c | none => op' a b) := by
  intro Z G I H σ τ s a b c x y Q w i1 i2 e q
  dsimp only at e
  split at e
  · rename_i d ed
    cases e
    exact .inl (h Z _ _ _ _ _ _ _ _ _ _ _ _ w i1 i2 ed q)
  · exact .inr (h' Z _ _ _ _ _ _ _ _ _ _ _ _ w i1 i2 e q)
theorem Hand.here {G I H : Hp} {σ : St} {τ : List SV} {s : Z.S} {t : T} {v : V} {Q : VK} (w : Rep X.K Z G I H σ τ s) (q : Hand X Z G I σ τ s t Q) (i : Is X.K I t v) : Q v H := q I H v (Same.refl _) w i
theorem Hand.new {G I H : Hp} {σ : St} {τ : List SV} {s : Z.S} {t : T} {Q : VK} {p : Addr} {o : HO} (w : Rep X.K Z G I H σ τ s) (q : Hand X Z G I σ τ s t Q) (hp : H p = none) (i : ∀ I', Same I I' → I' p = some o → Is X.K I' t (.ref p)) : Q (.ref p) (upd H p o) := by
  obtain ⟨m, w'⟩ := w.new (o := o) hp
  exact q _ _ _ m w' (i _ m upd_same)
/-! ### the operations -/
def addI : T → T → Option T
  | .int i, .int j => some (.int (i + j))
  | _, _ => none
def addS : T → T → Option T
  | .str x, .str y => if x.length + y.length ≤ sizeLine then some (.str (x ++ y)) else none
  | _, _ => none
def addL : T → T → Option T
  | .lst x, .lst y => if x.length + y.length ≤ sizeLine then some (.lst (x ++ y)) else none
  | _, _ => none
def addT : T → T → Option T
  | .tup x, .tup y => if x.length + y.length ≤ sizeLine then some (.tup (x ++ y)) else none
  | _, _ => none
def rAddS : R2 := fun x y H Q => ∃ i j, x = .str i ∧ y = .str j ∧ i.length + j.length ≤ sizeLine ∧ Q (.str (i ++ j)) H
theorem op2_addI : Op2 X (rI0 fun i j => .int (i + j)) addI := by
  intro Z G I H σ τ s a b c x y Q w i1 i2 e q
  unfold addI at e
  split at e
  · cases e
    have i1 : x = _ := i1
    have i2 : y = _ := i2
    exact ⟨_, _, i1, i2, q.here w rfl⟩
  · cases e
theorem op2_addS : Op2 X rAddS addS := by
  intro Z G I H σ τ s a b c x y Q w i1 i2 e q
  unfold addS at e
  split at e
  · split at e
    · rename_i hz
      cases e
      have i1 : x = _ := i1
      have i2 : y = _ := i2
      exact ⟨_, _, i1, i2, hz, q.here w rfl⟩
    · cases e
  · cases e
theorem op2_addL : Op2 X rCat addL := by
  intro Z G I H σ τ s a b c x y Q w i1 i2 e q
  unfold addL at e
  split at e
  · split at e
    · rename_i hz
      cases e
      obtain ⟨l, xs, rfl, h1, j1⟩ := i1
      obtain ⟨l', ys, rfl, h2, j2⟩ := i2
      refine ⟨l, l', xs, ys, rfl, rfl, w.sub _ _ h1, w.sub _ _ h2, by rw [j1.len, j2.len]; exact hz, fun p hp => q.new w hp fun I' m e => ⟨p, _, rfl, e, (j1.app j2).mono m⟩⟩
    · cases e
  · cases e
theorem op2_addT : Op2 X (rCatN X.K) addT := by
  intro Z G I H σ τ s a b c x y Q w i1 i2 e q
  unfold addT at e
  split at e
  · split at e
    · rename_i us vs hz
      cases e
      obtain ⟨l, xs, rfl, h1, j1⟩ := i1
      obtain ⟨l', ys, rfl, h2, j2⟩ := i2
      have n1 := j1.len
      have n2 := j2.len
      refine ⟨l, l', xs, ys, rfl, rfl, sqt_mono w.sub h1.1, sqt_mono w.sub h2.1, by rw [n1, n2]; exact hz, fun e => ?_, fun _ e => ?_, fun _ _ p ob hp c1 c2 => q.new w hp fun I' m e => ⟨p, _, rfl, sqp_new e c1 c2, (j1.app j2).mono m⟩⟩
      · subst e
        have e1 : us = [] := by cases us with | nil => rfl | cons _ _ => simp at n1
        subst e1
        exact q.here w ⟨l', ys, rfl, h2, j2⟩
      · subst e
        have e1 : vs = [] := by cases vs with | nil => rfl | cons _ _ => simp at n2
        subst e1
        rw [List.append_nil] at q
        exact q.here w ⟨l, xs, rfl, h1, j1⟩
    · cases e
  · cases e
def subI : T → T → Option T
  | .int i, .int j => some (.int (i - j))
  | _, _ => none
theorem op2_subI : Op2 X (rI0 fun i j => .int (i - j)) subI := by
  intro Z G I H σ τ s a b c x y Q w i1 i2 e q
  unfold subI at e
  split at e
  · cases e
    have i1 : x = _ := i1
    have i2 : y = _ := i2
    exact ⟨_, _, i1, i2, q.here w rfl⟩
  · cases e
def mulI : T → T → Option T
  | .int i, .int j => if (-(2 ^ 64) < i ∧ i < 2 ^ 64) ∨ (-(2 ^ 64) < j ∧ j < 2 ^ 64) then some (.int (i * j)) else none
  | _, _ => none
theorem op2_mulI : Op2 X (rI CMul fun i j => .int (i * j)) mulI := by
  intro Z G I H σ τ s a b c x y Q w i1 i2 e q
  unfold mulI at e
  split at e
  · split at e
    · rename_i hz
      cases e
      have i1 : x = _ := i1
      have i2 : y = _ := i2
      exact ⟨_, _, i1, i2, hz, q.here w rfl⟩
    · cases e
  · cases e
def modI : T → T → Option T
  | .int i, .int j => if 0 < j then some (.int (i % j)) else none
  | _, _ => none
theorem op2_modI : Op2 X (rI (fun _ j => 0 < j) fun i j => .int (i % j)) modI := by
  intro Z G I H σ τ s a b c x y Q w i1 i2 e q
  unfold modI at e
  split at e
  · split at e
    · rename_i hz
      cases e
      have i1 : x = _ := i1
      have i2 : y = _ := i2
      exact ⟨_, _, i1, i2, hz, q.here w rfl⟩
    · cases e
  · cases e
def divI : T → T → Option T
  | .int i, .int j => if 0 < j ∧ j < 1073741824 then some (.int (i / j)) else none
  | _, _ => none
theorem op2_divI : Op2 X (rI CDiv fun i j => .int (i / j)) divI := by
  intro Z G I H σ τ s a b c x y Q w i1 i2 e q
  unfold divI at e
  split at e
  · split at e
    · rename_i hz
      cases e
      have i1 : x = _ := i1
      have i2 : y = _ := i2
      exact ⟨_, _, i1, i2, hz, q.here w rfl⟩
    · cases e
  · cases e
/-- comparisons of ints -/
def cmpI (g : Int → Int → Bool) : T → T → Option T
  | .int i, .int j => some (.bl (g i j))
  | _, _ => none
theorem op2_cmpI {g : Int → Int → Bool} : Op2 X (rI0 fun i j => .bl (g i j)) (cmpI g) := by
  intro Z G I H σ τ s a b c x y Q w i1 i2 e q
  unfold cmpI at e
  split at e
  · cases e
    have i1 : x = _ := i1
    have i2 : y = _ := i2
    exact ⟨_, _, i1, i2, q.here w rfl⟩
  · cases e
/-- comparisons of texts -/
def cmpS (g : Str → Str → Bool) : T → T → Option T
  | .str i, .str j => some (.bl (g i j))
  | _, _ => none
def rS (g : Str → Str → Bool) : R2 := fun x y H Q => ∃ i j, x = .str i ∧ y = .str j ∧ Q (.bl (g i j)) H
theorem op2_cmpS {g : Str → Str → Bool} : Op2 X (rS g) (cmpS g) := by
  intro Z G I H σ τ s a b c x y Q w i1 i2 e q
  unfold cmpS at e
  split at e
  · cases e
    have i1 : x = _ := i1
    have i2 : y = _ := i2
    exact ⟨_, _, i1, i2, q.here w rfl⟩
  · cases e
/-- a sign in a text -/
def inS (neg : Bool) : T → T → Option T
  | .str ⟨⟨[c]⟩⟩, .str z => some (.bl (if neg then !decide (c ∈ z.cps.toList) else decide (c ∈ z.cps.toList)))
  | _, _ => none
def rInS (neg : Bool) : R2 := fun x y H Q => ∃ (c : Nat) (z : Str), x = .str ⟨#[c]⟩ ∧ y = .str z ∧ Q (.bl (if neg then !decide (c ∈ z.cps.toList) else decide (c ∈ z.cps.toList))) H
theorem op2_inS {neg : Bool} : Op2 X (rInS neg) (inS neg) := by
  intro Z G I H σ τ s a b c x y Q w i1 i2 e q
  unfold inS at e
  split at e
  · cases e
    have i1 : x = _ := i1
    have i2 : y = _ := i2
    exact ⟨_, _, i1, i2, q.here w rfl⟩
  · cases e
end
end L2.TL
/-! TL2: arguments, built-ins, tests, slices. -/
namespace L2.TL
open PySem PySem.Spec
open PyProof.Rows
section
variable {X : Cx} {Z : Res} {a b c e : Expr} {es : List Expr} {fa fb fc f : EF Z} {fs : EFs Z} {ft fu : EFb Z} {pos : Pos}
/-! ### argument lists -/
def xNil {Z : Res} : EFs Z := fun _ s => some ([], s)
def xCons {Z : Res} (f : EF Z) (fs : EFs Z) : EFs Z := fun τ s => match f τ s with
  | some (a, s1) => match fs τ s1 with
    | some (as, s2) => some (a :: as, s2)
    | none => none
  | none => none
theorem el_nil : EL X Z [] xNil := ⟨_, pa_nil, fun G I H σ τ s as s' Q w h q => by
  cases h
  exact q I H [] (Same.refl _) w IsL.nil⟩
theorem el_cons (he : EX X Z e f) (hr : EL X Z es fs) (hs : starEach (e :: es) X.env = (false, eval e X.env) :: starEach es X.env := by rfl) : EL X Z (e :: es) (xCons f fs) := by
  obtain ⟨te, pe, h1⟩ := he
  obtain ⟨tr, pr, h2⟩ := hr
  refine ⟨_, pa_cons pe pr hs, fun G I H σ τ s as s' Q w h q => ?_⟩
  unfold xCons at h
  split at h
  · rename_i a s1 ea
    split at h
    · rename_i as' s2 eb
      cases h
      refine h1 _ _ _ _ _ _ _ _ _ w ea fun I1 H1 v m1 w1 i1 => ?_
      refine h2 _ _ _ _ _ _ _ _ _ w1 eb fun I2 H2 vs m2 w2 i2 => ?_
      exact q I2 H2 (v :: vs) (m1.trans m2) w2 (IsL.cons (i1.mono m2) i2)
    · cases h
  · cases h
/-! ### displays -/
def xTup {Z : Res} (fs : EFs Z) : EF Z := fun τ s => match fs τ s with
  | some (as, s') => if as.length ≤ sizeLine then some (.tup as, s') else none
  | none => none
def xLst {Z : Res} (fs : EFs Z) : EF Z := fun τ s => match fs τ s with
  | some (as, s') => if as.length ≤ sizeLine then some (.lst as, s') else none
  | none => none
theorem ex_tup {k : Nat} (h : EL X Z es fs) : EX X Z (.Tuple es k pos) (xTup fs) := by
  obtain ⟨t, p, h1⟩ := h
  refine ⟨_, pe_tupN p, fun G I H σ τ s a s' Q w h q => ?_⟩
  unfold xTup at h
  split at h
  · rename_i as s2 ea
    split at h
    · rename_i hz
      cases h
      refine h1 _ _ _ _ _ _ _ _ _ w ea fun I1 H1 vs m1 w1 i1 => ⟨by rw [i1.len]; exact hz, fun p ob hp c1 c2 => ?_⟩
      obtain ⟨m2, w2⟩ := w1.new (o := .frz ob (.tup vs)) hp
      exact q _ _ _ (m1.trans m2) w2 ⟨p, vs, rfl, sqp_new upd_same c1 c2, i1.mono m2⟩
    · cases h
  · cases h
/-! ### what is freshly made: no one else has it -/
/-- behind an expression that makes a new object for the tree a -/
def HandF (X : Cx) (Z : Res) (G I : Hp) (σ : St) (τ : List SV) (s : Z.S) (a : T) (Q : VK) : Prop :=
  ∀ I' H' p o, Same I I' → Rep X.K Z G I' H' σ τ s → Own1 X.K Z G I' H' σ τ p o a → Q (.ref p) H'
theorem HandF.new {G I H : Hp} {σ : St} {τ : List SV} {s : Z.S} {t : T} {Q : VK} {p : Addr} {o : HO} (w : Rep X.K Z G I H σ τ s) (q : HandF X Z G I σ τ s t Q) (hp : H p = none) (c : Cn X.K I t o) : Q (.ref p) (upd H p o) := by
  obtain ⟨w', u⟩ := w.made hp c
  exact q _ _ _ _ (Same.refl _) w' u
def EN (X : Cx) (Z : Res) (e : Expr) (f : EF Z) : Prop :=
  ∃ t, PE X e t ∧ ∀ G I H σ τ s a s' Q, Rep X.K Z G I H σ τ s → f τ s = some (a, s') → HandF X Z G I σ τ s' a Q → t σ H Q
theorem ex_of_new (h : EN X Z e f) : EX X Z e f := by
  obtain ⟨t, p, h1⟩ := h
  refine ⟨t, p, fun G I H σ τ s a s' Q w h q => h1 _ _ _ _ _ _ _ _ _ w h fun I1 H1 p o m1 w1 u => ?_⟩
  obtain ⟨m2, w2⟩ := w1.freeze1 u
  exact q _ _ _ (m1.trans m2) w2 ((u.cn.mono m2).is upd_same)
theorem en_lst (h : EL X Z es fs) : EN X Z (.List es pos) (xLst fs) := by
  obtain ⟨t, p, h1⟩ := h
  refine ⟨_, pe_lst p, fun G I H σ τ s a s' Q w h q => ?_⟩
  unfold xLst at h
  split at h
  · rename_i as s2 ea
    split at h
    · rename_i hz
      cases h
      refine h1 _ _ _ _ _ _ _ _ _ w ea fun I1 H1 vs m1 w1 i1 => ⟨by rw [i1.len]; exact hz, fun p hp => HandF.new w1 (fun I2 H2 p o m2 => q I2 H2 p o (m1.trans m2)) hp i1⟩
    · cases h
  · cases h
/-! ### calls of built-ins -/
def Op1 (X : Cx) (r : List V → Hp → VK → Prop) (op : List T → Option T) : Prop :=
  ∀ (Z : Res) G I H σ τ s as c xs Q, Rep X.K Z G I H σ τ s → IsL X.K I as xs → op as = some c → Hand X Z G I σ τ s c Q → r xs H Q
def Op1N (X : Cx) (r : List V → Hp → VK → Prop) (op : List T → Option T) : Prop :=
  ∀ (Z : Res) G I H σ τ s as c xs Q, Rep X.K Z G I H σ τ s → IsL X.K I as xs → op as = some c → HandF X Z G I σ τ s c Q → r xs H Q
def xCall {Z : Res} (op : List T → Option T) (fs : EFs Z) : EF Z := fun τ s => match fs τ s with
  | some (as, s') => match op as with
    | some c => some (c, s')
    | none => none
  | none => none
theorem xCall_of {op : List T → Option T} {τ : List SV} {s s' : Z.S} {c : T} (h : xCall op fs τ s = some (c, s')) : ∃ as, fs τ s = some (as, s') ∧ op as = some c := by
  unfold xCall at h
  split at h
  · rename_i as s2 ea
    split at h
    · rename_i d ed
      cases h
      exact ⟨as, ea, ed⟩
    · cases h
  · cases h
theorem ex_callB {x : Str} {p : Pos} {id : String} {r : List V → Hp → VK → Prop} {op : List T → Option T} (hc : CallR X (.builtin id) r) (hr : Op1 X r op) (hg : Gl X x) (hm : X.mg x = none) (ha : EL X Z (e :: es) fs)
    (hv : bootBuiltins x = some (.builtin id) := by decide +kernel) (hn : x ≠ "__name__" := by decide) (hdb : (x == ("__debug__" : Str)) = false := by decide)
    (he : starEach (e :: es) X.env = (false, eval e X.env) :: starEach es X.env := by rfl) (hpl : (backTo pos (starEach es X.env)).any (·.1) = false := by rfl) : EX X Z (.Call (.Name x p) (e :: es) [] pos) (xCall op fs) := by
  obtain ⟨t, pa, h1⟩ := ha
  refine ⟨_, pe_callB hc hg hm hv pa hn hdb he hpl, fun G I H σ τ s a s' Q w h q => ?_⟩
  obtain ⟨as, ea, eo⟩ := xCall_of h
  exact h1 _ _ _ _ _ _ _ _ _ w ea fun I1 H1 vs m1 w1 i1 => hr Z _ _ _ _ _ _ _ _ _ _ w1 i1 eo fun I2 H2 v m2 w2 i2 => q I2 H2 v (m1.trans m2) w2 i2
theorem ex_callTy {x : Str} {p : Pos} {id : String} {r : List V → Hp → VK → Prop} {op : List T → Option T} (hc : CallR X (.type id) r) (hr : Op1 X r op) (hg : Gl X x) (hm : X.mg x = none) (ha : EL X Z (e :: es) fs)
    (hv : bootBuiltins x = some (.type id) := by decide +kernel) (hn : x ≠ "__name__" := by decide) (hdb : (x == ("__debug__" : Str)) = false := by decide)
    (he : starEach (e :: es) X.env = (false, eval e X.env) :: starEach es X.env := by rfl) (hpl : (backTo pos (starEach es X.env)).any (·.1) = false := by rfl) : EX X Z (.Call (.Name x p) (e :: es) [] pos) (xCall op fs) := by
  obtain ⟨t, pa, h1⟩ := ha
  refine ⟨_, pe_callTy hc hg hm hv pa hn hdb he hpl, fun G I H σ τ s a s' Q w h q => ?_⟩
  obtain ⟨as, ea, eo⟩ := xCall_of h
  exact h1 _ _ _ _ _ _ _ _ _ w ea fun I1 H1 vs m1 w1 i1 => hr Z _ _ _ _ _ _ _ _ _ _ w1 i1 eo fun I2 H2 v m2 w2 i2 => q I2 H2 v (m1.trans m2) w2 i2
theorem en_callB {x : Str} {p : Pos} {id : String} {r : List V → Hp → VK → Prop} {op : List T → Option T} (hc : CallR X (.builtin id) r) (hr : Op1N X r op) (hg : Gl X x) (hm : X.mg x = none) (ha : EL X Z (e :: es) fs)
    (hv : bootBuiltins x = some (.builtin id) := by decide +kernel) (hn : x ≠ "__name__" := by decide) (hdb : (x == ("__debug__" : Str)) = false := by decide)
    (he : starEach (e :: es) X.env = (false, eval e X.env) :: starEach es X.env := by rfl) (hpl : (backTo pos (starEach es X.env)).any (·.1) = false := by rfl) : EN X Z (.Call (.Name x p) (e :: es) [] pos) (xCall op fs) := by
  obtain ⟨t, pa, h1⟩ := ha
  refine ⟨_, pe_callB hc hg hm hv pa hn hdb he hpl, fun G I H σ τ s a s' Q w h q => ?_⟩
  obtain ⟨as, ea, eo⟩ := xCall_of h
  exact h1 _ _ _ _ _ _ _ _ _ w ea fun I1 H1 vs m1 w1 i1 => hr Z _ _ _ _ _ _ _ _ _ _ w1 i1 eo fun I2 H2 p o m2 w2 u => q I2 H2 p o (m1.trans m2) w2 u
theorem en_callTy {x : Str} {p : Pos} {id : String} {r : List V → Hp → VK → Prop} {op : List T → Option T} (hc : CallR X (.type id) r) (hr : Op1N X r op) (hg : Gl X x) (hm : X.mg x = none) (ha : EL X Z (e :: es) fs)
    (hv : bootBuiltins x = some (.type id) := by decide +kernel) (hn : x ≠ "__name__" := by decide) (hdb : (x == ("__debug__" : Str)) = false := by decide)
    (he : starEach (e :: es) X.env = (false, eval e X.env) :: starEach es X.env := by rfl) (hpl : (backTo pos (starEach es X.env)).any (·.1) = false := by rfl) : EN X Z (.Call (.Name x p) (e :: es) [] pos) (xCall op fs) := by
  obtain ⟨t, pa, h1⟩ := ha
  refine ⟨_, pe_callTy hc hg hm hv pa hn hdb he hpl, fun G I H σ τ s a s' Q w h q => ?_⟩
  obtain ⟨as, ea, eo⟩ := xCall_of h
  exact h1 _ _ _ _ _ _ _ _ _ w ea fun I1 H1 vs m1 w1 i1 => hr Z _ _ _ _ _ _ _ _ _ _ w1 i1 eo fun I2 H2 p o m2 w2 u => q I2 H2 p o (m1.trans m2) w2 u
/-- a built-in class as a value -/
def xTy {Z : Res} (n : String) : EF Z := fun _ _ => none
/-! ### isinstance with a built-in class -/
def tyName : T → Option String
  | .non => some "NoneType"
  | .bl _ => some "bool"
  | .int _ => some "int"
  | .str _ => some "str"
  | .tup _ => some "tuple"
  | .lst _ => some "list"
  | .dct _ => some "dict"
  | _ => none
def isTy (n : String) (t : T) : Option Bool := match tyName t with
  | some m => some (m == n || (m == "bool" && n == "int"))
  | none => none
theorem tyX_of {G I H : Hp} {σ : St} {τ : List SV} {s : Z.S} (w : Rep X.K Z G I H σ τ s) {t : T} {x : V} {n : String} (i : Is X.K I t x) (h : tyName t = some n) : TyX X.K H x (.type n) := by
  cases t with
  | non => cases h; have i : x = _ := i; subst i; exact .base .non
  | bl k => cases h; have i : x = _ := i; subst i; exact .base (.bl k)
  | int k => cases h; have i : x = _ := i; subst i; exact .base (.int k)
  | str k => cases h; have i : x = _ := i; subst i; exact .base (.str k)
  | lst ts =>
    cases h
    obtain ⟨a, xs, rfl, h1, _⟩ := i
    exact .base (.lst (w.sub _ _ h1))
  | dct ts =>
    cases h
    obtain ⟨a, xs, rfl, h1, _⟩ := i
    exact .base (.dK (w.sub _ _ h1))
  | tup ts =>
    cases h
    obtain ⟨a, xs, rfl, h1, _⟩ := i
    rcases h1.1 with (h1 | ⟨o, h1⟩) | ⟨o, its, m, h1, h2, _⟩
    · exact .base (.tup (w.sub _ _ h1))
    · exact .fTuple (w.sub _ _ h1)
    · exact .kTuple h1 h2
  | ins C fs => cases h
  | adr C => cases h
  | exc _ _ _ _ _ => cases h
  | ltp _ => cases h
  | exv _ _ => cases h
def xIs {Z : Res} (n : String) (f : EF Z) : EF Z := fun τ s => match f τ s with
  | some (a, s') => match isTy n a with
    | some k => some (.bl k, s')
    | none => none
  | none => none
theorem kit_ty {K : PySem.W.Frag} {t : T} {m n : String} (hm : tyName t = some m) (hn : n = "str" ∨ n = "int" ∨ n = "bool" ∨ n = "tuple" ∨ n = "list" ∨ n = "dict") :
    PySem.W.kitOne K (.type m) (.type n) = some (m == n || (m == "bool" && n == "int")) := by
  cases t <;> first | (cases hm; rcases hn with rfl | rfl | rfl | rfl | rfl | rfl <;> rfl) | (cases hm; done)
theorem ex_isi {x y : Str} {p p' : Pos} {n : String} (hg : Gl X x) (hm : X.mg x = none) (he : EX X Z e f) (hgy : Gl X y) (hmy : X.mg y = none) (hvy : bootBuiltins y = some (.type n) := by decide +kernel)
    (hn : n = "str" ∨ n = "int" ∨ n = "bool" ∨ n = "tuple" ∨ n = "list" ∨ n = "dict" := by decide) (hv : bootBuiltins x = some (.builtin "isinstance") := by decide +kernel) (hnn : x ≠ "__name__" := by decide) (hdb : (x == ("__debug__" : Str)) = false := by decide)
    (hnny : y ≠ "__name__" := by decide) (hdby : (y == ("__debug__" : Str)) = false := by decide)
    (hst : starEach (e :: [.Name y p']) X.env = (false, eval e X.env) :: starEach [.Name y p'] X.env := by rfl) (hpl : (backTo pos (starEach [.Name y p'] X.env)).any (·.1) = false := by rfl) :
    EX X Z (.Call (.Name x p) [e, .Name y p'] [] pos) (xIs n f) := by
  obtain ⟨t, pe, h1⟩ := he
  refine ⟨_, pe_callB call_isi hg hm hv (pa_cons pe (pa_cons (pe_bltn hgy hmy hvy (v := .ty n) rfl hnny hdby) pa_nil) hst) hnn hdb hst hpl, fun G I H σ τ s a s' Q w h q => ?_⟩
  unfold xIs at h
  split at h
  · rename_i a s2 ea
    split at h
    · rename_i k ek
      cases h
      refine h1 _ _ _ _ _ _ _ _ _ w ea fun I1 H1 v m1 w1 i1 => ?_
      unfold isTy at ek
      split at ek
      · rename_i m em
        cases ek
        exact ⟨v, .ty n, _, _, _, rfl, .ty n, tyX_of w1 i1 em, kit_ty em hn, q I1 H1 _ m1 w1 rfl⟩
      · cases ek
    · cases h
  · cases h
/-! ### truth, tests -/
def tru : T → Option Bool
  | .non => some false
  | .bl b => some b
  | .int i => some (i != 0)
  | .str x => if x.length ≤ sizeLine then some ((x.length : Int) != 0) else none
  | .tup ts => some (!ts.isEmpty)
  | .lst ts => some (!ts.isEmpty)
  | .dct ps => some (!ps.isEmpty)
  | _ => none
theorem isEmpty_len {α β : Type} {xs : List α} {ys : List β} (h : xs.length = ys.length) : (!ys.isEmpty) = !xs.isEmpty := by
  cases xs <;> cases ys <;> simp_all
theorem IsD.len {K : PySem.W.Frag} {I : Hp} : ∀ {ts : List (Key × T)} {xs : List (Key × V)}, IsD K I ts xs → xs.length = ts.length
  | [], _, h => by
    have h : _ = [] := h
    rw [h]; rfl
  | (_, _) :: _, _, h => by
    obtain ⟨x, r, rfl, _, z⟩ := h
    rw [List.length_cons, List.length_cons, IsD.len z]
theorem truV_of {G I H : Hp} {σ : St} {τ : List SV} {s : Z.S} (w : Rep X.K Z G I H σ τ s) {t : T} {x : V} {k : Bool} (i : Is X.K I t x) (h : tru t = some k) : TruV X.K x H k := by
  cases t with
  | non => cases h; have i : x = _ := i; subst i; rfl
  | bl b => cases h; have i : x = _ := i; subst i; rfl
  | int b => cases h; have i : x = _ := i; subst i; rfl
  | str b =>
    have i : x = _ := i
    subst i
    have h : (if b.length ≤ sizeLine then some ((b.length : Int) != 0) else none) = some k := h
    split at h
    · rename_i hz
      cases h
      exact ⟨hz, rfl⟩
    · cases h
  | lst ts =>
    cases h
    obtain ⟨a, xs, rfl, h1, j⟩ := i
    exact .inl ⟨xs, .of (w.sub _ _ h1), isEmpty_len j.len⟩
  | dct ts =>
    cases h
    obtain ⟨a, xs, rfl, h1, j⟩ := i
    exact .inr (.inr ⟨xs, w.sub _ _ h1, isEmpty_len j.len⟩)
  | tup ts =>
    cases h
    obtain ⟨a, xs, rfl, h1, j⟩ := i
    exact .inr (.inl ⟨xs, sqt_mono w.sub h1.1, isEmpty_len j.len⟩)
  | ins C fs => cases h
  | adr C => cases h
  | exc _ _ _ _ _ => cases h
  | ltp _ => cases h
  | exv _ _ => cases h
def xTru {Z : Res} (f : EF Z) : EFb Z := fun τ s => match f τ s with
  | some (a, s') => match tru a with
    | some k => some (k, s')
    | none => none
  | none => none
theorem eb_tru (ha : EX X Z a fa) (he : ∀ whole, isTrue a X.env whole = (do let v ← whole; standAt a.pos; holding [v] (truthy v)) := by intro _; rfl) : EB X Z a (xTru fa) := by
  obtain ⟨t, p, h1⟩ := ha
  refine ⟨_, pt_truth p he, fun G I H σ τ s k s' Q w h q => ?_⟩
  unfold xTru at h
  split at h
  · rename_i a s2 ea
    split at h
    · rename_i d ed
      cases h
      exact h1 _ _ _ _ _ _ _ _ _ w ea fun I1 H1 v m1 w1 i1 => ⟨_, truV_of w1 i1 ed, q I1 H1 m1 w1⟩
    · cases h
  · cases h
def xbNot {Z : Res} (f : EFb Z) : EFb Z := fun τ s => match f τ s with
  | some (k, s') => some (!k, s')
  | none => none
theorem eb_not (ha : EB X Z a ft) : EB X Z (.UnaryOp .Not a pos) (xbNot ft) := by
  obtain ⟨t, p, h1⟩ := ha
  refine ⟨_, pt_not p, fun G I H σ τ s k s' Q w h q => ?_⟩
  unfold xbNot at h
  split at h
  · rename_i d s2 ea
    cases h
    exact h1 _ _ _ _ _ _ _ _ _ w ea fun I1 H1 m1 w1 => q I1 H1 m1 w1
  · cases h
/-- tests whatever their whole is -/
def EW (X : Cx) (Z : Res) (e : Expr) (f : EFb Z) : Prop :=
  ∃ t, PW X e t ∧ ∀ G I H σ τ s a s' Q, Rep X.K Z G I H σ τ s → f τ s = some (a, s') → HandB X Z G I σ τ s' a Q → t σ H Q
theorem eb_w (h : EW X Z e ft) : EB X Z e ft := by
  obtain ⟨t, p, h1⟩ := h
  exact ⟨t, p.pt, h1⟩
def xbAnd {Z : Res} (f g : EFb Z) : EFb Z := fun τ s => match f τ s with
  | some (true, s') => g τ s'
  | some (false, s') => some (false, s')
  | none => none
def xbOr {Z : Res} (f g : EFb Z) : EFb Z := fun τ s => match f τ s with
  | some (true, s') => some (true, s')
  | some (false, s') => g τ s'
  | none => none
theorem ew_and1 (ha : EB X Z a ft) : EW X Z (.BoolOp .And [a] pos) ft := by
  obtain ⟨t, p, h1⟩ := ha
  exact ⟨t, pw_and1 p, h1⟩
theorem ew_or1 (ha : EB X Z a ft) : EW X Z (.BoolOp .Or [a] pos) ft := by
  obtain ⟨t, p, h1⟩ := ha
  exact ⟨t, pw_or1 p, h1⟩
theorem ew_and (ha : EB X Z a ft) (hb : EW X Z (.BoolOp .And (b :: es) pos) fu) : EW X Z (.BoolOp .And (a :: b :: es) pos) (xbAnd ft fu) := by
  obtain ⟨t, p, h1⟩ := ha
  obtain ⟨u, p', h2⟩ := hb
  refine ⟨_, pw_and p p', fun G I H σ τ s k s' Q w h q => ?_⟩
  unfold xbAnd at h
  split at h
  · rename_i s2 ea
    exact h1 _ _ _ _ _ _ _ _ _ w ea fun I1 H1 m1 w1 => iteT (h2 _ _ _ _ _ _ _ _ _ w1 h fun I2 H2 m2 w2 => q I2 H2 (m1.trans m2) w2)
  · rename_i s2 ea
    cases h
    exact h1 _ _ _ _ _ _ _ _ _ w ea fun I1 H1 m1 w1 => iteF (q I1 H1 m1 w1)
  · cases h
theorem ew_or (ha : EB X Z a ft) (hb : EW X Z (.BoolOp .Or (b :: es) pos) fu) : EW X Z (.BoolOp .Or (a :: b :: es) pos) (xbOr ft fu) := by
  obtain ⟨t, p, h1⟩ := ha
  obtain ⟨u, p', h2⟩ := hb
  refine ⟨_, pw_or p p', fun G I H σ τ s k s' Q w h q => ?_⟩
  unfold xbOr at h
  split at h
  · rename_i s2 ea
    cases h
    exact h1 _ _ _ _ _ _ _ _ _ w ea fun I1 H1 m1 w1 => iteT (q I1 H1 m1 w1)
  · rename_i s2 ea
    exact h1 _ _ _ _ _ _ _ _ _ w ea fun I1 H1 m1 w1 => iteF (h2 _ _ _ _ _ _ _ _ _ w1 h fun I2 H2 m2 w2 => q I2 H2 (m1.trans m2) w2)
  · cases h
/-- .. as values -/
def xAnd {Z : Res} (f g : EF Z) : EF Z := fun τ s => match f τ s with
  | some (a, s') => match tru a with
    | some true => g τ s'
    | some false => some (a, s')
    | none => none
  | none => none
def xOr {Z : Res} (f g : EF Z) : EF Z := fun τ s => match f τ s with
  | some (a, s') => match tru a with
    | some true => some (a, s')
    | some false => g τ s'
    | none => none
  | none => none
def xNot {Z : Res} (f : EF Z) : EF Z := fun τ s => match f τ s with
  | some (a, s') => match tru a with
    | some k => some (.bl (!k), s')
    | none => none
  | none => none
theorem ex_bop1 {op : BoolOp} (h : EX X Z a fa) : EX X Z (.BoolOp op [a] pos) fa := by
  obtain ⟨t, p, h1⟩ := h
  exact ⟨t, pe_one p, h1⟩
theorem ex_and (ha : EX X Z a fa) (hb : EX X Z (.BoolOp .And (b :: es) pos) fb) : EX X Z (.BoolOp .And (a :: b :: es) pos) (xAnd fa fb) := by
  obtain ⟨t, p, h1⟩ := ha
  obtain ⟨u, p', h2⟩ := hb
  refine ⟨_, pe_andT p p', fun G I H σ τ s k s' Q w h q => ?_⟩
  unfold xAnd at h
  split at h
  · rename_i a s2 ea
    refine h1 _ _ _ _ _ _ _ _ _ w ea fun I1 H1 v m1 w1 i1 => ?_
    split at h
    · rename_i et
      exact ⟨true, truV_of w1 i1 et, iteT (h2 _ _ _ _ _ _ _ _ _ w1 h fun I2 H2 v m2 w2 i2 => q I2 H2 v (m1.trans m2) w2 i2)⟩
    · rename_i et
      cases h
      exact ⟨false, truV_of w1 i1 et, iteF (q I1 H1 v m1 w1 i1)⟩
    · cases h
  · cases h
theorem ex_or (ha : EX X Z a fa) (hb : EX X Z (.BoolOp .Or (b :: es) pos) fb) : EX X Z (.BoolOp .Or (a :: b :: es) pos) (xOr fa fb) := by
  obtain ⟨t, p, h1⟩ := ha
  obtain ⟨u, p', h2⟩ := hb
  refine ⟨_, pe_orT p p', fun G I H σ τ s k s' Q w h q => ?_⟩
  unfold xOr at h
  split at h
  · rename_i a s2 ea
    refine h1 _ _ _ _ _ _ _ _ _ w ea fun I1 H1 v m1 w1 i1 => ?_
    split at h
    · rename_i et
      cases h
      exact ⟨true, truV_of w1 i1 et, iteT (q I1 H1 v m1 w1 i1)⟩
    · rename_i et
      exact ⟨false, truV_of w1 i1 et, iteF (h2 _ _ _ _ _ _ _ _ _ w1 h fun I2 H2 v m2 w2 i2 => q I2 H2 v (m1.trans m2) w2 i2)⟩
    · cases h
  · cases h
theorem ex_not (ha : EX X Z a fa) : EX X Z (.UnaryOp .Not a pos) (xNot fa) := by
  obtain ⟨t, p, h1⟩ := ha
  refine ⟨_, pe_notT p, fun G I H σ τ s k s' Q w h q => ?_⟩
  unfold xNot at h
  split at h
  · rename_i a s2 ea
    refine h1 _ _ _ _ _ _ _ _ _ w ea fun I1 H1 v m1 w1 i1 => ?_
    split at h
    · rename_i k et
      cases h
      exact ⟨k, truV_of w1 i1 et, q I1 H1 _ m1 w1 rfl⟩
    · cases h
  · cases h
def xIf {Z : Res} (ft : EFb Z) (fa fb : EF Z) : EF Z := fun τ s => match ft τ s with
  | some (true, s') => fa τ s'
  | some (false, s') => fb τ s'
  | none => none
theorem ex_if (hc : EB X Z c ft) (ha : EX X Z a fa) (hb : EX X Z b fb) : EX X Z (.IfExp c a b pos) (xIf ft fa fb) := by
  obtain ⟨tc, pc, h0⟩ := hc
  obtain ⟨ta, pa, h1⟩ := ha
  obtain ⟨tb, pb, h2⟩ := hb
  refine ⟨_, pe_ifExp pc pa pb, fun G I H σ τ s k s' Q w h q => ?_⟩
  unfold xIf at h
  split at h
  · rename_i s2 ea
    exact h0 _ _ _ _ _ _ _ _ _ w ea fun I1 H1 m1 w1 => iteT (h1 _ _ _ _ _ _ _ _ _ w1 h fun I2 H2 v m2 w2 i2 => q I2 H2 v (m1.trans m2) w2 i2)
  · rename_i s2 ea
    exact h0 _ _ _ _ _ _ _ _ _ w ea fun I1 H1 m1 w1 => iteF (h2 _ _ _ _ _ _ _ _ _ w1 h fun I2 H2 v m2 w2 i2 => q I2 H2 v (m1.trans m2) w2 i2)
  · cases h
/-! ### methods of built-in types -/
def OpM (X : Cx) (r : V → List V → Hp → VK → Prop) (op : T → List T → Option T) : Prop :=
  ∀ (Z : Res) G I H σ τ s a as c x xs Q, Rep X.K Z G I H σ τ s → Is X.K I a x → IsL X.K I as xs → op a as = some c → Hand X Z G I σ τ s c Q → r x xs H Q
def xMeth {Z : Res} (ty : String) (op : T → List T → Option T) (f : EF Z) (fs : EFs Z) : EF Z := fun τ s => match f τ s with
  | some (a, s1) => if tyName a = some ty then match fs τ s1 with
      | some (as, s2) => match op a as with
        | some c => some (c, s2)
        | none => none
      | none => none
    else none
  | none => none
theorem tyV_of {G I H : Hp} {σ : St} {τ : List SV} {s : Z.S} (w : Rep X.K Z G I H σ τ s) {t : T} {x : V} {n : String} (i : Is X.K I t x) (h : tyName t = some n) (hn : n = "str" ∨ n = "dict" ∨ n = "list") : tyV X.K n x H := by
  cases t with
  | str k => cases h; have i : x = _ := i; subst i; rfl
  | lst ts =>
    cases h
    obtain ⟨a, xs, rfl, h1, _⟩ := i
    exact .inl ⟨rfl, xs, .of (w.sub _ _ h1)⟩
  | dct ts =>
    cases h
    obtain ⟨a, xs, rfl, h1, _⟩ := i
    exact .inr (.inr (.inl ⟨rfl, .inl ⟨xs, w.sub _ _ h1⟩⟩))
  | _ => first | (cases h; done) | (cases h; rcases hn with h | h | h <;> exact absurd h (by decide))
theorem ex_m0 {o : Expr} {fo : EF Z} {name : Str} {apos cpos : Pos} {Ty id : String} {r : V → List V → Hp → VK → Prop} {op : T → List T → Option T} (pa : PlainAttrs Ty) (slot : Slot Ty name id) (hty : typeOf (.builtin id) = pure (.type "method_descriptor"))
    (hm : MtR X id r) (hr : OpM X r op) (ho : EX X Z o fo) (hn : Ty = "str" ∨ Ty = "dict" ∨ Ty = "list" := by decide) (hbase : attributeBase o name X.env (eval o X.env) = eval o X.env := by rfl) (hline : (apos.endLine == cpos.line) = true := by rfl) :
    EX X Z (.Call (.Attribute o name apos) [] [] cpos) (xMeth Ty op fo xNil) := by
  obtain ⟨t, p, h1⟩ := ho
  refine ⟨_, pe_bm0 pa slot hty hm p hbase hline, fun G I H σ τ s a s' Q w h q => ?_⟩
  unfold xMeth at h
  split at h
  · rename_i a s1 ea
    split at h
    · rename_i et
      refine h1 _ _ _ _ _ _ _ _ _ w ea fun I1 H1 v m1 w1 i1 => ⟨tyV_of w1 i1 et hn, ?_⟩
      unfold xNil at h
      dsimp only at h
      split at h
      · rename_i c ec
        cases h
        exact hr Z _ _ _ _ _ _ _ _ _ _ _ _ w1 i1 IsL.nil ec fun I2 H2 v m2 w2 i2 => q I2 H2 v (m1.trans m2) w2 i2
      · cases h
    · cases h
  · cases h
theorem ex_m {o : Expr} {fo : EF Z} {name : Str} {apos cpos : Pos} {Ty id : String} {r : V → List V → Hp → VK → Prop} {op : T → List T → Option T} (pa : PlainAttrs Ty) (slot : Slot Ty name id) (hty : typeOf (.builtin id) = pure (.type "method_descriptor"))
    (hm : MtR X id r) (hr : OpM X r op) (ho : EX X Z o fo) (ha : EL X Z (e :: es) fs) (hn : Ty = "str" ∨ Ty = "dict" ∨ Ty = "list" := by decide) (hbase : attributeBase o name X.env (eval o X.env) = eval o X.env := by rfl)
    (hfew : ((backTo cpos (starEach (e :: es) X.env)).all (fun x => !x.1) && (backToKw cpos (keywordEach [] X.env)).all (fun x => x.1.isSome)
      && decide ((e :: es).length + ([] : List Keyword).length + (if ([] : List Keyword).isEmpty then 0 else 1) < 30)) = true := by rfl)
    (hline : (apos.endLine == cpos.line) = true := by rfl) (hs : starEach (e :: es) X.env = (false, eval e X.env) :: starEach es X.env := by rfl) (hplain : (backTo cpos (starEach es X.env)).any (·.1) = false := by rfl) :
    EX X Z (.Call (.Attribute o name apos) (e :: es) [] cpos) (xMeth Ty op fo fs) := by
  obtain ⟨t, p, h1⟩ := ho
  obtain ⟨ta, pas, h2⟩ := ha
  refine ⟨_, pe_bm pa slot hty hm p pas hbase hfew hline hs hplain, fun G I H σ τ s a s' Q w h q => ?_⟩
  unfold xMeth at h
  split at h
  · rename_i a s1 ea
    split at h
    · rename_i et
      split at h
      · rename_i as s2 eas
        split at h
        · rename_i c ec
          cases h
          refine h1 _ _ _ _ _ _ _ _ _ w ea fun I1 H1 v m1 w1 i1 => ⟨tyV_of w1 i1 et hn, ?_⟩
          refine h2 _ _ _ _ _ _ _ _ _ w1 eas fun I2 H2 vs m2 w2 i2 => ?_
          exact hr Z _ _ _ _ _ _ _ _ _ _ _ _ w2 (i1.mono m2) i2 ec fun I3 H3 v m3 w3 i3 => q I3 H3 v ((m1.trans m2).trans m3) w3 i3
        · cases h
      · cases h
    · cases h
  · cases h
end
end L2.TL
/-! TL3: statements told by trees. -/
namespace L2.TL
open PySem PySem.Spec
open PyProof.Rows
/-- how a statement ends -/
inductive Out (S : Type) where
  | nx (τ : List SV) (s : S) | rt (a : T) (s : S) | bk (τ : List SV) (s : S) | ct (τ : List SV) (s : S) | xc (C : Addr) (f : Str) (a : T) (τ : List SV) (s : S)
abbrev SF (Z : Res) := List SV → Z.S → Option (Out Z.S)
def Post (X : Cx) (Z : Res) (G I : Hp) (D : Ends) : Out Z.S → Prop
  | .nx τ s => ∀ I' H' σ', Same I I' → Rep X.K Z G I' H' σ' τ s → D.nx σ' H'
  | .bk τ s => ∀ I' H' σ', Same I I' → Rep X.K Z G I' H' σ' τ s → D.bk σ' H'
  | .ct τ s => ∀ I' H' σ', Same I I' → Rep X.K Z G I' H' σ' τ s → D.ct σ' H'
  | .rt a s => ∀ I' H' v, Same I I' → Rep0 Z G I' H' s → Is X.K I' a v → D.rt v H'
  | .xc C f a τ s => ∃ W : WX, Takes X W ∧ ∀ I' H' σ' d y, Same I I' → Rep X.K Z G I' H' σ' τ s → I' d = some (.xd [(f, y)]) → Is X.K I' a y → W (.ref C) (some d) σ' H'
theorem Post.mono {X : Cx} {Z : Res} {G I I1 : Hp} {D : Ends} {o : Out Z.S} (m : Same I I1) (h : Post X Z G I D o) : Post X Z G I1 D o := by
  cases o with
  | nx τ s => exact fun I' H' σ' m' => h I' H' σ' (m.trans m')
  | bk τ s => exact fun I' H' σ' m' => h I' H' σ' (m.trans m')
  | ct τ s => exact fun I' H' σ' m' => h I' H' σ' (m.trans m')
  | rt a s => exact fun I' H' v m' => h I' H' v (m.trans m')
  | xc C f a τ s =>
    obtain ⟨W, tk, q⟩ := h
    exact ⟨W, tk, fun I' H' σ' d y m' => q I' H' σ' d y (m.trans m')⟩
def SX (X : Cx) (Z : Res) (st : Stmt) (g : SF Z) : Prop :=
  ∃ t, PS X st t ∧ ∀ G I H σ τ s o D, Rep X.K Z G I H σ τ s → g τ s = some o → Post X Z G I D o → t D σ H
def SS (X : Cx) (Z : Res) (st : List Stmt) (g : SF Z) : Prop :=
  ∃ t, PSs X st t ∧ ∀ G I H σ τ s o D, Rep X.K Z G I H σ τ s → g τ s = some o → Post X Z G I D o → t D σ H
section
variable {X : Cx} {Z : Res} {st : Stmt} {sts : List Stmt} {g g1 g2 : SF Z} {e e1 e2 c : Expr} {f f1 f2 : EF Z} {fs : EFs Z} {fb : EFb Z} {pos : Pos}
def sSkip {Z : Res} : SF Z := fun τ s => some (.nx τ s)
def sSeq {Z : Res} (g1 g2 : SF Z) : SF Z := fun τ s => match g1 τ s with
  | some (.nx τ' s') => g2 τ' s'
  | o => o
theorem ss_nil : SS X Z [] sSkip := ⟨_, pss_nil, fun G I H σ τ s o D w h q => by
  cases h
  exact q I H σ (Same.refl _) w⟩
theorem ss_one (h : SX X Z st g) : SS X Z [st] g := by
  obtain ⟨t, p, h1⟩ := h
  exact ⟨t, pss_one p, h1⟩
theorem ss_cons (h1 : SX X Z st g1) (h2 : SS X Z sts g2) : SS X Z (st :: sts) (sSeq g1 g2) := by
  obtain ⟨t, p, q1⟩ := h1
  obtain ⟨u, p', q2⟩ := h2
  refine ⟨_, pss_cons p p', fun G I H σ τ s o D w h q => ?_⟩
  show t { D with nx := u D } σ H
  unfold sSeq at h
  split at h
  · rename_i τ' s' e1
    exact q1 _ _ _ _ _ _ _ _ w e1 fun I' H' σ' m w' => q2 _ _ _ _ _ _ _ _ w' h (q.mono m)
  · rename_i hn
    cases o with
    | nx τ' s' => exact absurd h (hn _ _)
    | bk τ' s' => exact q1 _ _ _ _ _ _ _ _ w h q
    | ct τ' s' => exact q1 _ _ _ _ _ _ _ _ w h q
    | rt a s' => exact q1 _ _ _ _ _ _ _ _ w h q
    | xc C f a τ' s' => exact q1 _ _ _ _ _ _ _ _ w h q
theorem sx_pass : SX X Z (.Pass pos) sSkip := ⟨_, ps_pass, fun G I H σ τ s o D w h q => by
  cases h
  exact q I H σ (Same.refl _) w⟩
theorem sx_doc {x : Str} {j : Nat} {pos' : Pos} : SX X Z (.Expr (.Constant (.str x) j pos) pos') sSkip := ⟨_, ps_doc, fun G I H σ τ s o D w h q => by
  cases h
  exact q I H σ (Same.refl _) w⟩
def sBk {Z : Res} : SF Z := fun τ s => some (.bk τ s)
def sCt {Z : Res} : SF Z := fun τ s => some (.ct τ s)
theorem sx_bk : SX X Z (.Break pos) sBk := ⟨_, ps_break, fun G I H σ τ s o D w h q => by
  cases h
  exact q I H σ (Same.refl _) w⟩
theorem sx_ct : SX X Z (.Continue pos) sCt := ⟨_, ps_continue, fun G I H σ τ s o D w h q => by
  cases h
  exact q I H σ (Same.refl _) w⟩
def sRet {Z : Res} (f : EF Z) : SF Z := fun τ s => match f τ s with
  | some (a, s') => some (.rt a s')
  | none => none
theorem sx_ret (h : EX X Z e f) : SX X Z (.Return (some e) pos) (sRet f) := by
  obtain ⟨t, p, h1⟩ := h
  refine ⟨_, ps_ret p, fun G I H σ τ s o D w h q => ?_⟩
  unfold sRet at h
  split at h
  · rename_i a s' ea
    cases h
    exact h1 _ _ _ _ _ _ _ _ _ w ea fun I' H' v m w' i => q I' H' v m w'.toRep0 i
  · cases h
def sRetN {Z : Res} : SF Z := fun _ s => some (.rt .non s)
theorem sx_retN : SX X Z (.Return none pos) sRetN := ⟨_, ps_retN, fun G I H σ τ s o D w h q => by
  cases h
  exact q I H .non (Same.refl _) w.toRep0 rfl⟩
def sDrop {Z : Res} (f : EF Z) : SF Z := fun τ s => match f τ s with
  | some (_, s') => some (.nx τ s')
  | none => none
theorem sx_expr (h : EX X Z e f) (hs : swapsWith e none pos.line X.env = pure false := by rfl) : SX X Z (.Expr e pos) (sDrop f) := by
  obtain ⟨t, p, h1⟩ := h
  refine ⟨_, ps_expr p hs, fun G I H σ τ s o D w h q => ?_⟩
  unfold sDrop at h
  split at h
  · rename_i a s' ea
    cases h
    exact h1 _ _ _ _ _ _ _ _ _ w ea fun I' H' v m w' i => q I' H' σ m w'
  · cases h
def sIf {Z : Res} (c : EFb Z) (g1 g2 : SF Z) : SF Z := fun τ s => match c τ s with
  | some (true, s') => g1 τ s'
  | some (false, s') => g2 τ s'
  | none => none
theorem sx_if {a b : List Stmt} (hc : EB X Z c fb) (ha : SS X Z a g1) (hb : SS X Z b g2) : SX X Z (.If c a b pos) (sIf fb g1 g2) := by
  obtain ⟨t, p, h0⟩ := hc
  obtain ⟨ta, pa, h1⟩ := ha
  obtain ⟨tb, pb, h2⟩ := hb
  refine ⟨_, ps_if p pa pb, fun G I H σ τ s o D w h q => ?_⟩
  unfold sIf at h
  split at h
  · rename_i s' ec
    exact h0 _ _ _ _ _ _ _ _ _ w ec fun I' H' m w' => iteT (h1 _ _ _ _ _ _ _ _ w' h (q.mono m))
  · rename_i s' ec
    exact h0 _ _ _ _ _ _ _ _ _ w ec fun I' H' m w' => iteF (h2 _ _ _ _ _ _ _ _ w' h (q.mono m))
  · cases h
/-! ### stores -/
def sSet {Z : Res} (i : Nat) (f : EF Z) : SF Z := fun τ s => match f τ s with
  | some (a, s') => if i < τ.length then some (.nx (τ.set i (.im a)) s') else none
  | none => none
/-- .. of a new object, the slot's own -/
def sSetO {Z : Res} (i : Nat) (f : EF Z) : SF Z := fun τ s => match f τ s with
  | some (a, s') => if i < τ.length then some (.nx (τ.set i (.ow a)) s') else none
  | none => none
theorem sx_set {i : Nat} {x : Str} {pos' : Pos} (hN : X.N.Nodup) (hi : X.N[i]? = some x := by rfl) (he : EX X Z e f) (hx : Loc X.env.scope x := by first | exact Or.inl rfl | exact Or.inr rfl) (hs : swapsWith e (some (.Name x pos')) pos.line X.env = pure false := by rfl)
    (hf : X.fn x = true ∨ X.env.scope.names.lookup x = some .local := by first | exact .inl rfl | exact .inr rfl | assumption) : SX X Z (.Assign [.Name x pos'] e pos) (sSet i f) := by
  obtain ⟨t, p, h1⟩ := he
  refine ⟨_, ps_set hN hi hx p hs hf, fun G I H σ τ s o D w h q => ?_⟩
  unfold sSet at h
  split at h
  · rename_i a s' ea
    split at h
    · rename_i hl
      cases h
      exact h1 _ _ _ _ _ _ _ _ _ w ea fun I' H' v m w' i' => q I' H' _ m (w'.setIm hl i')
    · cases h
  · cases h
theorem sx_setO {i : Nat} {x : Str} {pos' : Pos} (hN : X.N.Nodup) (hi : X.N[i]? = some x := by rfl) (he : EN X Z e f) (hx : Loc X.env.scope x := by first | exact Or.inl rfl | exact Or.inr rfl) (hs : swapsWith e (some (.Name x pos')) pos.line X.env = pure false := by rfl)
    (hf : X.fn x = true ∨ X.env.scope.names.lookup x = some .local := by first | exact .inl rfl | exact .inr rfl | assumption) : SX X Z (.Assign [.Name x pos'] e pos) (sSetO i f) := by
  obtain ⟨t, p, h1⟩ := he
  refine ⟨_, ps_set hN hi hx p hs hf, fun G I H σ τ s o D w h q => ?_⟩
  unfold sSetO at h
  split at h
  · rename_i a s' ea
    split at h
    · rename_i hl
      cases h
      exact h1 _ _ _ _ _ _ _ _ _ w ea fun I' H' p o m w' u => q I' H' _ m (w'.setOw hl u)
    · cases h
  · cases h
/-- a slot's own object lasts from now on: ahead of any block -/
def sFreeze {Z : Res} (i : Nat) (g : SF Z) : SF Z := fun τ s => match τ[i]? with
  | some (.ow t) => g (τ.set i (.im t)) s
  | _ => none
theorem ss_freeze (i : Nat) (h : SS X Z sts g) : SS X Z sts (sFreeze i g) := by
  obtain ⟨t, p, h1⟩ := h
  refine ⟨t, p, fun G I H σ τ s o D w h q => ?_⟩
  unfold sFreeze at h
  split at h
  · rename_i a ea
    obtain ⟨I', m, w'⟩ := w.freeze ea
    exact h1 _ _ _ _ _ _ _ _ w' h (q.mono m)
  · cases h
/-! ### targets -/
abbrev GF := T → List SV → Option (List SV)
def GX (X : Cx) (Z : Res) (tg : Expr) (g : GF) : Prop :=
  ∃ t : TG, PG X tg t ∧ ∀ G I H σ τ (s : Z.S) a v τ' Q, Rep X.K Z G I H σ τ s → Is X.K I a v → g a τ = some τ' → (∀ σ', Rep X.K Z G I H σ' τ' s → Q σ' H) → t v σ H Q
abbrev GFs := List T → List SV → Option (List SV)
def GXs (X : Cx) (Z : Res) (tg : List Expr) (g : GFs) : Prop :=
  ∃ t : TGs, PGs X tg t ∧ ∀ G I H σ τ (s : Z.S) as vs τ' Q, Rep X.K Z G I H σ τ s → IsL X.K I as vs → g as τ = some τ' → (∀ σ', Rep X.K Z G I H σ' τ' s → Q σ' H) → t vs σ H Q
def gSet (i : Nat) : GF := fun a τ => if i < τ.length then some (τ.set i (.im a)) else none
theorem gx_name {i : Nat} {x : Str} (hN : X.N.Nodup) (hi : X.N[i]? = some x := by rfl) (hx : Loc X.env.scope x := by first | exact Or.inl rfl | exact Or.inr rfl)
    (hf : X.fn x = true ∨ X.env.scope.names.lookup x = some .local := by first | exact .inl rfl | exact .inr rfl | assumption) : GX X Z (.Name x pos) (gSet i) := by
  refine ⟨_, pg_name hN hi hx hf, fun G I H σ τ s a v τ' Q w ia h q => ?_⟩
  unfold gSet at h
  split at h
  · rename_i hl
    cases h
    exact q _ (w.setIm hl ia)
  · cases h
def gsNil : GFs := fun as τ => match as with
  | [] => some τ
  | _ => none
def gsCons (g : GF) (gs : GFs) : GFs := fun as τ => match as with
  | a :: r => match g a τ with
    | some τ' => gs r τ'
    | none => none
  | _ => none
theorem gxs_nil : GXs X Z [] gsNil := ⟨_, pgs_nil, fun G I H σ τ s as vs τ' Q w ia h q => by
  cases as with
  | nil =>
    cases h
    exact ⟨ia.zero, q σ w⟩
  | cons _ _ => cases h⟩
theorem gxs_cons {tg : Expr} {tgs : List Expr} {g : GF} {gs : GFs} (h1 : GX X Z tg g) (h2 : GXs X Z tgs gs) (hs : (assignEach (tg :: tgs) X.env).map (·.2) = assign tg X.env :: (assignEach tgs X.env).map (·.2) := by rfl) : GXs X Z (tg :: tgs) (gsCons g gs) := by
  obtain ⟨t, p, q1⟩ := h1
  obtain ⟨u, p', q2⟩ := h2
  refine ⟨_, pgs_cons p p' hs, fun G I H σ τ s as vs τ' Q w ia h q => ?_⟩
  cases as with
  | nil => cases h
  | cons a r =>
    obtain ⟨v, vr, rfl, i1, i2⟩ := ia
    have h : (match g a τ with
      | some τ' => gs r τ'
      | none => none) = some τ' := h
    split at h
    · rename_i τ1 e1
      exact ⟨v, vr, rfl, q1 _ _ _ _ _ s _ _ _ _ w i1 e1 fun σ1 w1 => q2 _ _ _ _ _ s _ _ _ _ w1 i2 h q⟩
    · cases h
def tupItems : T → Option (List T)
  | .tup as => some as
  | .ltp as => some as
  | _ => none
theorem tupItems_is {K : PySem.W.Frag} {I : Hp} {a : T} {as : List T} {v : V} (h : tupItems a = some as) (i : Is K I a v) : ∃ b xs, v = .ref b ∧ SqT K I b xs ∧ IsL K I as xs := by
  cases a <;> cases h
  · obtain ⟨b, xs, e, q, j⟩ := i
    exact ⟨b, xs, e, q.1, j⟩
  · exact i
def gTupT (n : Nat) (gs : GFs) : GF := fun a τ => match tupItems a with
  | some as => if as.length = n then gs as τ else none
  | none => none
theorem gx_tup {es : List Expr} {k : Nat} {gs : GFs} {n : Nat} (hc : X.calm = true) (h : GXs X Z es gs) (hn : (assignEach es X.env).length = n := by rfl) (hst : (assignEach es X.env).findIdx? (·.1) = none := by rfl) : GX X Z (.Tuple es k pos) (gTupT n gs) := by
  obtain ⟨t, p, q1⟩ := h
  refine ⟨_, pg_tup hc p hn hst, fun G I H σ τ s a v τ' Q w ia h q => ?_⟩
  unfold gTupT at h
  split at h
  · rename_i as eas
    split at h
    · rename_i hl
      obtain ⟨b, xs, rfl, hq, j⟩ := tupItems_is eas ia
      exact ⟨b, xs, rfl, sqt_mono w.sub hq, by rw [j.len]; exact hl, q1 _ _ _ _ _ s _ _ _ _ w j h q⟩
    · cases h
  · cases h
/-- a target of any form = e -/
def sAsg {Z : Res} (f : EF Z) (g : GF) : SF Z := fun τ s => match f τ s with
  | some (a, s') => match g a τ with
    | some τ' => some (.nx τ' s')
    | none => none
  | none => none
theorem sx_asg {tg : Expr} {g : GF} (he : EX X Z e f) (hg : GX X Z tg g) (hs : swapsWithSole [tg] e pos.line X.env = pure false := by rfl) (hw : swappedStores [tg] e X.env = pure none := by rfl)
    (h1 : (assignEach [tg] X.env).map (·.2) = [assign tg X.env] := by rfl) : SX X Z (.Assign [tg] e pos) (sAsg f g) := by
  obtain ⟨t, p, q1⟩ := he
  obtain ⟨u, p', q2⟩ := hg
  refine ⟨_, ps_asg p p' hs hw h1, fun G I H σ τ s o D w h q => ?_⟩
  unfold sAsg at h
  split at h
  · rename_i a s' ea
    split at h
    · rename_i τ' et
      cases h
      exact q1 _ _ _ _ _ _ _ _ _ w ea fun I' H' v m w' i' => q2 _ _ _ _ _ s' _ _ _ _ w' i' et fun σ' w2 => q I' H' σ' m w2
    · cases h
  · cases h
/-- a, b = x, y (both sides written) -/
def sPar {Z : Res} (i j : Nat) (fs : EFs Z) : SF Z := fun τ s => match fs τ s with
  | some ([a, b], s') => if i < τ.length ∧ j < τ.length then some (.nx ((τ.set i (.im a)).set j (.im b)) s') else none
  | _ => none
theorem sx_par {i j : Nat} {x y : Str} {a b : Expr} {px py pt : Pos} {kt k2 : Nat} {pt2 : Pos} (hc : X.calm = true) (hN : X.N.Nodup) (hi : X.N[i]? = some x := by rfl) (hj : X.N[j]? = some y := by rfl) (ha : EL X Z [a, b] fs) (hij : i ≠ j := by decide)
    (hx : X.env.scope.names.lookup x = some .local := by rfl) (hy : X.env.scope.names.lookup y = some .local := by rfl)
    (hw : swappedStores [.Tuple [.Name x px, .Name y py] kt pt] (.Tuple [a, b] k2 pt2) X.env = pure (some [x, y]) := by rfl)
    (hs : swapsWithSole [.Tuple [.Name x px, .Name y py] kt pt] (.Tuple [a, b] k2 pt2) pos.line X.env = pure false := by rfl) :
    SX X Z (.Assign [.Tuple [.Name x px, .Name y py] kt pt] (.Tuple [a, b] k2 pt2) pos) (sPar i j fs) := by
  obtain ⟨t, p, q1⟩ := ha
  refine ⟨_, ps_par hc hN hi hj hij hx hy p hw hs, fun G I H σ τ s o D w h q => ?_⟩
  unfold sPar at h
  split at h
  · rename_i u v s' ea
    split at h
    · rename_i hl
      cases h
      refine q1 _ _ _ _ _ _ _ _ _ w ea fun I' H' vs m w' il => ?_
      obtain ⟨y1, y2, rfl, i1, i2⟩ := il.two
      exact ⟨y1, y2, rfl, q I' H' _ m ((w'.setIm hl.1 i1).setIm (by rw [List.length_set]; exact hl.2) i2)⟩
    · cases h
  · cases h
def sPar3 {Z : Res} (i j l : Nat) (fs : EFs Z) : SF Z := fun τ s => match fs τ s with
  | some ([a, b, c], s') => if i < τ.length ∧ j < τ.length ∧ l < τ.length then some (.nx (((τ.set i (.im a)).set j (.im b)).set l (.im c)) s') else none
  | _ => none
/-! ### what is walked -/
/-- J hands out the items, whatever else is made meanwhile -/
def Walks' (K : PySem.W.Frag) (J : It) (I0 : Hp) (items : List T) : Prop :=
  ∀ I H, Same I0 I → Same I H → J.stop items.length H ∧ ∀ (i : Nat) (t : T), items[i]? = some t → J.go i H ∧ ∀ x H', J.yld i H x H' → ∃ I', Ext (fun _ => False) I H I' H' ∧ Is K I' t x
def IX (X : Cx) (Z : Res) (tg it : Expr) (f : EFs Z) : Prop :=
  ∃ wi, PI X tg it wi ∧ ∀ G I H σ τ s items s' R, Rep X.K Z G I H σ τ s → f τ s = some (items, s') → (∀ I' H' J, Same I I' → Rep X.K Z G I' H' σ τ s' → Walks' X.K J I' items → R J H') → wi σ H R
/-- a list or a tuple -/
def iSeq {Z : Res} (f : EF Z) : EFs Z := fun τ s => match f τ s with
  | some (.lst ts, s') => some (ts, s')
  | _ => none
def iTupl {Z : Res} (f : EF Z) : EFs Z := fun τ s => match f τ s with
  | some (.tup ts, s') => some (ts, s')
  | _ => none
theorem sqT_inj {G I H : Hp} {σ : St} {τ : List SV} {s : Z.S} : True := trivial
theorem ix_lst {tg : Expr} (h : EX X Z e f) : IX X Z tg e (iSeq f) := by
  obtain ⟨t, p, h1⟩ := h
  refine ⟨_, pi_list p, fun G I H σ τ s items s' R w h q => ?_⟩
  unfold iSeq at h
  split at h
  · rename_i ts s2 ea
    cases h
    refine h1 _ _ _ _ _ _ _ _ _ w ea fun I' H' v m w' i => ?_
    obtain ⟨a, xs, rfl, ha, j⟩ := i
    refine ⟨a, rfl, ⟨xs, .of (w'.sub _ _ ha)⟩, q I' H' _ m w' fun I2 H2 m2 s2 => ?_⟩
    have hs : SqL X.K H2 a xs := .of (s2 _ _ (m2 _ _ ha))
    refine ⟨⟨xs, hs, by rw [j.len]; exact Nat.le_refl _⟩, fun i t e => ?_⟩
    obtain ⟨x, e1, e2⟩ := j.at e
    refine ⟨⟨xs, x, hs, e1⟩, fun y H3 hy => ?_⟩
    obtain ⟨rfl, hy⟩ := hy
    have := hy xs hs
    rw [e1] at this
    cases this
    exact ⟨I2, Ext.refl s2, e2.mono m2⟩
  · cases h
theorem ix_tupl {tg : Expr} (h : EX X Z e f) : IX X Z tg e (iTupl f) := by
  obtain ⟨t, p, h1⟩ := h
  refine ⟨_, pi_tup p, fun G I H σ τ s items s' R w h q => ?_⟩
  unfold iTupl at h
  split at h
  · rename_i ts s2 ea
    cases h
    refine h1 _ _ _ _ _ _ _ _ _ w ea fun I' H' v m w' i => ?_
    obtain ⟨a, xs, rfl, ha, j⟩ := i
    refine ⟨a, rfl, ⟨xs, sqt_mono w'.sub ha.1⟩, q I' H' _ m w' fun I2 H2 m2 s2 => ?_⟩
    have hs : SqT X.K H2 a xs := sqt_mono s2 (sqt_mono m2 ha.1)
    refine ⟨⟨xs, hs, by rw [j.len]; exact Nat.le_refl _⟩, fun i t e => ?_⟩
    obtain ⟨x, e1, e2⟩ := j.at e
    refine ⟨⟨xs, x, hs, e1⟩, fun y H3 hy => ?_⟩
    obtain ⟨rfl, hy⟩ := hy
    have := hy xs hs
    rw [e1] at this
    cases this
    exact ⟨I2, Ext.refl s2, e2.mono m2⟩
  · cases h
/-- range(n), range(a, b) -/
def intsFrom (lo : Int) : Nat → List T
  | 0 => []
  | n + 1 => .int lo :: intsFrom (lo + 1) n
theorem intsFrom_len : ∀ (n : Nat) (lo : Int), (intsFrom lo n).length = n
  | 0, _ => rfl
  | n + 1, lo => by rw [intsFrom, List.length_cons, intsFrom_len n]
theorem intsFrom_at : ∀ (n : Nat) (lo : Int) (i : Nat) (t : T), (intsFrom lo n)[i]? = some t → i < n ∧ t = .int (lo + i)
  | 0, _, _, _, h => by simp [intsFrom] at h
  | n + 1, lo, 0, t, h => by
    simp [intsFrom] at h
    subst h
    exact ⟨Nat.succ_pos _, by simp⟩
  | n + 1, lo, i + 1, t, h => by
    obtain ⟨h1, h2⟩ := intsFrom_at n (lo + 1) i t (by simpa [intsFrom] using h)
    subst h2
    refine ⟨Nat.succ_lt_succ h1, ?_⟩
    have : lo + 1 + (i : Int) = lo + ((i + 1 : Nat) : Int) := by push_cast; omega
    rw [this]
def iRng {Z : Res} (f : EF Z) : EFs Z := fun τ s => match f τ s with
  | some (.int n, s') => if -(2 ^ 62) ≤ n ∧ n < 2 ^ 62 then some (intsFrom 0 n.toNat, s') else none
  | _ => none
def iRngAB {Z : Res} (f1 f2 : EF Z) : EFs Z := fun τ s => match f1 τ s with
  | some (.int m, s1) => match f2 τ s1 with
    | some (.int n, s') => if -(2 ^ 62) ≤ m ∧ m < 2 ^ 62 ∧ -(2 ^ 62) ≤ n ∧ n < 2 ^ 62 then some (intsFrom m (n - m).toNat, s') else none
    | _ => none
  | _ => none
theorem walks_range (K : PySem.W.Frag) (I0 : Hp) (lo : Int) (n : Nat) : Walks' K (Itr lo n) I0 (intsFrom lo n) := fun I H m sb => by
  rw [intsFrom_len]
  refine ⟨Nat.le_refl _, fun i t e => ?_⟩
  obtain ⟨h1, rfl⟩ := intsFrom_at _ _ _ _ e
  refine ⟨h1, fun x H' hy => ?_⟩
  obtain ⟨rfl, rfl⟩ := hy
  exact ⟨I, Ext.refl sb, rfl⟩
theorem ix_rng {tg : Expr} {p : Pos} (hg : Gl X "range") (hm : X.mg "range" = none) (h : EX X Z e f) (hs : starEach [e] X.env = [(false, eval e X.env)] := by rfl) : IX X Z tg (.Call (.Name "range" p) [e] [] pos) (iRng f) := by
  obtain ⟨t, pe, h1⟩ := h
  refine ⟨_, pi_range1 hg hm (pa_cons pe pa_nil (by rw [hs]; rfl)) hs, fun G I H σ τ s items s' R w h q => ?_⟩
  unfold iRng at h
  split at h
  · rename_i n s2 ea
    split at h
    · rename_i hn
      cases h
      refine h1 _ _ _ _ _ _ _ _ _ w ea fun I' H' v m w' i => ?_
      have i : v = _ := i
      subst i
      exact ⟨n, rfl, hn.1, hn.2, q I' H' _ m w' (walks_range _ _ _ _)⟩
    · cases h
  · cases h
theorem ix_rngAB {tg : Expr} {p : Pos} (hg : Gl X "range") (hm : X.mg "range" = none) (h : EX X Z e1 f1) (h' : EX X Z e2 f2) (hs : starEach [e1, e2] X.env = [(false, eval e1 X.env), (false, eval e2 X.env)] := by rfl) (hs2 : starEach [e2] X.env = [(false, eval e2 X.env)] := by rfl) :
    IX X Z tg (.Call (.Name "range" p) [e1, e2] [] pos) (iRngAB f1 f2) := by
  obtain ⟨t, pe, q1⟩ := h
  obtain ⟨t', pe', q2⟩ := h'
  refine ⟨_, pi_range2 hg hm (pa_cons pe (pa_cons pe' pa_nil (by rw [hs2]; rfl)) (by rw [hs, hs2])) hs hs2, fun G I H σ τ s items s' R w h q => ?_⟩
  unfold iRngAB at h
  split at h
  · rename_i n s2 ea
    split at h
    · rename_i k s3 eb
      split at h
      · rename_i hn
        cases h
        refine q1 _ _ _ _ _ _ _ _ _ w ea fun I' H' v m w' i => ?_
        refine q2 _ _ _ _ _ _ _ _ _ w' eb fun I2 H2 v2 m2 w2 i2 => ?_
        have i : v = _ := i
        have i2 : v2 = _ := i2
        subst i i2
        exact ⟨n, k, rfl, hn, q I2 H2 _ (m.trans m2) w2 (walks_range _ _ _ _)⟩
      · cases h
    · cases h
  · cases h
/-- a text, sign by sign -/
def signs (x : Str) : List T := x.cps.toList.map fun c => .str ⟨#[c]⟩
def iStr {Z : Res} (f : EF Z) : EFs Z := fun τ s => match f τ s with
  | some (.str x, s') => some (signs x, s')
  | _ => none
theorem ix_str' {tg : Expr} (h : EX X Z e f) : IX X Z tg e (iStr f) := by
  obtain ⟨t, p, h1⟩ := h
  refine ⟨_, pi_str p, fun G I H σ τ s items s' R w h q => ?_⟩
  unfold iStr at h
  split at h
  · rename_i x s2 ea
    cases h
    refine h1 _ _ _ _ _ _ _ _ _ w ea fun I' H' v m w' i => ?_
    have i : v = _ := i
    subst i
    refine ⟨x, rfl, q I' H' _ m w' fun I2 H2 m2 sb => ?_⟩
    have hl : (signs x).length = x.cps.size := by simp [signs]
    rw [hl]
    refine ⟨Nat.le_refl _, fun i t e => ?_⟩
    have hi : i < x.cps.size := by
      have := (List.getElem?_eq_some_iff.mp e).1
      omega
    refine ⟨hi, fun y H3 hy => ?_⟩
    obtain ⟨rfl, c, hc, rfl⟩ := hy
    refine ⟨I2, Ext.refl sb, ?_⟩
    unfold signs at e
    rw [List.getElem?_map, Array.getElem?_toList, hc] at e
    cases e
    rfl
  · cases h
/-! ### for, while -/
def sFor {Z : Res} (gt : GF) (gb : SF Z) : List T → SF Z
  | [] => fun τ s => some (.nx τ s)
  | a :: r => fun τ s => match gt a τ with
    | some τ1 => match gb τ1 s with
      | some (.nx τ2 s2) => sFor gt gb r τ2 s2
      | some (.ct τ2 s2) => sFor gt gb r τ2 s2
      | some (.bk τ2 s2) => some (.nx τ2 s2)
      | some (.rt v s2) => some (.rt v s2)
      | some (.xc C f v τ2 s2) => some (.xc C f v τ2 s2)
      | none => none
    | none => none
def sForE {Z : Res} (fi : EFs Z) (gt : GF) (gb : SF Z) : SF Z := fun τ s => match fi τ s with
  | some (items, s') => sFor gt gb items τ s'
  | none => none
theorem drop_at {α : Type} {l : List α} {i : Nat} {a : α} {r : List α} (h : l.drop i = a :: r) : l[i]? = some a ∧ l.drop (i + 1) = r := by
  have hi : i < l.length := by
    rcases Nat.lt_or_ge i l.length with h' | h'
    · exact h'
    · rw [List.drop_eq_nil_of_le h'] at h
      cases h
  rw [List.drop_eq_getElem_cons hi] at h
  injection h with h1 h2
  exact ⟨by rw [List.getElem?_eq_getElem hi, h1], h2⟩
theorem sx_for {tg it : Expr} {body : List Stmt} {fi : EFs Z} {gt : GF} {gb : SF Z} (hp : PassesOwn (model X.prog X.w) X.A X.env X.xe) (hc : X.calm = true) (hi : IX X Z tg it fi) (hg : GX X Z tg gt) (hb : SS X Z body gb)
    (hs : ∀ x, foldedSetIterable it X.env x = pure x := by intro _; rfl) : SX X Z (.For tg it body [] pos) (sForE fi gt gb) := by
  obtain ⟨wi, pi, hwi⟩ := hi
  obtain ⟨tg', pg, hg⟩ := hg
  obtain ⟨tb, pb, hb⟩ := hb
  refine ⟨_, ps_for hp hc pi pg pb hs, fun G I H σ τ s o D w h q => ?_⟩
  unfold sForE at h
  split at h
  · rename_i items s1 ei
    refine hwi _ _ _ _ _ _ _ _ _ w ei fun I1 H1 J m1 w1 wk => ?_
    refine ⟨fun i m σ H => m = items.length - i ∧ i ≤ items.length ∧ ∃ I τ s, Same I1 I ∧ Rep X.K Z G I H σ τ s ∧ sFor gt gb (items.drop i) τ s = some o, ⟨_, rfl, Nat.zero_le _, I1, τ, s1, Same.refl _, w1, by rw [List.drop_zero]; exact h⟩, ?_⟩
    rintro i m σ2 H2 ⟨rfl, hle, I2, τ2, s2, m2, w2, e2⟩
    obtain ⟨st, gy⟩ := wk I2 H2 m2 w2.sub
    cases ed : items.drop i with
    | nil =>
      have hi : i = items.length := by
        have := congrArg List.length ed
        rw [List.length_drop, List.length_nil] at this
        omega
      subst hi
      rw [ed] at e2
      cases e2
      exact .inl ⟨st, q I2 H2 σ2 (m1.trans m2) w2⟩
    | cons a r =>
      obtain ⟨ea, er⟩ := drop_at ed
      have hi : i < items.length := (List.getElem?_eq_some_iff.mp ea).1
      obtain ⟨go, yl⟩ := gy i a ea
      rw [ed] at e2
      have e2 : (match gt a τ2 with
        | some τ1 => match gb τ1 s2 with
          | some (.nx τ2 s2) => sFor gt gb r τ2 s2
          | some (.ct τ2 s2) => sFor gt gb r τ2 s2
          | some (.bk τ2 s2) => some (.nx τ2 s2)
          | some (.rt v s2) => some (.rt v s2)
          | some (.xc C f v τ2 s2) => some (.xc C f v τ2 s2)
          | none => none
        | none => none) = some o := e2
      refine .inr ⟨go, fun σ H => ∃ I τ s, Same I1 I ∧ Rep X.K Z G I H σ τ s ∧ sFor gt gb r τ s = some o, fun σ' H' ⟨I', τ', s', hm, hw, he⟩ => ⟨items.length - (i + 1), by omega, rfl, hi, I', τ', s', hm, hw, by rw [er]; exact he⟩, fun x H3 hy => ?_⟩
      obtain ⟨I3, ex, ix⟩ := yl x H3 hy
      have w3 := w2.extN ex
      split at e2
      · rename_i τ3 et
        refine hg _ _ _ _ _ s2 _ _ _ _ w3 ix et fun σ3 w4 => ?_
        have m3 := m2.trans ex.im
        split at e2
        · rename_i τ4 s4 eb
          exact hb _ _ _ _ _ _ _ _ w4 eb fun I' H' σ' hm hw => ⟨I', τ4, s4, m3.trans hm, hw, e2⟩
        · rename_i τ4 s4 eb
          exact hb _ _ _ _ _ _ _ _ w4 eb fun I' H' σ' hm hw => ⟨I', τ4, s4, m3.trans hm, hw, e2⟩
        · rename_i τ4 s4 eb
          cases e2
          exact hb _ _ _ _ _ _ _ _ w4 eb fun I' H' σ' hm hw => q I' H' σ' (m1.trans (m3.trans hm)) hw
        · rename_i v s4 eb
          cases e2
          exact hb _ _ _ _ _ _ _ _ w4 eb fun I' H' v' hm hw hi' => q I' H' v' (m1.trans (m3.trans hm)) hw hi'
        · rename_i C f v τ4 s4 eb
          cases e2
          exact hb _ _ _ _ _ _ _ _ w4 eb (Post.mono (D := D) (m1.trans m3) q)
        · cases e2
      · cases e2
  · cases h
def sWhileN {Z : Res} (c : EFb Z) (gb : SF Z) : Nat → SF Z
  | 0 => fun _ _ => none
  | n + 1 => fun τ s => match c τ s with
    | some (false, s1) => some (.nx τ s1)
    | some (true, s1) => match gb τ s1 with
      | some (.nx τ2 s2) => sWhileN c gb n τ2 s2
      | some (.ct τ2 s2) => sWhileN c gb n τ2 s2
      | some (.bk τ2 s2) => some (.nx τ2 s2)
      | some (.rt v s2) => some (.rt v s2)
      | some (.xc C f v τ2 s2) => some (.xc C f v τ2 s2)
      | none => none
    | none => none
open Classical in
/-- .. however many turns it takes -/
noncomputable def sWhile {Z : Res} (c : EFb Z) (gb : SF Z) : SF Z := fun τ s => if h : ∃ n o, sWhileN c gb n τ s = some o then sWhileN c gb h.choose τ s else none
theorem sWhileN_succ {c : EFb Z} {gb : SF Z} : ∀ (n : Nat) (τ : List SV) (s : Z.S) (o : Out Z.S), sWhileN c gb n τ s = some o → sWhileN c gb (n + 1) τ s = some o
  | 0, _, _, _, h => by cases h
  | n + 1, τ, s, o, h => by
    unfold sWhileN at h ⊢
    split at h
    · exact h
    · split at h
      · exact sWhileN_succ n _ _ _ h
      · exact sWhileN_succ n _ _ _ h
      · exact h
      · exact h
      · exact h
      · cases h
    · cases h
theorem sWhileN_le {c : EFb Z} {gb : SF Z} {n m : Nat} (hnm : n ≤ m) {τ : List SV} {s : Z.S} {o : Out Z.S} (h : sWhileN c gb n τ s = some o) : sWhileN c gb m τ s = some o := by
  induction hnm with
  | refl => exact h
  | step _ ih => exact sWhileN_succ _ _ _ _ ih
theorem sWhile_eq {c : EFb Z} {gb : SF Z} {n : Nat} {τ : List SV} {s : Z.S} {o : Out Z.S} (h : sWhileN c gb n τ s = some o) : sWhile c gb τ s = some o := by
  have hx : ∃ n o, sWhileN c gb n τ s = some o := ⟨n, o, h⟩
  unfold sWhile
  rw [dif_pos hx]
  obtain ⟨o', h'⟩ := hx.choose_spec
  rw [h']
  have e1 := sWhileN_le (Nat.le_max_left n hx.choose) h
  have e2 := sWhileN_le (Nat.le_max_right n hx.choose) h'
  rw [e1] at e2
  exact e2.symm
theorem sWhile_some {c : EFb Z} {gb : SF Z} {τ : List SV} {s : Z.S} {o : Out Z.S} (h : sWhile c gb τ s = some o) : ∃ n, sWhileN c gb n τ s = some o := by
  unfold sWhile at h
  split at h
  · exact ⟨_, h⟩
  · cases h
theorem sx_while {body : List Stmt} {gb : SF Z} (hp : PassesOwn (model X.prog X.w) X.A X.env X.xe) (hc : EB X Z c fb) (hb : SS X Z body gb) : SX X Z (.While c body [] pos) (sWhile fb gb) := by
  obtain ⟨tc, pc, hc⟩ := hc
  obtain ⟨tb, pb, hb⟩ := hb
  refine ⟨_, ps_while hp pc pb, fun G I H σ τ s o D w h q => ?_⟩
  obtain ⟨n, h⟩ := sWhile_some h
  refine ⟨fun m σ H => ∃ I' τ s, Same I I' ∧ Rep X.K Z G I' H σ τ s ∧ sWhileN fb gb m τ s = some o, ⟨n, I, τ, s, Same.refl _, w, h⟩, ?_⟩
  rintro m σ1 H1 ⟨I1, τ1, s1, m1, w1, e1⟩
  cases m with
  | zero => cases e1
  | succ m =>
    unfold sWhileN at e1
    split at e1
    · rename_i s2 ec
      cases e1
      exact hc _ _ _ _ _ _ _ _ _ w1 ec fun I2 H2 m2 w2 => iteF (q I2 H2 σ1 (m1.trans m2) w2)
    · rename_i s2 ec
      refine hc _ _ _ _ _ _ _ _ _ w1 ec fun I2 H2 m2 w2 => iteT ⟨fun σ H => ∃ I' τ s, Same I I' ∧ Rep X.K Z G I' H σ τ s ∧ sWhileN fb gb m τ s = some o, fun σ' H' hh => ⟨m, Nat.lt_succ_self _, hh⟩, ?_⟩
      have m3 := m1.trans m2
      split at e1
      · rename_i τ4 s4 eb
        exact hb _ _ _ _ _ _ _ _ w2 eb fun I' H' σ' hm hw => ⟨I', τ4, s4, m3.trans hm, hw, e1⟩
      · rename_i τ4 s4 eb
        exact hb _ _ _ _ _ _ _ _ w2 eb fun I' H' σ' hm hw => ⟨I', τ4, s4, m3.trans hm, hw, e1⟩
      · rename_i τ4 s4 eb
        cases e1
        exact hb _ _ _ _ _ _ _ _ w2 eb fun I' H' σ' hm hw => q I' H' σ' (m3.trans hm) hw
      · rename_i v s4 eb
        cases e1
        exact hb _ _ _ _ _ _ _ _ w2 eb fun I' H' v' hm hw hi' => q I' H' v' (m3.trans hm) hw hi'
      · rename_i C f v τ4 s4 eb
        cases e1
        exact hb _ _ _ _ _ _ _ _ w2 eb (Post.mono (D := D) m3 q)
      · cases e1
    · cases e1
end
end L2.TL
/-! TL4: comprehensions, calls, defs. -/
namespace L2.TL
open PySem PySem.Spec
open PyProof.Rows
/-- the reading of an expression, by its tree function alone -/
def tX (K : PySem.W.Frag) (Z : Res) (f : EF Z) : TE := fun σ H Q => ∃ G I τ s a s', Rep K Z G I H σ τ s ∧ f τ s = some (a, s') ∧ ∀ I' H' v, Same I I' → Rep K Z G I' H' σ τ s' → Is K I' a v → Q v H'
def tXb (K : PySem.W.Frag) (Z : Res) (f : EFb Z) : TT := fun σ H Q => ∃ G I τ s a s', Rep K Z G I H σ τ s ∧ f τ s = some (a, s') ∧ ∀ I' H', Same I I' → Rep K Z G I' H' σ τ s' → Q a H'
def tXg (K : PySem.W.Frag) (Z : Res) (g : GF) : TG := fun v σ H Q => ∃ G I τ, ∃ s : Z.S, ∃ a τ', Rep K Z G I H σ τ s ∧ Is K I a v ∧ g a τ = some τ' ∧ ∀ σ', Rep K Z G I H σ' τ' s → Q σ' H
section
variable {X : Cx} {Z : Res} {e : Expr} {f : EF Z} {fb : EFb Z} {tg : Expr} {g : GF} {pos : Pos}
theorem EX.pe (h : EX X Z e f) : PE X e (tX X.K Z f) := by
  obtain ⟨t, p, h1⟩ := h
  exact ⟨fun pins s σ H Q I ⟨G, I0, τ, z, a, z', w, e, q⟩ => p.run pins s σ H Q I (h1 _ _ _ _ _ _ _ _ _ w e q)⟩
theorem EB.pt (h : EB X Z e fb) : PT X e (tXb X.K Z fb) := by
  obtain ⟨t, p, h1⟩ := h
  exact ⟨fun pins s σ H Q I ⟨G, I0, τ, z, a, z', w, e, q⟩ => p.run pins s σ H Q I (h1 _ _ _ _ _ _ _ _ _ w e q)⟩
theorem GX.pg (h : GX X Z tg g) : PG X tg (tXg X.K Z g) := by
  obtain ⟨t, p, h1⟩ := h
  exact ⟨fun pins s σ H v u Q I r ⟨G, I0, τ, z, a, τ', w, i, e, q⟩ => p.run pins s σ H v u Q I r (h1 _ _ _ _ _ z _ _ _ _ w i e q)⟩
/-! ### list comprehensions -/
/-- the items' results: where the test lets them, in order; the slots as they are ahead of each turn -/
def lcGo {Z : Res} (gt : GF) (ft : EFb Z) (fe : EF Z) (τ : List SV) : List T → Z.S → Option (List T × Z.S)
  | [], s => some ([], s)
  | a :: r, s => match gt a τ with
    | some τ1 => match ft τ1 s with
      | some (true, s1) => match fe τ1 s1 with
        | some (b, s2) => match lcGo gt ft fe τ r s2 with
          | some (bs, s3) => some (b :: bs, s3)
          | none => none
        | none => none
      | some (false, s1) => lcGo gt ft fe τ r s1
      | none => none
    | none => none
def isOw : SV → Bool
  | .ow _ => true
  | _ => false
def xLc {Z : Res} (vs : List Nat) (fi : EFs Z) (gt : GF) (ft : EFb Z) (fe : EF Z) : EF Z := fun τ s => match fi τ s with
  | some (items, s1) => if items.length ≤ sizeLine ∧ (vs.all fun v => match τ[v]? with
        | some x => !isOw x
        | none => true) = true then match lcGo gt ft fe (wipeT τ vs) items s1 with
      | some (bs, s2) => some (.lst bs, s2)
      | none => none
    else none
  | none => none
def xYes {Z : Res} : EFb Z := fun _ s => some (true, s)
/-- the clause's test: none or one -/
def ETs (X : Cx) (Z : Res) (ifs : List Expr) (f : EFb Z) : Prop := PTs X ifs (tXb X.K Z f)
theorem ets_nil : ETs X Z [] xYes := ⟨fun pins s σ H Q I ⟨G, I0, τ, z, a, z', w, e, q⟩ => pts_nil.run pins s σ H Q I (by
  cases e
  exact q I0 H (Same.refl _) w)⟩
theorem ets_one (h : EB X Z e fb) : ETs X Z [e] fb := pts_one h.pt
theorem lcGo_len {gt : GF} {ft : EFb Z} {fe : EF Z} {τ : List SV} : ∀ {items : List T} {s s' : Z.S} {bs : List T}, lcGo gt ft fe τ items s = some (bs, s') → bs.length ≤ items.length
  | [], _, _, _, h => by
    cases h
    exact Nat.le_refl _
  | a :: r, _, _, _, h => by
    unfold lcGo at h
    split at h
    · split at h
      · split at h
        · split at h
          · rename_i e
            cases h
            exact Nat.succ_le_succ (lcGo_len e)
          · cases h
        · cases h
      · exact Nat.le_succ_of_le (lcGo_len h)
      · cases h
    · cases h
theorem wipe_get {σ : St} {i : Nat} : ∀ {vs : List Nat}, i ∈ vs → i < σ.length → (L2.wipe σ vs)[i]? = some none
  | [], h, _ => by simp at h
  | v :: vs, h, hl => by
    unfold L2.wipe
    by_cases hv : v = i
    · subst hv
      rw [List.getElem?_set_self (by rw [wipe_length]; exact hl)]
    · rw [List.getElem?_set_ne hv]
      exact wipe_get (by rcases List.mem_cons.mp h with e | e; exact absurd e.symm hv; exact e) hl
theorem wipe_ext {σ σ' : St} {vs : List Nat} (hl : σ.length = σ'.length) (h : ∀ i, i ∉ vs → σ[i]? = σ'[i]?) : L2.wipe σ vs = L2.wipe σ' vs := by
  apply List.ext_getElem?
  intro i
  by_cases hi : i ∈ vs
  · by_cases hlt : i < σ.length
    · rw [wipe_get hi hlt, wipe_get hi (by omega)]
    · rw [List.getElem?_eq_none (by rw [wipe_length]; omega), List.getElem?_eq_none (by rw [wipe_length]; omega)]
  · rw [wipe_out hi, wipe_out hi]
    exact h i hi
theorem wipe_wipe (σ : St) (vs : List Nat) : L2.wipe (L2.wipe σ vs) vs = L2.wipe σ vs := wipe_ext (wipe_length _ _) fun _ hi => wipe_out hi
theorem Rep.back {K : PySem.W.Frag} {Gx Ix Hx : Hp} {σ σ2 : St} {τ τ2 : List SV} {sx : Z.S} {vs : List Nat} (wx : Rep K Z Gx Ix Hx σ2 τ2 sx) (hσ : L2.wipe σ2 vs = L2.wipe σ vs) (hτ : ∀ i, i ∉ vs → τ2[i]? = (wipeT τ vs)[i]?) (hl : σ.length = τ.length) :
    Rep K Z Gx Ix Hx (L2.wipe σ vs) (wipeT τ vs) sx := by
  have eσ : ∀ i, i ∉ vs → σ2[i]? = (L2.wipe σ vs)[i]? := fun i hi => by rw [← hσ, wipe_out hi]
  have out : ∀ (i : Nat) (x : SV), (wipeT τ vs)[i]? = some x → x ≠ .un → i ∉ vs := fun i x e hx => by
    rcases wipeT_get e with ⟨_, h⟩ | ⟨h, _⟩
    · exact absurd h hx
    · exact h
  refine ⟨wx.toRep0, by rw [wipe_length, wipeT_length]; exact hl, fun i t e => ?_, fun i t e => ?_, fun i j t u p hij e1 e2 e3 => ?_⟩
  · have hi := out i _ e (fun z => by cases z)
    rw [← eσ i hi]
    exact wx.im i t (by rw [hτ i hi]; exact e)
  · have hi := out i _ e (fun z => by cases z)
    rw [← eσ i hi]
    exact wx.ow i t (by rw [hτ i hi]; exact e)
  · have hi := out i _ e1 (fun z => by cases z)
    have hj := out j _ e2 (fun z => by cases z)
    rw [← eσ i hi] at e3
    rw [← eσ j hj]
    exact wx.inj i j t u p hij (by rw [hτ i hi]; exact e1) (by rw [hτ j hj]; exact e2) e3
theorem Rep.reguard {K : PySem.W.Frag} {G I H : Hp} {σ : St} {τ : List SV} {s : Z.S} {D : Addr} {o o' : HO} (w : Rep K Z (upd G D o) I H σ τ s) (nF : ¬ Z.F D) : Rep K Z (upd G D o') I (upd H D o') σ τ s := by
  obtain ⟨nI, _⟩ := w.fr D o upd_same
  refine ⟨⟨fun b u e => by rw [upd_ne (ne_of_none e nI)]; exact w.sub b u e, Z.loc s I H _ _ w.res (Same.refl _) fun q hq => upd_ne fun z => nF (by rw [← z]; exact hq), fun q hq => ?_, fun q u e => ?_⟩, w.len, w.im, fun i t e => ?_, w.inj⟩
  · have hq' : q ≠ D := fun z => nF (by rw [← z]; exact hq)
    have := w.rf q hq
    rw [upd_ne hq'] at this ⊢
    exact this
  · by_cases hq : q = D
    · subst hq
      rw [upd_same] at e ⊢
      exact ⟨nI, e⟩
    · rw [upd_ne hq] at e ⊢
      have := w.fr q u (by rw [upd_ne hq]; exact e)
      exact this
  · obtain ⟨q, u, h1, h2, h3, h4, h5, h6⟩ := w.ow i t e
    have hq : q ≠ D := fun z => by
      subst z
      rw [upd_same] at h3
      cases h3
    refine ⟨q, u, h1, h2, ?_, h4, by rw [upd_ne hq]; exact h5, h6⟩
    rw [upd_ne hq] at h3 ⊢
    exact h3
/-- a comprehension's target -/
def GB (X : Cx) (Z : Res) (scope : Scope) (vs : List Nat) (tg : Expr) (gt : GF) : Prop :=
  ∃ gg : TG, (∀ (s : Shared) (H : Hp) (C : Addr) (cl : List (Str × Addr)) (fp : List Addr), PG (X.blk s H scope (compEnvC scope cl C X.env) fp) tg gg) ∧
    (∀ (G I H : Hp) (σ : St) (τ : List SV) (s : Z.S) (a : T) (v : V) (τ2 : List SV) (Q : St → Hp → Prop), Rep X.K Z G I H σ τ s → Is X.K I a v → gt a τ = some τ2 → (∀ σ2, L2.wipe σ2 vs = L2.wipe σ vs → Rep X.K Z G I H σ2 τ2 s → Q σ2 H) → gg v σ H Q) ∧
    (∀ a τ τ2, gt a τ = some τ2 → ∀ i, i ∉ vs → τ2[i]? = τ[i]?)
theorem lc_read {vs : List Nat} {G I1 H1 : Hp} {σ : St} {τ : List SV} {s1 s' : Z.S} {items bs : List T} {gt : GF} {ft : EFb Z} {fe : EF Z} {J : It} {Q : VK} {gg : TG}
    (hgg : ∀ (G I H : Hp) (σ : St) (τ : List SV) (s : Z.S) (a : T) (v : V) (τ2 : List SV) (Q : St → Hp → Prop), Rep X.K Z G I H σ τ s → Is X.K I a v → gt a τ = some τ2 → (∀ σ2, L2.wipe σ2 vs = L2.wipe σ vs → Rep X.K Z G I H σ2 τ2 s → Q σ2 H) → gg v σ H Q)
    (hgt : ∀ a τ τ2, gt a τ = some τ2 → ∀ i, i ∉ vs → τ2[i]? = τ[i]?)
    (w1 : Rep X.K Z G I1 H1 σ τ s1) (wk : Walks' X.K J I1 items) (hz : items.length ≤ sizeLine) (hv : ∀ (i : Nat) (t : T), τ[i]? = some (.ow t) → i ∉ vs)
    (h : lcGo gt ft fe (wipeT τ vs) items s1 = some (bs, s')) (q : HandF X Z G I1 σ τ s' (.lst bs) Q) (D : Addr) (hD : H1 D = none) :
    ∃ W : Nat → Nat → Hp → Prop, (∃ m, W 0 m (upd H1 D (.lst []))) ∧ ∀ i m H, W i m H →
      (J.stop i H ∧ Q (.ref D) H) ∨ (J.go i H ∧ ∃ Nx : Hp → Prop, (∀ H', Nx H' → ∃ m', m' < m ∧ W (i + 1) m' H') ∧ ∀ x H', J.yld i H x H' → gg x (L2.wipe σ vs) H' fun σ2 H2 => L2.wipe σ2 vs = L2.wipe σ vs ∧ tXb X.K Z ft σ2 H2 fun b H3 =>
        if b = true then tX X.K Z fe σ2 H3 fun y H4 => ∃ acc, H4 D = some (.lst acc) ∧ acc.length < sizeLine ∧ Nx (upd H4 D (.lst (acc ++ [y]))) else Nx H3) := by
  have nG : G D = none := w1.toRep0.nG hD
  have nF : ¬ Z.F D := w1.toRep0.nF hD
  -- ahead of turn i: acc stands at D for the results so far, the rest is to come
  let St' : List T → Hp → Prop := fun r H => ∃ (I : Hp) (s : Z.S) (acc : List V) (done rest : List T), Same I1 I ∧ Rep X.K Z (upd G D (.lst acc)) I H (L2.wipe σ vs) (wipeT τ vs) s ∧ IsL X.K I done acc ∧
    lcGo gt ft fe (wipeT τ vs) r s = some (rest, s') ∧ done ++ rest = bs ∧ done.length + r.length ≤ items.length
  have start : St' items (upd H1 D (.lst [])) := by
    obtain ⟨w2, u⟩ := w1.wipe (vs := vs) |>.made (o := .lst []) (a := .lst []) hD (IsL.nil (K := X.K) (I := I1))
    exact ⟨I1, s1, [], [], bs, Same.refl _, w2.guard u, IsL.nil, h, rfl, by simp⟩
  refine ⟨fun i m H => m = items.length - i ∧ i ≤ items.length ∧ St' (items.drop i) H, ⟨_, rfl, Nat.zero_le _, by rw [List.drop_zero]; exact start⟩, ?_⟩
  rintro i m H ⟨rfl, hle, I, s, acc, done, rest, mI, w, il, hgo, hdone, hlen⟩
  obtain ⟨st, gy⟩ := wk I H mI w.sub
  cases ed : items.drop i with
  | nil =>
    have hi : i = items.length := by
      have := congrArg List.length ed
      rw [List.length_drop, List.length_nil] at this
      omega
    subst hi
    rw [ed] at hgo
    cases hgo
    rw [List.append_nil] at hdone
    subst hdone
    refine .inl ⟨st, ?_⟩
    obtain ⟨nI, atH⟩ := w.fr D (.lst acc) upd_same
    have wf := w.frame (G' := G) fun p o e => by
      rw [upd_ne (ne_of_none e nG)]
      exact e
    have wr : Rep X.K Z G I H σ τ s' := w1.unwipe mI wf.toRep0 hv wf.ow fun i t hi e => by rw [wipeT_out hi]; exact e
    exact q I H D (.lst acc) mI wr ⟨nI, nG, nF, atH, il, fun i t e => w1.notOwned hD i t e⟩
  | cons a r =>
    obtain ⟨ea, er⟩ := drop_at ed
    have hi : i < items.length := (List.getElem?_eq_some_iff.mp ea).1
    obtain ⟨go, yl⟩ := gy i a ea
    rw [ed] at hgo hlen
    have hlr : (items.drop i).length = r.length + 1 := by rw [ed]; rfl
    refine .inr ⟨go, St' r, fun H' hN => ⟨items.length - (i + 1), by omega, rfl, hi, by rw [er]; exact hN⟩, fun x H3 hy => ?_⟩
    obtain ⟨I3, ex, ix⟩ := yl x H3 hy
    have w3 := w.extN ex
    have m3 := mI.trans ex.im
    unfold lcGo at hgo
    split at hgo
    · rename_i τ2 et
      refine hgg _ _ _ _ _ s _ _ _ _ w3 ix et fun σ2 hw2 w4 => ?_
      rw [wipe_wipe] at hw2
      refine ⟨hw2, ?_⟩
      have hτ : ∀ i, i ∉ vs → τ2[i]? = (wipeT τ vs)[i]? := hgt _ _ _ et
      split at hgo
      · rename_i s4 ec
        refine ⟨_, _, _, _, _, _, w4, ec, fun I5 H5 m5 w5 => iteT ?_⟩
        split at hgo
        · rename_i b s6 eb
          refine ⟨_, _, _, _, _, _, w5, eb, fun I6 H6 y m6 w6 iy => ?_⟩
          obtain ⟨nI6, at6⟩ := w6.fr D (.lst acc) upd_same
          have hacc : acc.length = done.length := il.len
          refine ⟨acc, at6, by have : sizeLine = 16777216 := sizeLine_eq; simp only [List.length_cons] at hlen; omega, ?_⟩
          split at hgo
          · rename_i bs' s7 er'
            cases hgo
            have m7 := (m3.trans m5).trans m6
            refine ⟨I6, s6, acc ++ [y], done ++ [b], bs', m7, ?_, ?_, er', by rw [← hdone, List.append_assoc]; rfl, ?_⟩
            · exact (w6.reguard nF).back hw2 hτ w1.len
            · exact (il.mono ((ex.im.trans m5).trans m6)).app (IsL.cons iy IsL.nil)
            · simp only [List.length_append, List.length_cons, List.length_nil] at hlen ⊢
              omega
          · cases hgo
        · cases hgo
      · rename_i s4 ec
        refine ⟨_, _, _, _, _, _, w4, ec, fun I5 H5 m5 w5 => iteF ?_⟩
        refine ⟨I5, s4, acc, done, rest, m3.trans m5, w5.back hw2 hτ w1.len, il.mono (ex.im.trans m5), hgo, hdone, ?_⟩
        simp only [List.length_cons] at hlen
        omega
      · cases hgo
    · cases hgo
variable {tg' it elt : Expr} {ifs : List Expr} {scope : Scope} {own : List (Str × Nat)} {fi : EFs Z} {gt : GF} {ft : EFb Z} {fe : EF Z}
theorem lc_all {G I H : Hp} {σ : St} {τ : List SV} {s s' : Z.S} {a : T} {Q : VK} {wi : TI} {gg : TG} {vs : List Nat}
    (hwi : ∀ G I H σ τ s items s' R, Rep X.K Z G I H σ τ s → fi τ s = some (items, s') → (∀ I' H' J, Same I I' → Rep X.K Z G I' H' σ τ s' → Walks' X.K J I' items → R J H') → wi σ H R)
    (hgg : ∀ (G I H : Hp) (σ : St) (τ : List SV) (s : Z.S) (a : T) (v : V) (τ2 : List SV) (Q : St → Hp → Prop), Rep X.K Z G I H σ τ s → Is X.K I a v → gt a τ = some τ2 → (∀ σ2, L2.wipe σ2 vs = L2.wipe σ vs → Rep X.K Z G I H σ2 τ2 s → Q σ2 H) → gg v σ H Q)
    (hgt : ∀ a τ τ2, gt a τ = some τ2 → ∀ i, i ∉ vs → τ2[i]? = τ[i]?) (w : Rep X.K Z G I H σ τ s) (h : xLc vs fi gt ft fe τ s = some (a, s')) (q : HandF X Z G I σ τ s' a Q) :
    tLc wi gg (tXb X.K Z ft) (tX X.K Z fe) vs σ H Q := by
  unfold xLc at h
  split at h
  · rename_i items s1 ei
    split at h
    · rename_i hc
      split at h
      · rename_i bs s2 eg
        cases h
        refine hwi _ _ _ _ _ _ _ _ _ w ei fun I1 H1 J m1 w1 wk => ?_
        intro D hD
        refine lc_read hgg hgt w1 wk hc.1 (fun i t e hi => ?_) eg (fun I' H' p o m => q I' H' p o (m1.trans m)) D hD
        have := List.all_eq_true.mp hc.2 i hi
        rw [e] at this
        cases this
      · cases h
    · cases h
  · cases h
theorem en_lc {vs : List Nat} (hc : X.calm = true) (hN : X.N.Nodup) (hi : IX X Z tg' it fi) (ok : BlkOk X.N X.env.scope scope own) (hg : GB X Z scope vs tg' gt) (hvs : vs = own.map (·.2) := by rfl)
    (ht : ∀ (s : Shared) (H : Hp) (C : Addr) (cl : List (Str × Addr)) (fp : List Addr), ETs (X.blk s H scope (compEnvC scope cl C X.env) fp) Z ifs ft) (he : ∀ (s : Shared) (H : Hp) (C : Addr) (cl : List (Str × Addr)) (fp : List Addr), EX (X.blk s H scope (compEnvC scope cl C X.env) fp) Z elt fe)
    (hs : ∀ x, foldedSetIterable it X.env x = pure x := by intro _; rfl) : EN X Z (.ListComp elt [⟨tg', it, ifs, 0⟩] scope pos) (xLc vs fi gt ft fe) := by
  subst hvs
  obtain ⟨wi, pi, hwi⟩ := hi
  obtain ⟨gg, pg, hgg, hgt⟩ := hg
  exact ⟨_, pe_lc (tt := tXb X.K Z ft) (te := tX X.K Z fe) hc hN pi ok pg ht (fun s H C cl fp => (he s H C cl fp).pe) hs, fun G I H σ τ s a s' Q w h q => lc_all hwi hgg hgt w h q⟩
/-- name = [..], the slot's own -/
theorem sx_setLc {i : Nat} {y : Str} {py spos : Pos} {vs : List Nat} (hc : X.calm = true) (hN : X.N.Nodup) (hy : X.N[i]? = some y) (hyl : X.env.scope.names.lookup y = some .local)
    (hsw : swapsWith (.ListComp elt [⟨tg', it, ifs, 0⟩] scope pos) (some (.Name y py)) spos.line X.env = pure true) (hi : IX X Z tg' it fi) (ok : BlkOk X.N X.env.scope scope own) (hg : GB X Z scope vs tg' gt) (hvs : vs = own.map (·.2) := by rfl)
    (ht : ∀ (s : Shared) (H : Hp) (C : Addr) (cl : List (Str × Addr)) (fp : List Addr), ETs (X.blk s H scope (compEnvC scope cl C X.env) fp) Z ifs ft) (he : ∀ (s : Shared) (H : Hp) (C : Addr) (cl : List (Str × Addr)) (fp : List Addr), EX (X.blk s H scope (compEnvC scope cl C X.env) fp) Z elt fe)
    (hs : ∀ x, foldedSetIterable it X.env x = pure x := by intro _; rfl) : SX X Z (.Assign [.Name y py] (.ListComp elt [⟨tg', it, ifs, 0⟩] scope pos) spos) (sSetO i (xLc vs fi gt ft fe)) := by
  subst hvs
  obtain ⟨wi, pi, hwi⟩ := hi
  obtain ⟨gg, pg, hgg, hgt⟩ := hg
  refine ⟨_, ps_setLc (tt := tXb X.K Z ft) (te := tX X.K Z fe) hc hN hy hyl hsw pi ok pg ht (fun s H C cl fp => (he s H C cl fp).pe) hs, fun G I H σ τ s o D w h q => ?_⟩
  unfold sSetO at h
  split at h
  · rename_i a s' ea
    split at h
    · rename_i hl
      cases h
      exact lc_all hwi hgg hgt w ea fun I' H' p o m w' u => q I' H' _ m (w'.setOw hl u)
    · cases h
  · cases h
theorem gb_name {i : Nat} {x : Str} (hN : X.N.Nodup) (hi : X.N[i]? = some x) (hx : ∀ (cl : List (Str × Addr)) (C : Addr), Loc (compEnvC scope cl C X.env).scope x) (hf : ∀ (cl : List (Str × Addr)) (C : Addr), (scope.names.lookup x == some .cell) = true ∨ (compEnvC scope cl C X.env).scope.names.lookup x = some .local) :
    GB X Z scope [i] (.Name x pos) (gSet i) := by
  refine ⟨gName i, fun s H C cl fp => pg_name (X := X.blk s H scope (compEnvC scope cl C X.env) fp) hN hi (hx cl C) (hf cl C), fun G I H σ τ s a v τ2 Q w ia h q => ?_, fun a τ τ2 h j hj => ?_⟩
  · unfold gSet at h
    split at h
    · rename_i hl
      cases h
      refine q _ ?_ (w.setIm hl ia)
      show (σ.set i (some v)).set i none = σ.set i none
      rw [List.set_set]
    · cases h
  · unfold gSet at h
    split at h
    · cases h
      rw [List.getElem?_set_ne (fun z => hj (by simp [z]))]
    · cases h
end
end L2.TL
/-! TL5: what a def of trees promises; calls; a def by its body; the law's own call. -/
namespace L2.TL
open PySem PySem.Spec
open PyProof.Rows
abbrev FF (Z : Res) := List T → Z.S → Option (T × Z.S)
/-- the promise: the arguments stand for trees, the answer stands for f of them, what others own stands -/
def spS (K : PySem.W.Frag) (Z : Res) (f : FF Z) : Sp := fun vs H Q _ =>
  ∃ (I : Hp) (ts : List T) (s : Z.S) (a : T) (s' : Z.S), Same I H ∧ (∀ p, Z.F p → I p = none) ∧ Z.R s I H ∧ IsL K I ts vs ∧ f ts s = some (a, s') ∧
    ∀ I' H' v, Ext Z.F I H I' H' → Z.R s' I' H' → Is K I' a v → Q v H'
/-- .. of a def that has no resource -/
abbrev FP := List T → Option T
def pureF (f : FP) : FF Z0 := fun ts s => match f ts with
  | some a => some (a, s)
  | none => none
abbrev spP (K : PySem.W.Frag) (f : FP) : Sp := spS K Z0 (pureF f)
/-- a def that is called where no repr runs -/
structure FnG (P : Program) (w : World) (K : PySem.W.Frag) (mg : Str → Option Value) (base : Heap) (k : Nat) (f : Addr) (fd : FuncData) (ps : List Str) (sp : Sp) : Prop where
  lenG : ∀ xs H' R E', sp xs H' R E' → xs.length = ps.length
  runG : ∀ (B : Around) (out : List Env) (z : Shared) (H' : Hp) (ar : Args) (ys : List Value) (xs : List V) (R : VK) (E' : XK), B.guards = some [] → Room k B → Env0 P w K mg base B out z H' → BindsTo z fd ar (ps.zip ys) → Vals xs ys → sp xs H' R E' →
    codeAny (model P w) B (.call (.ref f) ar) (CR CX0 out P w H' z R E') z
section
variable {P : Program} {w : World} {K : PySem.W.Frag} {mg : Str → Option Value} {base : Heap} {k : Nat} {f : Addr} {fd : FuncData} {ps : List Str} {sp : Sp}
theorem toG (F : FnOk P w K mg base CX0 k f fd ps sp) : FnG P w K mg base k f fd ps sp := ⟨F.len, fun B out z H' ar ys xs R E' _ => F.run B out z H' ar ys xs R E'⟩
theorem FnG.up {j : Nat} (F : FnG P w K mg base j f fd ps sp) (h : j ≤ k) : FnG P w K mg base k f fd ps sp := ⟨F.lenG, fun B out z H' ar ys xs R E' g r => F.runG B out z H' ar ys xs R E' g (r.mono h)⟩
end
section
variable {X : Cx} {Z : Res} {e : Expr} {es : List Expr} {fs : EFs Z} {pos : Pos} {k : Nat} {f : Addr} {fd : FuncData} {ps : List Str} {ff : FF Z} {fp : FP}
def xCallF {Z : Res} (ff : FF Z) (fs : EFs Z) : EF Z := fun τ s => match fs τ s with
  | some (as, s1) => ff as s1
  | none => none
def xCallP {Z : Res} (fp : FP) (fs : EFs Z) : EF Z := fun τ s => match fs τ s with
  | some (as, s1) => match fp as with
    | some a => some (a, s1)
    | none => none
  | none => none
theorem sp_use {G I H : Hp} {σ : St} {τ : List SV} {s s' : Z.S} {ts : List T} {vs : List V} {a : T} {Q : VK} {E : XK} (w : Rep X.K Z G I H σ τ s) (i : IsL X.K I ts vs) (h : ff ts s = some (a, s')) (q : Hand X Z G I σ τ s' a Q) : spS X.K Z ff vs H Q E :=
  ⟨I, ts, s, a, s', w.sub, fun p hp => (w.rf p hp).1, w.res, i, h, fun I' H' v e r ia => q I' H' v e.im (w.ext e r) ia⟩
theorem sp_useP {G I H : Hp} {σ : St} {τ : List SV} {s : Z.S} {ts : List T} {vs : List V} {a : T} {Q : VK} {E : XK} (w : Rep X.K Z G I H σ τ s) (i : IsL X.K I ts vs) (h : fp ts = some a) (q : Hand X Z G I σ τ s a Q) : spP X.K fp vs H Q E :=
  ⟨I, ts, (), a, (), w.sub, fun p hp => hp.elim, trivial, i, by unfold pureF; rw [h], fun I' H' v e _ ia => q I' H' v e.im (w.extN e) ia⟩
theorem ex_call {x : Str} {p : Pos} (F : FnOk X.prog X.w X.K X.mg X.base CX0 k f fd ps (spS X.K Z ff)) (hr : Room k X.A) (hg : Gl X x) (hm : X.mg x = some (.ref f)) (hk : PySem.W.keepIn X.K (.ref f) = true) (hb : Binds X.K fd ps []) (ha : EL X Z (e :: es) fs)
    (hdb : (x == ("__debug__" : Str)) = false := by decide) (he : starEach (e :: es) X.env = (false, eval e X.env) :: starEach es X.env := by rfl) (hpl : (backTo pos (starEach es X.env)).any (·.1) = false := by rfl) : EX X Z (.Call (.Name x p) (e :: es) [] pos) (xCallF ff fs) := by
  obtain ⟨t, pa, h1⟩ := ha
  refine ⟨_, pe_call F hr hg hm hk hb .nil pass0 pa hdb he hpl, fun G I H σ τ s a s' Q w h q => ?_⟩
  unfold xCallF at h
  split at h
  · rename_i as s1 ea
    refine h1 _ _ _ _ _ _ _ _ _ w ea fun I1 H1 vs m1 w1 i1 => ?_
    rw [List.append_nil]
    exact sp_use w1 i1 h fun I' H' v m => q I' H' v (m1.trans m)
  · cases h
theorem ex_callP {x : Str} {p : Pos} (F : FnOk X.prog X.w X.K X.mg X.base CX0 k f fd ps (spP X.K fp)) (hr : Room k X.A) (hg : Gl X x) (hm : X.mg x = some (.ref f)) (hk : PySem.W.keepIn X.K (.ref f) = true) (hb : Binds X.K fd ps []) (ha : EL X Z (e :: es) fs)
    (hdb : (x == ("__debug__" : Str)) = false := by decide) (he : starEach (e :: es) X.env = (false, eval e X.env) :: starEach es X.env := by rfl) (hpl : (backTo pos (starEach es X.env)).any (·.1) = false := by rfl) : EX X Z (.Call (.Name x p) (e :: es) [] pos) (xCallP fp fs) := by
  obtain ⟨t, pa, h1⟩ := ha
  refine ⟨_, pe_call F hr hg hm hk hb .nil pass0 pa hdb he hpl, fun G I H σ τ s a s' Q w h q => ?_⟩
  unfold xCallP at h
  split at h
  · rename_i as s1 ea
    split at h
    · rename_i b eb
      cases h
      refine h1 _ _ _ _ _ _ _ _ _ w ea fun I1 H1 vs m1 w1 i1 => ?_
      rw [List.append_nil]
      exact sp_useP w1 i1 eb fun I' H' v m => q I' H' v (m1.trans m)
    · cases h
  · cases h
/-- the call of a def that may run repr -/
theorem run_g {pins : List (Addr × Obj)} {σ : St} {H : Hp} {s : Shared} {Q : VK} {us : List Value} {vs : List V} {sp : Sp} {E : XK} (F : FnG X.prog X.w X.K X.mg X.base k f fd ps sp) (gd : X.A.guards = some []) (hr : Room k X.A) (hb : Binds X.K fd ps [])
    (I : Inv X pins σ H s) (r : Vals vs us) (h : sp vs H Q E) : wpAny (model X.prog X.w) X.A (call (.ref f) us) (EP X pins σ Q) X.xe s := by
  have n1 : us.length = ps.length := by
    rw [← r.length]
    exact F.lenG _ _ _ _ h
  have bd := hb s us I.kIn (by rw [List.append_nil]; exact n1)
  rw [List.append_nil] at bd
  refine wpAny_call (codeAny_mono (F.runG X.A X.stack s H _ us vs Q E gd hr I.env0 bd r h) ?_)
  intro res z hz
  cases res with
  | error e => exact (show False from hz).elim
  | ok fl => cases fl with
    | ret u => exact I.after hz
    | _ => exact (show False from hz).elim
theorem ex_callG {x : Str} {p : Pos} (F : FnG X.prog X.w X.K X.mg X.base k f fd ps (spS X.K Z ff)) (gd : X.A.guards = some []) (hr : Room k X.A) (hg : Gl X x) (hm : X.mg x = some (.ref f)) (hk : PySem.W.keepIn X.K (.ref f) = true) (hb : Binds X.K fd ps []) (ha : EL X Z (e :: es) fs)
    (hdb : (x == ("__debug__" : Str)) = false := by decide) (he : starEach (e :: es) X.env = (false, eval e X.env) :: starEach es X.env := by rfl) (hpl : (backTo pos (starEach es X.env)).any (·.1) = false := by rfl) : EX X Z (.Call (.Name x p) (e :: es) [] pos) (xCallF ff fs) := by
  obtain ⟨t, pa, h1⟩ := ha
  refine ⟨_, (⟨fun pins s σ H Q J hq => wpAny_Call_Name_kw (ld_glob J hg hm (PySem.W.callWith_K (h₀ := X.base) J.ok.mod.kin hk (thn (pa.run pos pins s σ H _ J hq) fun us s1 ⟨vs, H1, J1, r, q⟩ => ⟨J1.kIn, run_g F gd hr hb J1 r q⟩) he hpl) hdb)⟩ :
    PE X (.Call (.Name x p) (e :: es) [] pos) (fun σ H Q => t σ H fun vs H1 => spS X.K Z ff vs H1 Q E0)), fun G I H σ τ s a s' Q w h q => ?_⟩
  unfold xCallF at h
  split at h
  · rename_i as s1 ea
    exact h1 _ _ _ _ _ _ _ _ _ w ea fun I1 H1 vs m1 w1 i1 => sp_use w1 i1 h fun I' H' v m => q I' H' v (m1.trans m)
  · cases h
theorem ex_callGP {x : Str} {p : Pos} (F : FnG X.prog X.w X.K X.mg X.base k f fd ps (spP X.K fp)) (gd : X.A.guards = some []) (hr : Room k X.A) (hg : Gl X x) (hm : X.mg x = some (.ref f)) (hk : PySem.W.keepIn X.K (.ref f) = true) (hb : Binds X.K fd ps []) (ha : EL X Z (e :: es) fs)
    (hdb : (x == ("__debug__" : Str)) = false := by decide) (he : starEach (e :: es) X.env = (false, eval e X.env) :: starEach es X.env := by rfl) (hpl : (backTo pos (starEach es X.env)).any (·.1) = false := by rfl) : EX X Z (.Call (.Name x p) (e :: es) [] pos) (xCallP fp fs) := by
  obtain ⟨t, pa, h1⟩ := ha
  refine ⟨_, (⟨fun pins s σ H Q J hq => wpAny_Call_Name_kw (ld_glob J hg hm (PySem.W.callWith_K (h₀ := X.base) J.ok.mod.kin hk (thn (pa.run pos pins s σ H _ J hq) fun us s1 ⟨vs, H1, J1, r, q⟩ => ⟨J1.kIn, run_g F gd hr hb J1 r q⟩) he hpl) hdb)⟩ :
    PE X (.Call (.Name x p) (e :: es) [] pos) (fun σ H Q => t σ H fun vs H1 => spP X.K fp vs H1 Q E0)), fun G I H σ τ s a s' Q w h q => ?_⟩
  unfold xCallP at h
  split at h
  · rename_i as s1 ea
    split at h
    · rename_i b eb
      cases h
      exact h1 _ _ _ _ _ _ _ _ _ w ea fun I1 H1 vs m1 w1 i1 => sp_useP w1 i1 eb fun I' H' v m => q I' H' v (m1.trans m)
    · cases h
  · cases h
/-- keywords: f(x = a), all of them -/
def ELk (X : Cx) (Z : Res) (kws : List Keyword) (f : EFs Z) : Prop :=
  ∃ t, PK X kws t ∧ ∀ G I H σ τ s as s' Q, Rep X.K Z G I H σ τ s → f τ s = some (as, s') → HandL X Z G I σ τ s' as Q → t σ H Q
theorem elk_nil : ELk X Z [] xNil := ⟨_, pk_nil, fun G I H σ τ s as s' Q w h q => by
  cases h
  exact q I H [] (Same.refl _) w IsL.nil⟩
theorem elk_cons {nm : Option Str} {kpos : Pos} {kws : List Keyword} {fe : EF Z} (he : EX X Z e fe) (hr : ELk X Z kws fs) : ELk X Z (⟨nm, e, kpos⟩ :: kws) (xCons fe fs) := by
  obtain ⟨te, pe, h1⟩ := he
  obtain ⟨tr, pr, h2⟩ := hr
  refine ⟨_, pk_cons pe pr, fun G I H σ τ s as s' Q w h q => ?_⟩
  unfold xCons at h
  split at h
  · rename_i a s1 ea
    split at h
    · rename_i as' s2 eb
      cases h
      refine h1 _ _ _ _ _ _ _ _ _ w ea fun I1 H1 v m1 w1 i1 => ?_
      refine h2 _ _ _ _ _ _ _ _ _ w1 eb fun I2 H2 vs m2 w2 i2 => ?_
      exact q I2 H2 (v :: vs) (m1.trans m2) w2 (IsL.cons (i1.mono m2) i2)
    · cases h
  · cases h
end
/-! ### a def by its body -/
def bodyF {Z : Res} (n m : Nat) (g : SF Z) : FF Z := fun ts s => if ts.length = n then match g (ts.map SV.im ++ List.replicate (m - n) SV.un) s with
    | some (.rt a s') => some (a, s')
    | some (.nx _ s') => some (.non, s')
    | _ => none
  else none
section
variable {P : Program} {w : World} {K : PySem.W.Frag} {mg : Str → Option Value} {base : Heap} {Z : Res} {k : Nat} {f : Addr} {fd : FuncData} {N ps : List Str} {x qual : Str} {st : Stmt}
open Classical in
/-- what others own at the entry -/
noncomputable def foreign (Z : Res) (I H : Hp) : Hp := fun p => if I p = none ∧ ¬ Z.F p then H p else none
theorem foreign_of {I H : Hp} {p : Addr} {o : HO} (h : foreign Z I H p = some o) : I p = none ∧ ¬ Z.F p ∧ H p = some o := by
  unfold foreign at h
  split at h
  · rename_i c
    exact ⟨c.1, c.2, h⟩
  · cases h
theorem foreign_mk {I H : Hp} {p : Addr} {o : HO} (h1 : I p = none) (h2 : ¬ Z.F p) (h3 : H p = some o) : foreign Z I H p = some o := by
  unfold foreign
  rw [if_pos ⟨h1, h2⟩]
  exact h3
theorem foreign_F {I H : Hp} {p : Addr} (h : Z.F p) : foreign Z I H p = none := by
  unfold foreign
  rw [if_neg fun z => z.2 h]
theorem start_rep {I H : Hp} {ts : List T} {vs : List V} {s : Z.S} (sub : Same I H) (rf : ∀ p, Z.F p → I p = none) (r : Z.R s I H) (il : IsL K I ts vs) (hN : vs.length ≤ N.length) :
    Rep K Z (foreign Z I H) I H (start N vs) (ts.map SV.im ++ List.replicate (N.length - vs.length) SV.un) s := by
  have hl := il.len
  have none_ow : ∀ (i : Nat) (t : T), (ts.map SV.im ++ List.replicate (N.length - vs.length) SV.un)[i]? ≠ some (SV.ow t) := fun i t e => by
    have := List.mem_of_getElem? e
    rcases List.mem_append.mp this with h | h
    · obtain ⟨u, _, h⟩ := List.mem_map.mp h
      cases h
    · cases (List.mem_replicate.mp h).2
  refine ⟨⟨sub, r, fun p hp => ⟨rf p hp, foreign_F hp⟩, fun p o e => ⟨(foreign_of e).1, (foreign_of e).2.2⟩⟩, ?_, fun i t e => ?_, fun i t e => absurd e (none_ow i t), fun i j t u p _ e => absurd e (none_ow i t)⟩
  · unfold start
    simp only [List.length_append, List.length_map, List.length_replicate]
    omega
  · by_cases hi : i < ts.length
    · rw [List.getElem?_append_left (by simpa using hi), List.getElem?_map] at e
      obtain ⟨v, e1, e2⟩ := il.at (List.getElem?_eq_getElem hi)
      rw [List.getElem?_eq_getElem hi] at e
      cases e
      refine ⟨v, ?_, e2⟩
      unfold start
      rw [List.getElem?_append_left (by rw [List.length_map, hl]; exact hi), List.getElem?_map, e1]
      rfl
    · rw [List.getElem?_append_right (by simpa using hi), List.getElem?_replicate] at e
      split at e <;> cases e
theorem body_ends {X : Cx} {sts : List Stmt} {g : SF Z} {vs : List V} {H : Hp} {Q : VK} {E : XK} (hK : X.K = K) (hb : SS X Z sts g) (hn : ps.length ≤ N.length) (h : spS K Z (bodyF ps.length N.length g) vs H Q E) :
    ∃ t, PSs X sts t ∧ t { nx := fun _ H' => Q .non H', rt := Q } (start N vs) H := by
  subst hK
  obtain ⟨t, pt, h1⟩ := hb
  obtain ⟨I, ts, s, a, s', sub, rf, r, il, hf, q⟩ := h
  refine ⟨t, pt, ?_⟩
  unfold bodyF at hf
  split at hf
  · rename_i hl
    have hv : vs.length = ps.length := by rw [il.len]; exact hl
    have w := start_rep (N := N) sub rf r il (by rw [hv]; exact hn)
    rw [hv] at w
    have ext : ∀ {I' H' : Hp} {s2 : Z.S}, Same I I' → Rep0 Z (foreign Z I H) I' H' s2 → Ext Z.F I H I' H' := fun m w' =>
      ⟨m, w'.sub, fun p o e1 e2 e3 => w'.fr p o (foreign_mk e1 e2 e3), fun p hp _ => (w'.rf p hp).1⟩
    split at hf
    · rename_i b s2 eg
      cases hf
      exact h1 _ _ _ _ _ _ _ _ w eg fun I' H' v m w' ia => q I' H' v (ext m w') w'.res ia
    · rename_i τ2 s2 eg
      cases hf
      exact h1 _ _ _ _ _ _ _ _ w eg fun I' H' σ' m w' => q I' H' .non (ext m w'.toRep0) w'.res rfl
    · cases hf
  · cases hf
theorem sp_len {g : FF Z} {n : Nat} (h : ∀ ts s r, g ts s = some r → ts.length = n) {vs : List V} {H : Hp} {Q : VK} {E : XK} (q : spS K Z g vs H Q E) : vs.length = n := by
  obtain ⟨I, ts, s, a, s', _, _, _, il, hf, _⟩ := q
  rw [il.len]
  exact h ts s _ hf
theorem bodyF_len {n m : Nat} {g : SF Z} : ∀ ts s r, bodyF n m g ts s = some r → ts.length = n := fun ts s r h => by
  unfold bodyF at h
  split at h
  · assumption
  · cases h
theorem scope_le (S : FnScope N ps (defScope st)) : ps.length ≤ N.length := by
  have := congrArg List.length S.pre
  rw [List.length_take] at this
  omega
/-- THE RULE, for a def without repr -/
theorem fn_def {g : SF Z} (F : Fun K x qual st f fd) (S : FnScope N ps (defScope st))
    (hb : ∀ (cdv : Value) (A : Around) (out : List Env) (z : Shared) (H : Hp) (E : XK), Room k (A.deeper (envOfC qual (defScope st) z.heap.objs.size f cdv)) → SS (cxOf CX0 P w K mg base N qual (defScope st) f cdv A out z H E).nox Z (defBody st) g) :
    FnOk P w K mg base CX0 (k + 1) f fd ps (spS K Z (bodyF ps.length N.length g)) :=
  F.ok S (fun vs H Q E h => sp_len bodyF_len h) fun cdv A out z H vs Q E hr h => body_ends rfl (hb cdv A out z H E hr) (scope_le S) h
/-- .. for a def that shows values: its caller does not. Any promise -/
theorem fn_g {sp : Sp} (F : Fun K x qual st f fd) (S : FnScope N ps (defScope st)) (len : ∀ xs H R E, sp xs H R E → xs.length = ps.length)
    (hb : ∀ (cdv : Value) (A : Around) (out : List Env) (z : Shared) (H : Hp) (vs : List V) (Q : VK) (E : XK), A.guards = some [] → Room k (A.deeper (envOfC qual (defScope st) z.heap.objs.size f cdv)) → sp vs H Q E →
      ∃ t, PSs (cxOf CX0 P w K mg base N qual (defScope st) f cdv A out z H E).nox (defBody st) t ∧ t { nx := fun _ H' => Q .non H', rt := Q } (start N vs) H) : FnG P w K mg base (k + 1) f fd ps sp := by
  obtain ⟨oc, od, kV, doc, pm, an, cdv, ct, osl, rfl, lk, hcd⟩ := F.ex
  refine ⟨len, fun B out z H' ar ys xs R E' gd hr e0 bd r hsp => ?_⟩
  have n1 : xs.length = ps.length := len _ _ _ _ hsp
  have kin : K.In z.heap := e0.mod.kin.keeps fun b o q => (e0.bs b o q).1
  have kinds : ∀ y ∈ ps.zip ys, (defScope st).names.lookup y.1 = some .local ∨ ((defScope st).names.lookup y.1 = some .cell ∧ ((cellsFrom (z.heap.objs.size + 1) (defScope st).names []).lookup y.1).isSome = true) := by
    rintro ⟨nm, v⟩ hy
    exact (S.par nm (List.of_mem_zip hy).1).elim Or.inl fun q => Or.inr ⟨q, PySem.W.cellsFrom_some _ _ _ (Or.inl q)⟩
  refine codeAny_call_function hr.depth (kin _ _ lk) rfl S.co S.gen rfl (PySem.W.codeRec_of kin hcd) (bd _ _ _ _ (wpAny_newFunctionEnv_cells S.kind kinds ?_))
  rintro env rfl s1 ic
  refine ⟨(e0.mod.nolimit.keeps fun b o q => (e0.bs b o q).1).keeps ic.toInCall.keep, codeAny_func ?_⟩
  obtain ⟨t, ht, hq⟩ := hb cdv B out z H' xs R E' gd (hr.deeper _) hsp
  have J := inv_start (CX := CX0) (P := P) (E := E') S hr.hd e0 n1 r ic
  refine wpAny_mono (ht.nox.run [] s1 (start N xs) H' _ J hq) ?_ fun e s' q => q
  intro fl s' hs
  cases fl with
  | ret u =>
    obtain ⟨v, _, H2, J2, rv, q⟩ := hs
    exact ⟨v, H2, J2.os, J2.bare, J2.base, J2.hok, rv, q⟩
  | next =>
    obtain ⟨_, H2, J2, q⟩ := hs
    exact ⟨V.non, H2, J2.os, J2.bare, J2.base, J2.hok, rfl, q⟩
  | brk =>
    obtain ⟨_, _, _, q⟩ := hs
    exact q.elim
  | cont =>
    obtain ⟨_, _, _, q⟩ := hs
    exact q.elim
theorem fn_defG {g : SF Z} (F : Fun K x qual st f fd) (S : FnScope N ps (defScope st))
    (hb : ∀ (cdv : Value) (A : Around) (out : List Env) (z : Shared) (H : Hp) (E : XK), A.guards = some [] → Room k (A.deeper (envOfC qual (defScope st) z.heap.objs.size f cdv)) → SS (cxOf CX0 P w K mg base N qual (defScope st) f cdv A out z H E).nox Z (defBody st) g) :
    FnG P w K mg base (k + 1) f fd ps (spS K Z (bodyF ps.length N.length g)) :=
  fn_g F S (fun xs H R E h => sp_len bodyF_len h) fun cdv A out z H vs Q E gd hr h => body_ends rfl (hb cdv A out z H E gd hr) (scope_le S) h
/-- another function with the same answers where it has any -/
theorem spS_imp {g h : FF Z} (e : ∀ ts s r, g ts s = some r → h ts s = some r) {vs : List V} {H : Hp} {Q : VK} {E : XK} (q : spS K Z g vs H Q E) : spS K Z h vs H Q E := by
  obtain ⟨I, ts, s, a, s', h1, h2, h3, h4, h5, h6⟩ := q
  exact ⟨I, ts, s, a, s', h1, h2, h3, h4, e _ _ _ h5, h6⟩
theorem spP_imp {g h : FP} (e : ∀ ts a, g ts = some a → h ts = some a) {vs : List V} {H : Hp} {Q : VK} {E : XK} (q : spP K g vs H Q E) : spP K h vs H Q E :=
  spS_imp (fun ts s r hr => by
    unfold pureF at hr ⊢
    split at hr
    · rename_i a ea
      rw [e _ _ ea]
      exact hr
    · cases hr) q
end
end L2.TL
/-! TL6: the law's own call, for laws that show values. -/
namespace L2.TL
open PySem PySem.Spec
open PyProof.Rows
/-- the script alone may be tracked: at a, known to its object -/
def scriptH (a : Addr) (o : Obj) (xs : List V) (known : Bool) : Hp := fun b => if b = a ∧ known = true then some (.frz o (.lst xs)) else none
theorem scriptH_some {a b : Addr} {o : Obj} {xs : List V} {known : Bool} {u : HO} (h : scriptH a o xs known b = some u) : b = a ∧ known = true ∧ u = .frz o (.lst xs) := by
  unfold scriptH at h
  split at h
  · rename_i c
    cases h
    exact ⟨c.1, c.2, rfl⟩
  · cases h
theorem law_run {P : Program} {w : World} {K : PySem.W.Frag} {mg mb : Str → Option Value} {k : Nat} {fa a : Addr} {fd : FuncData} {x : Str} {sp : Sp} {z : Shared} {us : List Value} {ns : List Int}
    (kin : K.In z.heap) (gl : z.heap.Ns mainGlobals mg) (bl : z.heap.Ns builtinsNs mb) (bb : ∀ y : Str, y ≠ "__name__" → mb y = bootBuiltins y) (lim : z.heap.NoLimit) (gens : z.gens = #[])
    (at_ : z.heap.get? a = some { cls := .type "list", data := .seq us.toArray }) (ia : IntsAre us ns) (few : ns.length ≤ sizeLine) (room : Room k callerA)
    (F : ∀ base : Heap, K.In base → base.Ns mainGlobals mg → FnG P w K mg base k fa fd [x] sp) (bind : ∀ (s : Shared) (u : Value), BindsTo s fd ⟨[u], []⟩ [(x, u)])
    (hsp : ∀ H : Hp, Only H → SqL K H a (ns.map V.int) → sp [.ref a] H (fun v _ => v = .bl true) fun _ _ _ => False) :
    codeAny (model P w) callerA (.call (.ref fa) ⟨[.ref a], []⟩) (fun r s' => r = .ok (.ret (.bool true)) ∧ OldK z.heap s'.heap ∧ s'.os = z.os ∧ AllBare s'.gens) z := by
  have rel := vals_ints ia
  have nlen : us.length = ns.length := ia.length
  obtain ⟨known, hk⟩ : ∃ known : Bool, known = true ↔ K.lookup a = none := by
    cases K.lookup a with
    | none => exact ⟨true, by simp⟩
    | some o => exact ⟨false, by simp⟩
  generalize hH : scriptH a { cls := .type "list", data := .seq us.toArray } (ns.map V.int) known = H
  have some_of : ∀ {b : Addr} {u : HO}, H b = some u → b = a ∧ known = true ∧ u = .frz { cls := .type "list", data := .seq us.toArray } (.lst (ns.map V.int)) := fun {b u} e => scriptH_some (by rw [hH]; exact e)
  have only : Only H := fun b => by
    cases e : H b with
    | none => exact .inl rfl
    | some u =>
      obtain ⟨_, _, rfl⟩ := some_of e
      exact .inr ⟨_, _, rfl⟩
  have sq : SqL K H a (ns.map V.int) := by
    cases e : K.lookup a with
    | some o =>
      have q := kin a o e
      rw [at_] at q
      cases q
      exact .inr ⟨_, us.toArray, _, e, rfl, rfl, rfl, by rw [List.size_toArray, nlen]; exact few, by simpa using rel⟩
    | none =>
      have hkn : known = true := hk.mpr e
      refine .inl (.inr ⟨{ cls := .type "list", data := .seq us.toArray }, ?_⟩)
      rw [← hH]
      exact if_pos ⟨rfl, hkn⟩
  have ok : HOk P w H z.heap := fun b u e => by
    obtain ⟨rfl, _, rfl⟩ := some_of e
    exact ⟨at_, by rw [List.length_map]; exact few, us, _, rel, at_⟩
  have stays : ∀ {b : Addr} {o : Obj}, z.heap.get? b = some o → H b = none → (hidT z.heap H).get? b = some o := fun q n => hidT_get q n
  have dicts : ∀ {b : Addr} {m : Str → Option Value}, z.heap.Ns b m → (hidT z.heap H).Ns b m := fun {b m} ⟨o, es, ep, q, d, r⟩ => by
    refine ⟨o, es, ep, stays q ?_, d, r⟩
    cases e : H b with
    | none => rfl
    | some u =>
      obtain ⟨rfl, _, _⟩ := some_of e
      rw [at_] at q
      cases q
      cases (show Data.seq us.toArray _ = Data.dict es ep from d)
  have kin' : K.In (hidT z.heap H) := fun b o q => stays (kin b o q) (by
    cases e : H b with
    | none => rfl
    | some u =>
      obtain ⟨rfl, hkn, _⟩ := some_of e
      rw [hk.mp hkn] at q
      cases q)
  obtain ⟨ml, l1, l2⟩ := lim
  have e0 : Env0 P w K mg (hidT z.heap H) callerA [] z H :=
    { frames := rfl
      mod := { kin := kin', glob := dicts gl, blt := ⟨mb, dicts bl, bb⟩, nolimit := ⟨ml, dicts l1, l2⟩ }
      bs := fun b o q => of_hidT q
      bsz := Nat.le_of_eq (hidT_size _ _)
      funs := trivial
      frf := fun b hb => by cases hb
      hok := ok
      bare := .of_eq gens }
  refine codeAny_mono ((F _ kin' (dicts gl)).runG callerA [] z H _ [.ref a] [.ref a] _ _ rfl room e0 (bind z (.ref a)) (.cons rfl .nil) (hsp H only sq)) ?_
  intro r s' hr
  cases r with
  | error e => exact (show False from hr).elim
  | ok fl =>
    cases fl with
    | ret u =>
      obtain ⟨v, H', os, bare, un, ok', rv, q⟩ := hr
      cases (show v = .bl true from q)
      cases (show u = Value.bool true from rv)
      refine ⟨rfl, OldK.of_keep ?_, os, bare⟩
      intro b o ob
      cases e : H b with
      | none => exact un.keep b o ob e (by intro m; cases m) (by intro m; cases m)
      | some t =>
        obtain ⟨_, _, rfl⟩ := some_of e
        have i1 := (ok b _ e).1
        have i2 := (ok' b _ (un.frzs b _ _ e)).1
        rw [ob] at i1
        cases i1
        exact i2
    | _ => exact (show False from hr).elim
/-- the goal that k_head leaves (case hc) -/
theorem walk_g {l : PySem.W.OpenLaw} {n k : Nat} {q : Program} {loose : List Str} {XP : (Str → Option Value) → Heap → Prop} {YP : World → Heap → Prop} {d : DefRec} {K : Params → PySem.W.Frag} {sp : PySem.W.Frag → Sp} {x : Str}
    (most : l.most = some n) (few : n ≤ sizeLine) (nodef : d.params.defaults = []) (room : Room k callerA)
    (hY : ∀ (w : World) (h : Heap), YP w h → (K w.params).In h)
    (F : ∀ (w : World) (mg : Str → Option Value) (fa : Addr) (h : Heap), (K w.params).In h → h.Ns mainGlobals mg → mg d.name = some (.ref fa) →
      ∃ fd : FuncData, (∀ (s : Shared) (u : Value), BindsTo s fd ⟨[u], []⟩ [(x, u)]) ∧ ∀ base : Heap, (K w.params).In base → base.Ns mainGlobals mg → FnG l.prog w (K w.params) mg base k fa fd [x] (sp (K w.params)))
    (hsp : ∀ (K : PySem.W.Frag) (H : Hp) (a : Addr) (ns : List Int), ns.length ≤ n → Only H → SqL K H a (ns.map V.int) → sp K [.ref a] H (fun v _ => v = .bl true) fun _ _ _ => False) :
    PySem.W.WalkO q loose XP YP l.row.toRowW d [] (fun f vs => PySem.call f vs) := by
  refine Att.attach_call most nodef ?_
  intro w s₀ s₁ mg mb fa o pm cd doc a us ns G Y ho hd hcd hmg hobj ia hl gens
  obtain ⟨fd, bind, hF⟩ := F w mg fa _ (hY w _ Y) G.T.g hmg
  exact law_run (hY w _ Y) G.T.g G.T.b G.T.builtins G.T.nolimit gens hobj ia (Nat.le_trans hl few) room hF bind fun H ho hs => hsp _ H a ns hl ho hs
end L2.TL
/-! TL7: repr and == of trees. -/
namespace L2.TL
open PySem PySem.Spec
open PyProof.Rows
def keyD : Key → PyData
  | .inl i => .int i
  | .inr x => .str x
mutual
/-- a tree as data -/
def T.d : T → PyData
  | .non => .none
  | .bl b => .bool b
  | .int i => .int i
  | .str x => .str x
  | .tup ts => .tuple (dL ts)
  | .lst ts => .list (dL ts)
  | .dct ps => .dict (dP ps)
  | .ins _ _ => .none
  | .adr _ => .none
  | .exc _ _ _ _ _ => .none
  | .ltp _ => .none
  | .exv _ _ => .none
def dL : List T → List PyData
  | [] => []
  | t :: ts => t.d :: dL ts
def dP : List (Key × T) → List (PyData × PyData)
  | [] => []
  | (k, t) :: r => (keyD k, t.d) :: dP r
end
mutual
/-- .. it is data alone -/
def T.plain : T → Bool
  | .tup ts => plainL ts
  | .lst ts => plainL ts
  | .dct ps => plainP ps
  | .ins _ _ => false
  | .adr _ => false
  | .exc _ _ _ _ _ => false
  | .ltp _ => false
  | .exv _ _ => false
  | _ => true
def plainL : List T → Bool
  | [] => true
  | t :: ts => t.plain && plainL ts
def plainP : List (Key × T) → Bool
  | [] => true
  | (_, t) :: r => t.plain && plainP r
end
mutual
/-- .. without lists -/
def T.noLst : T → Bool
  | .tup ts => noLstL ts
  | .lst _ => false
  | .dct ps => noLstP ps
  | _ => true
def noLstL : List T → Bool
  | [] => true
  | t :: ts => t.noLst && noLstL ts
def noLstP : List (Key × T) → Bool
  | [] => true
  | (_, t) :: r => t.noLst && noLstP r
end
section
variable {X : Cx} {pins : List (Addr × Obj)} {σ : St} {H I : Hp} {s : Shared}
theorem keysReads {h : Heap} {P : Program} {w : World} : ∀ {es : List DictEntry} {vs : List (Key × Value)}, PySem.Pairs (mixKind P w) es vs → ReadsAll h (es.map (·.key)) (vs.map fun p => keyD p.1) [] ∧ es.map (·.val) = vs.map (·.2)
  | _, _, .nil => ⟨ReadsAll.nil, rfl⟩
  | _, _, .cons hk hv t => by
    obtain ⟨h1, h2⟩ := keysReads (h := h) t
    rcases keyIs_shape hk with ⟨i, tk, e1, e2⟩ | ⟨x, tk, e1, e2⟩
    · refine ⟨?_, by simp only [List.map_cons]; rw [hv, h2]⟩
      simp only [List.map_cons]
      rw [e2, e1]
      exact ReadsAll.cons (Reads.int i tk) h1
    · refine ⟨?_, by simp only [List.map_cons]; rw [hv, h2]⟩
      simp only [List.map_cons]
      rw [e2, e1]
      exact ReadsAll.cons (Reads.str x tk) h1
/-- none of these places is the table of modules -/
def Off (as : List Addr) : Prop := sysModules ∉ as
theorem off_app {as bs : List Addr} (h : Off as) (g : Off bs) : Off (as ++ bs) := fun m => (List.mem_append.mp m).elim h g
theorem kv_snd {kvs : List (Key × V)} {vs : List (Key × Value)} (r : KV kvs vs) : Vals (kvs.map (·.2)) (vs.map (·.2)) ∧ kvs.map (·.1) = vs.map (·.1) := by
  induction r with
  | nil => exact ⟨.nil, rfl⟩
  | cons a _ ih => exact ⟨.cons a.2 ih.1, by simp only [List.map_cons]; rw [a.1, ih.2]⟩
theorem isD_vals {K : PySem.W.Frag} : ∀ {ps : List (Key × T)} {xs : List (Key × V)}, IsD K I ps xs → IsL K I (ps.map (·.2)) (xs.map (·.2)) ∧ xs.map (·.1) = ps.map (·.1)
  | [], _, h => by
    have h : _ = [] := h
    subst h
    exact ⟨IsL.nil, rfl⟩
  | (k, t) :: r, _, h => by
    obtain ⟨x, xr, rfl, h1, h2⟩ := h
    obtain ⟨q1, q2⟩ := isD_vals h2
    exact ⟨IsL.cons h1 q1, by simp only [List.map_cons]; rw [q2]⟩
theorem dP_keys : ∀ ps : List (Key × T), (dP ps).map (·.1) = (ps.map (·.1)).map keyD
  | [] => rfl
  | (k, t) :: r => by simp only [dP, List.map_cons, dP_keys r]
theorem dP_vals : ∀ ps : List (Key × T), (dP ps).map (·.2) = dL (ps.map (·.2))
  | [] => rfl
  | (k, t) :: r => by simp only [dP, dL, List.map_cons, dP_vals r]
theorem plainP_L : ∀ ps : List (Key × T), plainP ps = plainL (ps.map (·.2))
  | [] => rfl
  | (k, t) :: r => by simp only [plainP, plainL, List.map_cons, plainP_L r]
theorem noLstP_L : ∀ ps : List (Key × T), noLstP ps = noLstL (ps.map (·.2))
  | [] => rfl
  | (k, t) :: r => by simp only [noLstP, noLstL, List.map_cons, noLstP_L r]
theorem dP_len : ∀ ps : List (Key × T), (dP ps).length = ps.length
  | [] => rfl
  | (k, t) :: r => by simp only [dP, List.length_cons, dP_len r]
mutual
theorem Is.reads (J : Inv X pins σ H s) (sub : Same I H) : ∀ (t : T) (v : V) (u : Value), t.plain = true → Is X.K I t v → RelV v u → ∃ as, Reads s.heap u t.d as ∧ (t.noLst = true → Off as)
  | .non, _, _, _, h, r => by
    have h : _ = _ := h
    subst h
    cases r
    exact ⟨_, Reads.none, fun _ m => by cases m⟩
  | .bl b, _, _, _, h, r => by
    have h : _ = _ := h
    subst h
    cases r
    exact ⟨_, Reads.bool b, fun _ m => by cases m⟩
  | .int i, _, _, _, h, r => by
    have h : _ = _ := h
    subst h
    obtain ⟨t, rfl⟩ := r
    exact ⟨_, Reads.int i t, fun _ m => by cases m⟩
  | .str x, _, _, _, h, r => by
    have h : _ = _ := h
    subst h
    obtain ⟨t, rfl⟩ := r
    exact ⟨_, Reads.str x t, fun _ m => by cases m⟩
  | .lst ts, _, _, hp, h, r => by
    obtain ⟨a, xs, rfl, h1, h2⟩ := h
    cases r
    obtain ⟨its, rv, ⟨o, n, ho, hc, _, hd⟩, _⟩ := J.list (.of (sub _ _ h1))
    obtain ⟨as, hr, _⟩ := IsL.reads J sub ts xs its (by simpa only [T.plain] using hp) h2 rv
    exact ⟨_, Reads.list ho hc hd hr, fun z => by cases z⟩
  | .tup ts, _, _, hp, h, r => by
    obtain ⟨a, xs, rfl, h1, h2⟩ := h
    cases r
    obtain ⟨its, rv, ⟨o, ho, hc, n, hd⟩, _⟩ := J.tuple (sqt_mono sub h1.1)
    obtain ⟨as, hr, hn⟩ := IsL.reads J sub ts xs its (by simpa only [T.plain] using hp) h2 rv
    exact ⟨_, Reads.tuple ho hc hd hr, fun z => hn (by simpa only [T.noLst] using z)⟩
  | .dct ps, _, _, hp, h, r => by
    obtain ⟨a, xs, rfl, h1, h2⟩ := h
    cases r
    obtain ⟨hz, hS, vs, kv, o, es, ep, ho, hx, hd, _, pr, _⟩ : xs.length ≤ sizeLine ∧ (a == sysModules) = false ∧ ∃ vs, KV xs vs ∧ s.heap.DictOf (mixKind X.prog X.w) a vs := J.hok a _ (sub _ _ h1)
    obtain ⟨rk, rl⟩ := keysReads (h := s.heap) pr
    obtain ⟨kv1, kv2⟩ := kv_snd kv
    obtain ⟨i1, i2⟩ := isD_vals h2
    obtain ⟨as, hr, hn⟩ := IsD.reads J sub ps _ _ (by simpa only [T.plain] using hp) i1 kv1
    have e1 : (vs.map fun p => keyD p.1) = (dP ps).map (·.1) := by
      have : (vs.map fun p => keyD p.1) = (vs.map (·.1)).map keyD := by rw [List.map_map]; rfl
      rw [this, ← kv2, i2, dP_keys]
    rw [e1] at rk
    rw [← rl] at hr
    refine ⟨_, Reads.dict ho hx.1 hd rk (by rw [dP_vals]; exact hr), fun z => ?_⟩
    have hne : a ≠ sysModules := by simpa using hS
    intro m
    rcases List.mem_append.mp m with m | m
    · rcases List.mem_cons.mp m with m | m
      · exact hne m.symm
      · cases m
    · exact hn (by simpa only [T.noLst] using z) m
  | .ins _ _, _, _, hp, _, _ => by cases hp
  | .adr _, _, _, hp, _, _ => by cases hp
  | .exc _ _ _ _ _, _, _, hp, _, _ => by cases hp
  | .ltp _, _, _, hp, _, _ => by cases hp
  | .exv _ _, _, _, hp, _, _ => by cases hp
theorem IsL.reads (J : Inv X pins σ H s) (sub : Same I H) : ∀ (ts : List T) (vs : List V) (us : List Value), plainL ts = true → IsL X.K I ts vs → Vals vs us → ∃ as, ReadsAll s.heap us (dL ts) as ∧ (noLstL ts = true → Off as)
  | [], _, _, _, h, r => by
    have h : _ = [] := h
    subst h
    cases r
    exact ⟨_, ReadsAll.nil, fun _ m => by cases m⟩
  | t :: ts, _, _, hp, h, r => by
    obtain ⟨x, xr, rfl, h1, h2⟩ := h
    cases r with
    | cons r1 r2 =>
      simp only [plainL, Bool.and_eq_true] at hp
      obtain ⟨as, q1, n1⟩ := Is.reads J sub t x _ hp.1 h1 r1
      obtain ⟨bs, q2, n2⟩ := IsL.reads J sub ts xr _ hp.2 h2 r2
      refine ⟨_, ReadsAll.cons q1 q2, fun z => ?_⟩
      simp only [noLstL, Bool.and_eq_true] at z
      exact off_app (n1 z.1) (n2 z.2)
theorem IsD.reads (J : Inv X pins σ H s) (sub : Same I H) : ∀ (ps : List (Key × T)) (vs : List V) (us : List Value), plainP ps = true → IsL X.K I (ps.map (·.2)) vs → Vals vs us → ∃ as, ReadsAll s.heap us (dL (ps.map (·.2))) as ∧ (noLstP ps = true → Off as)
  | [], _, _, _, h, r => by
    have h : _ = [] := h
    subst h
    cases r
    exact ⟨_, ReadsAll.nil, fun _ m => by cases m⟩
  | (k, t) :: ps, _, _, hp, h, r => by
    obtain ⟨x, xr, rfl, h1, h2⟩ := h
    cases r with
    | cons r1 r2 =>
      simp only [plainP, Bool.and_eq_true] at hp
      obtain ⟨as, q1, n1⟩ := Is.reads J sub t x _ hp.1 h1 r1
      obtain ⟨bs, q2, n2⟩ := IsD.reads J sub ps xr _ hp.2 h2 r2
      refine ⟨_, ReadsAll.cons q1 q2, fun z => ?_⟩
      simp only [noLstP, Bool.and_eq_true] at z
      exact off_app (n1 z.1) (n2 z.2)
end
end
/-- what repr shows -/
def T.show (t : T) : Str := t.d.shown
def showOk (t : T) : Bool := t.plain && t.d.showable && (!t.d.hasDict || t.noLst) && decide (t.d.depth ≤ 60) && decide (t.d.shown.length ≤ sizeLine)
def reprT : List T → Option T
  | [t] => if showOk t = true then some (.str t.show) else none
  | _ => none
section
variable {X : Cx}
def rRepr (K : PySem.W.Frag) : List V → Hp → VK → Prop := fun xs H Q => ∃ I t x, Same I H ∧ xs = [x] ∧ Is K I t x ∧ showOk t = true ∧ Q (.str t.show) H
theorem call_repr (gd : X.A.guards = some []) (hu : X.A.units + 64 < cLine) : CallR X (.builtin "repr") (rRepr X.K) := by
  intro pins s σ H xs us Q J r h
  obtain ⟨I, t, x, sub, rfl, ix, ok, q⟩ := h
  obtain ⟨u, rfl, rx⟩ := r.one
  unfold showOk at ok
  simp only [Bool.and_eq_true, decide_eq_true_eq, Bool.or_eq_true, Bool.not_eq_true'] at ok
  obtain ⟨⟨⟨⟨o1, o2⟩, o3⟩, o4⟩, o5⟩ := ok
  have q : Q (.str t.d.shown) H := q
  have fin : ∀ (h' : Heap) (tk : Tok) (n : Nat), (∀ b o, s.heap.get? b = some o → h'.get? b = some o) → EP X pins σ Q (.str t.d.shown tk) { s with heap := h', toks := n } := fun h' tk n hk => ⟨.str _, H, J.kept hk, ⟨tk, rfl⟩, q⟩
  have far : ∀ a, u = Value.ref a → wpAny (model X.prog X.w) X.A (call (.builtin "repr") [u]) (EP X pins σ Q) X.xe s := fun a e => by
    subst e
    obtain ⟨as, rd, off⟩ := Is.reads J sub t x _ o1 ix rx
    exact repr_of_reads' rd o2 (fun hd => off (o3.resolve_left (by rw [hd]; exact Bool.noConfusion))) gd (by omega) (fun _ _ z => z) (fun h' tk n hk => fin h' tk n hk) o5
  cases t with
  | non =>
    cases (show x = V.non from ix)
    cases rx
    exact PySem.P.repr_of_none (fin s.heap _ _ fun _ _ z => z)
  | bl b =>
    cases (show x = V.bl b from ix)
    cases rx
    refine PySem.P.repr_of_bool ?_
    cases b
    · exact fin s.heap _ _ fun _ _ z => z
    · exact fin s.heap _ _ fun _ _ z => z
  | int i =>
    cases (show x = V.int i from ix)
    obtain ⟨tk, rfl⟩ := rx
    exact PySem.P.repr_of_int (of_decide_eq_true o2) (fin s.heap _ _ fun _ _ z => z)
  | str y =>
    cases (show x = V.str y from ix)
    obtain ⟨tk, rfl⟩ := rx
    exact PySem.P.repr_of_str (fin s.heap _ _ fun _ _ z => z) o5
  | lst ts =>
    obtain ⟨a, ys, rfl, _⟩ := id ix
    exact far a rx
  | tup ts =>
    obtain ⟨a, ys, rfl, _⟩ := id ix
    exact far a rx
  | dct ps =>
    obtain ⟨a, ys, rfl, _⟩ := id ix
    exact far a rx
  | ins _ _ => cases o1
  | adr _ => cases o1
  | exc _ _ _ _ _ => cases o1
  | ltp _ => cases o1
  | exv _ _ => cases o1
theorem op1_repr : Op1 X (rRepr X.K) reprT := by
  intro Z G I H σ τ s as c xs Q w il e q
  unfold reprT at e
  split at e
  · rename_i t
    split at e
    · rename_i ok
      cases e
      obtain ⟨x, rfl, ix⟩ := il.one
      exact ⟨I, t, x, w.sub, rfl, ix, ok, q.here w rfl⟩
    · cases e
  · cases e
/-! ### == of data -/
def eqT (neg : Bool) : T → T → Option T := fun a b => if a.plain = true ∧ b.plain = true ∧ SeqAt.shaped a.d = true ∧ SeqAt.shaped b.d = true then some (.bl (if neg then !PyData.eqv a.d b.d else PyData.eqv a.d b.d)) else none
def rEqT (K : PySem.W.Frag) (neg : Bool) : R2 := fun x y H Q => ∃ I a b, Same I H ∧ Is K I a x ∧ Is K I b y ∧ a.plain = true ∧ b.plain = true ∧ SeqAt.shaped a.d = true ∧ SeqAt.shaped b.d = true ∧ Q (.bl (if neg then !PyData.eqv a.d b.d else PyData.eqv a.d b.d)) H
theorem op_eqT (hu : X.A.units + 64 < cLine) : OpR X (compareOp .Eq) (rEqT X.K false) := by
  intro pins s σ H x y v u Q J rx ry h
  obtain ⟨I, a, b, sub, ia, ib, pa, pb, sa, sb, q⟩ := h
  obtain ⟨as, r1, _⟩ := Is.reads J sub a x v pa ia rx
  obtain ⟨bs, r2, _⟩ := Is.reads J sub b y u pb ib ry
  exact SeqAt.compareEq_shaped r1 r2 sa sb hu ⟨.bl _, H, J, rfl, q⟩
theorem op_neT (hu : X.A.units + 64 < cLine) : OpR X (compareOp .NotEq) (rEqT X.K true) := by
  intro pins s σ H x y v u Q J rx ry h
  obtain ⟨I, a, b, sub, ia, ib, pa, pb, sa, sb, q⟩ := h
  obtain ⟨as, r1, _⟩ := Is.reads J sub a x v pa ia rx
  obtain ⟨bs, r2, _⟩ := Is.reads J sub b y u pb ib ry
  exact SeqAt.compareNe_shaped r1 r2 sa sb hu ⟨.bl _, H, J, rfl, q⟩
theorem op2_eqT {neg : Bool} : Op2 X (rEqT X.K neg) (eqT neg) := by
  intro Z G I H σ τ s a b c x y Q w i1 i2 e q
  unfold eqT at e
  split at e
  · rename_i h
    cases e
    exact ⟨I, a, b, w.sub, i1, i2, h.1, h.2.1, h.2.2.1, h.2.2.2, q.here w rfl⟩
  · cases e
end
end L2.TL
/-! TL8: texts, places, slices, len, constants, chains. -/
namespace L2.TL
open PySem PySem.Spec
open PyProof.Rows
section
variable {X : Cx} {Z : Res} {a b c e : Expr} {es : List Expr} {fa fb fc f : EF Z} {fs : EFs Z} {pos : Pos}
/-! ### chains -/
theorem chain_run {r r' : R2} {op op' : T → T → Option T} {ta tb tc : TE} (hr : Op2 X r op) (hr' : Op2 X r' op') (h1 : ∀ G I H σ τ s a s' Q, Rep X.K Z G I H σ τ s → fa τ s = some (a, s') → Hand X Z G I σ τ s' a Q → ta σ H Q)
    (h2 : ∀ G I H σ τ s a s' Q, Rep X.K Z G I H σ τ s → fb τ s = some (a, s') → Hand X Z G I σ τ s' a Q → tb σ H Q) (h3 : ∀ G I H σ τ s a s' Q, Rep X.K Z G I H σ τ s → fc τ s = some (a, s') → Hand X Z G I σ τ s' a Q → tc σ H Q)
    {G I H : Hp} {σ : St} {τ : List SV} {s s' : Z.S} {d : T} {Q : VK} (w : Rep X.K Z G I H σ τ s) (h : x3 op op' fa fb fc τ s = some (d, s')) (q : Hand X Z G I σ τ s' d Q) : tChain r r' ta tb tc σ H Q := by
  unfold x3 at h
  split at h
  · rename_i a s1 ea
    split at h
    · rename_i b s2 eb
      refine h1 _ _ _ _ _ _ _ _ _ w ea fun I1 H1 v m1 w1 i1 => ?_
      refine h2 _ _ _ _ _ _ _ _ _ w1 eb fun I2 H2 u m2 w2 i2 => ?_
      split at h
      · rename_i eo
        split at h
        · rename_i c s3 ec
          split at h
          · rename_i d' ed
            cases h
            refine hr Z _ _ _ _ _ _ _ _ _ _ _ _ w2 (i1.mono m2) i2 eo fun I3 H3 z m3 w3 i3 => ⟨true, i3, iteT ?_⟩
            refine h3 _ _ _ _ _ _ _ _ _ w3 ec fun I4 H4 y m4 w4 i4 => ?_
            exact hr' Z _ _ _ _ _ _ _ _ _ _ _ _ w4 (i2.mono (m3.trans m4)) i4 ed fun I5 H5 z' m5 w5 i5 => q I5 H5 z' ((((m1.trans m2).trans m3).trans m4).trans m5) w5 i5
          · cases h
        · cases h
      · rename_i eo
        cases h
        exact hr Z _ _ _ _ _ _ _ _ _ _ _ _ w2 (i1.mono m2) i2 eo fun I3 H3 z m3 w3 i3 => ⟨false, i3, iteF (q I3 H3 _ ((m1.trans m2).trans m3) w3 rfl)⟩
      · cases h
    · cases h
  · cases h
theorem ex_chain {o o' : CmpOp} {r r' : R2} {op op' : T → T → Option T} (ho : OpR X (compareOp o) r) (hr : Op2 X r op) (ho' : OpR X (compareOp o') r') (hr' : Op2 X r' op') (ha : EX X Z a fa) (hb : EX X Z b fb) (hc : EX X Z c fc)
    (hm : lastMarks [o, o'] [b, c] = false := by with_unfolding_all rfl) : EX X Z (.Compare a [o, o'] [b, c] pos) (x3 op op' fa fb fc) := by
  obtain ⟨ta, pa, h1⟩ := ha
  obtain ⟨tb, pb, h2⟩ := hb
  obtain ⟨tc, pc, h3⟩ := hc
  exact ⟨_, pe_chain ho ho' pa pb pc hm, fun G I H σ τ s d s' Q w h q => chain_run hr hr' h1 h2 h3 w h q⟩
theorem eb_chain {o o' : CmpOp} {r r' : R2} {op op' : T → T → Option T} (ho : OpR X (compareOp o) r) (hr : Op2 X r op) (ho' : OpR X (compareOp o') r') (hr' : Op2 X r' op') (ha : EX X Z a fa) (hb : EX X Z b fb) (hc : EX X Z c fc)
    (hm : lastMarks [o, o'] [b, c] = false := by with_unfolding_all rfl) : EB X Z (.Compare a [o, o'] [b, c] pos) (xb (x3 op op' fa fb fc)) := by
  obtain ⟨ta, pa, h1⟩ := ha
  obtain ⟨tb, pb, h2⟩ := hb
  obtain ⟨tc, pc, h3⟩ := hc
  exact ⟨_, pt_chain ho ho' pa pb pc hm, fun G I H σ τ s d s' Q w h q => chain_run hr hr' h1 h2 h3 w (xb_of h) fun I' H' v m w' i => ⟨d, i, q I' H' m w'⟩⟩
/-- a constant of the module -/
theorem ex_glob {x : Str} {t : T} {v : V} {u : Value} (hg : Gl X x) (hm : X.mg x = some u) (r : RelV v u) (hi : ∀ I, Is X.K I t v) (hd : (x == ("__debug__" : Str)) = false := by decide) : EX X Z (.Name x pos) (xC t) :=
  ⟨_, pe_glob hg hm r hd, fun G I H σ τ s a s' Q w h q => by
    cases h
    exact q I H v (Same.refl _) w (hi I)⟩
/-! ### len -/
def lenT : List T → Option T
  | [.lst ts] => some (.int ts.length)
  | [.tup ts] => some (.int ts.length)
  | [.str x] => if x.length ≤ sizeLine then some (.int x.length) else none
  | _ => none
def rLen (K : PySem.W.Frag) : List V → Hp → VK → Prop := fun xs H Q => ∃ x n, xs = [x] ∧ LenV K x H n ∧ Q (.int n) H
theorem op1_len : Op1 X (rLen X.K) lenT := by
  intro Z G I H σ τ s as c xs Q w il e q
  unfold lenT at e
  split at e
  · cases e
    obtain ⟨x, rfl, ix⟩ := il.one
    obtain ⟨p, ys, rfl, h1, h2⟩ := ix
    exact ⟨_, _, rfl, .inl ⟨ys, .of (w.sub _ _ h1), rfl⟩, by rw [h2.len]; exact q.here w rfl⟩
  · cases e
    obtain ⟨x, rfl, ix⟩ := il.one
    obtain ⟨p, ys, rfl, h1, h2⟩ := ix
    exact ⟨_, _, rfl, .inr ⟨ys, sqt_mono w.sub h1.1, rfl⟩, by rw [h2.len]; exact q.here w rfl⟩
  · split at e
    · rename_i y hz
      cases e
      obtain ⟨x, rfl, ix⟩ := il.one
      have ix : x = _ := ix
      subst ix
      exact ⟨_, _, rfl, ⟨hz, rfl⟩, q.here w rfl⟩
    · cases e
  · cases e
/-! ### an item by its place -/
def ixT : T → T → Option T
  | .lst ts, .int i => atI ts i
  | .tup ts, .int i => atI ts i
  | .str x, .int i => if x.length ≤ sizeLine then match atI x.cps.toList i with
      | some c => some (.str ⟨#[c]⟩)
      | none => none
    else none
  | _, _ => none
theorem IsL.atI {K : PySem.W.Frag} {I : Hp} {ts : List T} {xs : List V} {i : Int} {t : T} (h : IsL K I ts xs) (e : L2.atI ts i = some t) : ∃ x, L2.atI xs i = some x ∧ Is K I t x := by
  unfold L2.atI at e ⊢
  rw [h.len]
  cases hj : ixN ts.length i with
  | none => rw [hj] at e; cases e
  | some j =>
    rw [hj] at e
    exact h.at e
theorem op2_ix : Op2 X (rIx X.K) ixT := by
  intro Z G I H σ τ s a b c x y Q w i1 i2 e q
  unfold ixT at e
  split at e
  · obtain ⟨p, xs, rfl, h1, h2⟩ := i1
    have i2 : y = _ := i2
    subst i2
    obtain ⟨v, e1, e2⟩ := h2.atI e
    exact .inl ⟨p, xs, _, v, rfl, rfl, .of (w.sub _ _ h1), e1, q.here w e2⟩
  · obtain ⟨p, xs, rfl, h1, h2⟩ := i1
    have i2 : y = _ := i2
    subst i2
    obtain ⟨v, e1, e2⟩ := h2.atI e
    exact .inr (.inl ⟨p, xs, _, v, rfl, rfl, sqt_mono w.sub h1.1, e1, q.here w e2⟩)
  · split at e
    · rename_i hz
      split at e
      · rename_i d ed
        cases e
        have i1 : x = _ := i1
        have i2 : y = _ := i2
        subst i1 i2
        exact .inr (.inr ⟨_, _, d, rfl, rfl, hz, ed, q.here w rfl⟩)
      · cases e
    · cases e
  · cases e
/-! ### slices -/
def EO (X : Cx) (Z : Res) (e : Option Expr) (f : List SV → Z.S → Option (Option Int × Z.S)) : Prop :=
  ∃ t, PO X e t ∧ ∀ G I H σ τ s o s' Q, Rep X.K Z G I H σ τ s → f τ s = some (o, s') → (∀ I' H', Same I I' → Rep X.K Z G I' H' σ τ s' → Q o H') → t σ H Q
def oNone {Z : Res} : List SV → Z.S → Option (Option Int × Z.S) := fun _ s => some (none, s)
def oSome {Z : Res} (f : EF Z) : List SV → Z.S → Option (Option Int × Z.S) := fun τ s => match f τ s with
  | some (.int i, s') => some (some i, s')
  | _ => none
theorem eo_none : EO X Z none oNone := ⟨_, po_none, fun G I H σ τ s o s' Q w h q => by
  cases h
  exact q I H (Same.refl _) w⟩
theorem eo_some (h : EX X Z e f) : EO X Z (some e) (oSome f) := by
  obtain ⟨t, p, h1⟩ := h
  refine ⟨_, po_some p, fun G I H σ τ s o s' Q w h q => ?_⟩
  unfold oSome at h
  split at h
  · rename_i i s1 ea
    cases h
    refine h1 _ _ _ _ _ _ _ _ _ w ea fun I1 H1 v m1 w1 i1 => ?_
    have i1 : v = _ := i1
    subst i1
    exact ⟨i, rfl, q I1 H1 m1 w1⟩
  · cases h
def cutL {α : Type} (ts : List α) (lo hi : Option Int) : List α := (ts.drop (HT.sIx ts.length 0 lo)).take (HT.sIx ts.length ts.length hi - HT.sIx ts.length 0 lo)
def cutT (t : T) (lo hi : Option Int) : Option T := match t with
  | .tup ts => some (.tup (cutL ts lo hi))
  | .lst ts => some (.lst (cutL ts lo hi))
  | .str x => if x.length ≤ sizeLine then some (.str (cutS x lo hi)) else none
  | _ => none
theorem IsL.cut {K : PySem.W.Frag} {I : Hp} {ts : List T} {xs : List V} (h : IsL K I ts xs) (lo hi : Option Int) : IsL K I (cutL ts lo hi) (cutV xs lo hi) := by
  unfold cutL cutV
  rw [h.len]
  exact (h.drop _).take _
def xCut {Z : Res} (f : EF Z) (lo hi : List SV → Z.S → Option (Option Int × Z.S)) : EF Z := fun τ s => match f τ s with
  | some (a, s1) => match lo τ s1 with
    | some (l, s2) => match hi τ s2 with
      | some (h, s3) => match cutT a l h with
        | some b => some (b, s3)
        | none => none
      | none => none
    | none => none
  | none => none
def rSlc (K : PySem.W.Frag) : V → Option Int → Option Int → Hp → VK → Prop := fun x lo hi H Q => rSlL K x lo hi H Q ∨ (rSlN K x lo hi H Q ∨ rSlS x lo hi H Q)
theorem slc_run {G I H : Hp} {σ : St} {τ : List SV} {s : Z.S} {a b : T} {x : V} {lo hi : Option Int} {Q : VK} (w : Rep X.K Z G I H σ τ s) (i : Is X.K I a x) (h : cutT a lo hi = some b) (q : Hand X Z G I σ τ s b Q) : rSlc X.K x lo hi H Q := by
  unfold cutT at h
  split at h
  · rename_i ts
    cases h
    obtain ⟨p, xs, rfl, h1, h2⟩ := i
    refine .inr (.inl ⟨p, xs, rfl, sqt_mono w.sub h1.1, fun hw => ?_, fun _ l ob hl c1 c2 => q.new w hl fun I' m e => ⟨l, _, rfl, sqp_new e c1 c2, (h2.cut lo hi).mono m⟩⟩)
    refine q.here w ⟨p, xs, rfl, h1, ?_⟩
    unfold cutL
    rw [h2.len] at hw
    rw [hw.1, hw.2, List.drop_zero, Nat.sub_zero, List.take_length]
    exact h2
  · cases h
    obtain ⟨p, xs, rfl, h1, h2⟩ := i
    exact .inl ⟨p, xs, rfl, .of (w.sub _ _ h1), fun l hl => q.new w hl fun I' m e => ⟨l, _, rfl, e, (h2.cut lo hi).mono m⟩⟩
  · split at h
    · rename_i hz
      cases h
      have i : x = _ := i
      subst i
      exact .inr (.inr ⟨_, rfl, hz, q.here w rfl⟩)
    · cases h
  · cases h
theorem ex_cut {lo hi : Option Expr} {fl fh : List SV → Z.S → Option (Option Int × Z.S)} {p2 : Pos} (he : EX X Z e f) (hl : EO X Z lo fl) (hh : EO X Z hi fh) : EX X Z (.Subscript e (.Slice lo hi none p2) pos) (xCut f fl fh) := by
  obtain ⟨t, p, h1⟩ := he
  obtain ⟨tl, pl, h2⟩ := hl
  obtain ⟨th, ph, h3⟩ := hh
  refine ⟨_, pe_slice (r := rSlc X.K) (sl_list.or (sl_tupN.or sl_str)) p pl ph, fun G I H σ τ s a s' Q w h q => ?_⟩
  unfold xCut at h
  split at h
  · rename_i a s1 ea
    split at h
    · rename_i l s2 el
      split at h
      · rename_i u s3 eh
        split at h
        · rename_i b eb
          cases h
          refine h1 _ _ _ _ _ _ _ _ _ w ea fun I1 H1 v m1 w1 i1 => ?_
          refine h2 _ _ _ _ _ _ _ _ _ w1 el fun I2 H2 m2 w2 => ?_
          refine h3 _ _ _ _ _ _ _ _ _ w2 eh fun I3 H3 m3 w3 => ?_
          exact slc_run w3 (i1.mono (m2.trans m3)) eb fun I4 H4 z m4 w4 i4 => q I4 H4 z (((m1.trans m2).trans m3).trans m4) w4 i4
        · cases h
      · cases h
    · cases h
  · cases h
/-! ### methods of texts -/
def strs? : List T → Option (List Str)
  | [] => some []
  | .str x :: r => match strs? r with
    | some xs => some (x :: xs)
    | none => none
  | _ => none
theorem strs?_eq : ∀ {ts : List T} {xs : List Str}, strs? ts = some xs → ts = xs.map T.str
  | [], _, h => by
    cases h
    rfl
  | t :: r, xs, h => by
    cases t with
    | str x =>
      have h : (match strs? r with
        | some xs => some (x :: xs)
        | none => none) = some xs := h
      split at h
      · rename_i ys e
        cases h
        rw [strs?_eq e]
        rfl
      · cases h
    | _ => cases h
theorem strs?_map : ∀ xs : List Str, strs? (xs.map T.str) = some xs
  | [] => rfl
  | x :: r => by
    show (match strs? (r.map T.str) with
      | some xs => some (x :: xs)
      | none => none) = some (x :: r)
    rw [strs?_map r]
def joinT : T → List T → Option T
  | .str a, [.lst ts] => match strs? ts with
    | some ys => if (ys.map (·.length)).sum + ys.length * a.length ≤ 16777216 then some (.str (Txt.join a ys)) else none
    | none => none
  | _, _ => none
def rJoin (K : PySem.W.Frag) : V → List V → Hp → VK → Prop := fun x xs H Q => ∃ a p, ∃ ys : List Str, x = .str a ∧ xs = [.ref p] ∧ (SqL K H p (ys.map V.str) ∨ SqT K H p (ys.map V.str)) ∧
    (ys.map (·.length)).sum + ys.length * a.length ≤ 16777216 ∧ Q (.str (Txt.join a ys)) H
theorem opm_join : OpM X (rJoin X.K) joinT := by
  intro Z G I H σ τ s a as c x xs Q w ia il e q
  unfold joinT at e
  split at e
  · rename_i y ts
    split at e
    · rename_i ys es
      split at e
      · rename_i hz
        cases e
        have ia : x = _ := ia
        subst ia
        obtain ⟨v, rfl, iv⟩ := il.one
        rw [strs?_eq es] at iv
        obtain ⟨p, us, rfl, h1, h2⟩ := iv
        have := h2.strs
        subst this
        exact ⟨_, p, ys, rfl, rfl, .inl (.of (w.sub _ _ h1)), hz, q.here w rfl⟩
      · cases e
    · cases e
  · cases e
/-- a method of a text that takes nothing -/
def strM (g : Str → T) (lim : Nat) : T → List T → Option T
  | .str a, [] => if a.length ≤ lim then some (g a) else none
  | _, _ => none
def rStrM (g : Str → V) (lim : Nat) : V → List V → Hp → VK → Prop := fun x xs H Q => ∃ a, x = .str a ∧ xs = [] ∧ a.length ≤ lim ∧ Q (g a) H
theorem opm_str {g : Str → T} {gv : Str → V} {lim : Nat} (hg : ∀ K I a, Is K I (g a) (gv a)) : OpM X (rStrM gv lim) (strM g lim) := by
  intro Z G I H σ τ s a as c x xs Q w ia il e q
  unfold strM at e
  split at e
  · split at e
    · rename_i hz
      cases e
      have ia : x = _ := ia
      subst ia
      exact ⟨_, rfl, il.zero, hz, q.here w (hg _ _ _)⟩
    · cases e
  · cases e
def rStrT (g : Str → V) : V → List V → Hp → VK → Prop := fun x xs H Q => ∃ a, x = .str a ∧ xs = [] ∧ True ∧ Q (g a) H
def strMT (g : Str → T) : T → List T → Option T
  | .str a, [] => some (g a)
  | _, _ => none
theorem opm_strT {g : Str → T} {gv : Str → V} (hg : ∀ K I a, Is K I (g a) (gv a)) : OpM X (rStrT gv) (strMT g) := by
  intro Z G I H σ τ s a as c x xs Q w ia il e q
  unfold strMT at e
  split at e
  · cases e
    have ia : x = _ := ia
    subst ia
    exact ⟨_, rfl, il.zero, trivial, q.here w (hg _ _ _)⟩
  · cases e
theorem is_bl (g : Str → Bool) : ∀ (K : PySem.W.Frag) (I : Hp) (a : Str), Is K I (T.bl (g a)) (V.bl (g a)) := fun _ _ _ => rfl
theorem is_str (g : Str → Str) : ∀ (K : PySem.W.Frag) (I : Hp) (a : Str), Is K I (T.str (g a)) (V.str (g a)) := fun _ _ _ => rfl
/-! ### text * n -/
def mulS : T → T → Option T
  | .str x, .int n => if 0 ≤ n ∧ n ≤ 1000 ∧ x.length ≤ 1000 then some (.str (Txt.mul x n)) else none
  | _, _ => none
def rMulS : R2 := fun x y H Q => ∃ z n, x = .str z ∧ y = .int n ∧ (0 ≤ n ∧ n ≤ 1000 ∧ z.length ≤ 1000) ∧ Q (.str (Txt.mul z n)) H
theorem op_mulS : OpR X (binaryOp .Mult) rMulS := by
  intro pins s σ H x y v u Q J rx ry h
  obtain ⟨z, n, rfl, rfl, ⟨n0, n1, n2⟩, q⟩ := h
  obtain ⟨t, rfl⟩ := rx
  obtain ⟨t', rfl⟩ := ry
  refine SB.mul ⟨?_, fun h1 h2 h3 => ?_, fun h1 h2 => ?_⟩ fun t' k => ⟨.str _, H, J.tok _, ⟨_, rfl⟩, q⟩
  · have e1 : decide (n < -(2 ^ 63 : Int)) = false := decide_eq_false (by omega)
    have e2 : decide (n ≥ 2 ^ 63) = false := decide_eq_false (by omega)
    rw [e1, e2]
    rfl
  · have h4 : (1000 : Int) ≤ (2 ^ 63 - 1) / n := by
      rw [Int.le_ediv_iff_mul_le (by omega)]
      omega
    omega
  · have hk : n.toNat ≤ 1000 := by omega
    have hm : z.length * n.toNat ≤ 1000 * 1000 := Nat.mul_le_mul n2 hk
    exact decide_eq_false (by rw [sizeLine_eq] at *; omega)
theorem op2_mulS : Op2 X rMulS mulS := by
  intro Z G I H σ τ s a b c x y Q w i1 i2 e q
  unfold mulS at e
  split at e
  · split at e
    · rename_i hz
      cases e
      have i1 : x = _ := i1
      have i2 : y = _ := i2
      exact ⟨_, _, i1, i2, hz, q.here w rfl⟩
    · cases e
  · cases e
end
end L2.TL
/-! TLd: the deck that a law draws from. -/
namespace L2.TL
open PySem PySem.Spec
open PyProof.Rows
structure Deck where
  cells : List Int
  blend : Int
  draws : Int
  few : cells.length ≤ 63
def deckK (c : Addr) (b n : Int) : List (Key × V) := [(Sum.inr "cells", .ref c), (Sum.inr "blend", .int b), (Sum.inr "draws", .int n)]
def DeckAt (d c : Addr) (s : Deck) (H : Hp) : Prop := H d = some (.dK (deckK c s.blend s.draws)) ∧ H c = some (.lst (s.cells.map V.int))
/-- the resource: the dict at d, its list at c -/
def deckZ (d c : Addr) : Res where
  S := Deck
  F := fun p => p = d ∨ p = c
  R := fun s _ H => DeckAt d c s H
  dom := fun s I H p r h => by
    rcases h with rfl | rfl
    · exact ⟨_, r.1⟩
    · exact ⟨_, r.2⟩
  loc := fun s I H I' H' r _ k => ⟨by rw [k d (.inl rfl)]; exact r.1, by rw [k c (.inr rfl)]; exact r.2⟩
theorem s_bc : ¬ ("blend" : Str) = "cells" := by decide +kernel
theorem s_cd : ¬ ("cells" : Str) = "draws" := by decide +kernel
theorem s_bd : ¬ ("blend" : Str) = "draws" := by decide +kernel
theorem s_cb : ¬ ("cells" : Str) = "blend" := by decide +kernel
theorem s_db : ¬ ("draws" : Str) = "blend" := by decide +kernel
theorem s_dc : ¬ ("draws" : Str) = "cells" := by decide +kernel
theorem inrN {x y : Str} (h : ¬ x = y) : ¬ (Sum.inr x : Key) = Sum.inr y := fun e => h (Sum.inr.inj e)
theorem deck_cells (c : Addr) (b n : Int) : valV (deckK c b n) (Sum.inr "cells") = some (.ref c) := by
  unfold deckK
  rw [valV_pos rfl]
theorem deck_blend (c : Addr) (b n : Int) : valV (deckK c b n) (Sum.inr "blend") = some (.int b) := by
  unfold deckK
  rw [valV_neg (inrN s_cb), valV_pos rfl]
theorem deck_draws (c : Addr) (b n : Int) : valV (deckK c b n) (Sum.inr "draws") = some (.int n) := by
  unfold deckK
  rw [valV_neg (inrN s_cd), valV_neg (inrN s_bd), valV_pos rfl]
theorem deck_put (c : Addr) (b n m : Int) : putK (deckK c b n) (Sum.inr "draws") (.int m) = deckK c b m := by
  unfold deckK putK
  simp [s_cd, s_bd]
theorem deck_merge (c : Addr) (b n : Int) : mergeK [] (deckK c b n) = deckK c b n := by
  unfold mergeK deckK
  simp [putK, s_bc, s_cd, s_bd, s_cb, s_db, s_dc]
/-- one draw -/
def drawF (p q : Int) (s : Deck) (n : Int) : Int × Deck :=
  let dr := s.draws + 1
  let tail := fun (fig : Int) => (((((fig * 40692 + q) % 2147483647) * ((fig * 40692 + q) % 2147483647) + 52711 * dr + q) % 2147483587 * 39373) % 2147483563 / 64) % n
  match h : s.cells.getLast? with
  | none => (tail (s.blend + p * dr), ⟨s.cells, s.blend, dr, s.few⟩)
  | some cell => if 10 ^ 18 ≤ cell then (cell % n, ⟨s.cells.dropLast ++ [cell / n], s.blend, dr, by
      have := s.few
      have h0 : s.cells ≠ [] := by
        intro z
        rw [z] at h
        cases h
      have := List.length_pos_iff.mpr h0
      simp only [List.length_append, List.length_dropLast, List.length_cons, List.length_nil]
      omega⟩)
    else (tail (s.blend + p * dr + cell % 2147483629), ⟨s.cells.dropLast, s.blend, dr, by
      have := s.few
      rw [List.length_dropLast]
      omega⟩)
theorem drawF_range (p q : Int) (s : Deck) (n : Int) (h : 0 < n) : 0 ≤ (drawF p q s n).1 ∧ (drawF p q s n).1 < n := by
  unfold drawF
  dsimp only
  split
  · exact ⟨Int.emod_nonneg _ (by omega), Int.emod_lt_of_pos _ h⟩
  · split
    · exact ⟨Int.emod_nonneg _ (by omega), Int.emod_lt_of_pos _ h⟩
    · exact ⟨Int.emod_nonneg _ (by omega), Int.emod_lt_of_pos _ h⟩
/-- _law_draw, by trees -/
def drawT (p q : Int) (d c : Addr) : FF (deckZ d c) := fun ts s => match ts with
  | [.adr e, .int n] => if e = d ∧ 0 < n ∧ n < 1073741824 then some (.int (drawF p q s n).1, (drawF p q s n).2) else none
  | _ => none
theorem dp_ints {K : PySem.W.Frag} {H : Hp} : ∀ ns : List Int, IsL K H (ns.map T.int) (ns.map V.int)
  | [] => IsL.nil
  | _ :: ns => IsL.cons rfl (dp_ints ns)
theorem plain_ints : ∀ ns : List Int, plainL (ns.map T.int) = true
  | [] => rfl
  | _ :: ns => by
    simp only [List.map_cons, plainL, plain_ints ns]
    rfl
theorem dL_ints : ∀ ns : List Int, dL (ns.map T.int) = ns.map PyData.int
  | [] => rfl
  | _ :: ns => by
    simp only [List.map_cons, dL, dL_ints ns]
    rfl
theorem lay_ints : ∀ ns : List Int, PyData.canLayAll0 (ns.map PyData.int) = true
  | [] => rfl
  | _ :: ns => by
    simp only [List.map_cons, PyData.canLayAll0, lay_ints ns]
    rfl
theorem depth_ints : ∀ ns : List Int, PyData.depthAll (ns.map PyData.int) = 0
  | [] => rfl
  | _ :: ns => by
    simp only [List.map_cons, PyData.depthAll, depth_ints ns]
    rfl
theorem ne_nil {K : PySem.W.Frag} {H : Hp} {ns : List Int} {c p : Addr} {Q : VK} (h : H c = some (.lst (ns.map V.int))) (hp : H p = some (.lst [])) (q : Q (.bl (!ns.isEmpty)) H) : rEqT K true (.ref c) (.ref p) H Q := by
  refine ⟨H, .lst (ns.map T.int), .lst [], Same.refl _, ⟨c, _, rfl, h, dp_ints ns⟩, ⟨p, _, rfl, hp, IsL.nil⟩, ?_, rfl, ?_, by decide +kernel, ?_⟩
  · show plainL (ns.map T.int) = true
    exact plain_ints ns
  · show (PyData.canLayAll0 (dL (ns.map T.int)) && decide (PyData.depth (T.d (.lst (ns.map T.int))) ≤ 64)) = true
    rw [dL_ints, lay_ints]
    show decide (PyData.depthAll (dL (ns.map T.int)) + 1 ≤ 64) = true
    rw [dL_ints, depth_ints]
    rfl
  · show Q (.bl (!PyData.eqvAll (dL (ns.map T.int)) [])) H
    cases ns with
    | nil => exact q
    | cons _ _ => exact q
theorem dg_cells {H : Hp} {d c : Addr} {b n : Int} (h : H d = some (.dK (deckK c b n))) : DGet H d (.str "cells") (some (.ref c)) := by
  have := DGet.k (k := Sum.inr "cells") h
  rw [deck_cells] at this
  exact this
theorem dg_blend {H : Hp} {d c : Addr} {b n : Int} (h : H d = some (.dK (deckK c b n))) : DGet H d (.str "blend") (some (.int b)) := by
  have := DGet.k (k := Sum.inr "blend") h
  rw [deck_blend] at this
  exact this
theorem dg_draws {H : Hp} {d c : Addr} {b n : Int} (h : H d = some (.dK (deckK c b n))) : DGet H d (.str "draws") (some (.int n)) := by
  have := DGet.k (k := Sum.inr "draws") h
  rw [deck_draws] at this
  exact this
theorem dp_draws {H : Hp} {d c : Addr} {b n m : Int} (h : H d = some (.dK (deckK c b n))) : DPut H d (.str "draws") (.int m) (upd H d (.dK (deckK c b m))) := by
  have := DPut.k (k := Sum.inr "draws") (v := .int m) h (by rw [sizeLine_eq]; show 3 < 16777216; decide)
  rw [deck_put] at this
  exact this
/-- the drawing ends: only d and c may have changed, and new objects came -/
theorem draw_ends {K : PySem.W.Frag} {d c : Addr} {I H H' : Hp} {s' : Deck} {n v : Int} {Q : VK} (sub : Same I H) (rf : ∀ p, (deckZ d c).F p → I p = none) (stay : ∀ p o, p ≠ d → p ≠ c → H p = some o → H' p = some o) (r : DeckAt d c s' H')
    (q : ∀ I' H' v, Ext (deckZ d c).F I H I' H' → (deckZ d c).R s' I' H' → Is K I' (.int n) v → Q v H') (e : v = n) : Q (.int v) H' := by
  subst e
  have ne : ∀ p o, I p = some o → p ≠ d ∧ p ≠ c := fun p o h => by
    refine ⟨fun z => ?_, fun z => ?_⟩
    · rw [rf p (.inl z)] at h
      cases h
    · rw [rf p (.inr z)] at h
      cases h
  refine q I H' _ ⟨Same.refl _, fun p o h => ?_, fun p o h1 h2 h3 => ⟨h1, ?_⟩, fun _ _ h => h⟩ r rfl
  · obtain ⟨a, b⟩ := ne p o h
    exact stay p o a b (sub p o h)
  · exact stay p o (fun z => h2 (.inl z)) (fun z => h2 (.inr z)) h3
/-- _law_deck: a new deck of the script's numbers -/
def spDeck (K : PySem.W.Frag) : Sp := fun vs H Q _ => ∃ (a : Addr) (ns : List Int), vs = [.ref a] ∧ SqL K H a (ns.map V.int) ∧ ns.length ≤ 63 ∧
  ∀ (H' : Hp) (d c : Addr) (s : Deck), Same H H' → H d = none → H c = none → DeckAt d c s H' → Q (.ref d) H'
end L2.TL
/-! TL9: keyword calls, lists that a slot owns, joined operations, a law's rest for any deck. -/
namespace L2.TL
open PySem PySem.Spec
open PyProof.Rows
/-- in another order -/
def ord {α : Type} (ix : List Nat) (l : List α) : List α := ix.filterMap fun i => l[i]?
theorem ord_rel {K : PySem.W.Frag} {I : Hp} {ts : List T} {vs : List V} (h : IsL K I ts vs) : ∀ ix : List Nat, IsL K I (ord ix ts) (ord ix vs)
  | [] => IsL.nil
  | i :: r => by
    unfold ord
    rw [List.filterMap_cons, List.filterMap_cons]
    by_cases hi : i < ts.length
    · obtain ⟨x, e1, e2⟩ := h.at (List.getElem?_eq_getElem hi)
      rw [List.getElem?_eq_getElem hi, e1]
      exact IsL.cons e2 (ord_rel h r)
    · rw [List.getElem?_eq_none (by omega), List.getElem?_eq_none (by rw [h.len]; omega)]
      exact ord_rel h r
theorem ord_vals {vs : List V} {us : List Value} (h : Vals vs us) : ∀ ix : List Nat, Vals (ord ix vs) (ord ix us)
  | [] => .nil
  | i :: r => by
    unfold ord
    rw [List.filterMap_cons, List.filterMap_cons]
    cases e : vs[i]? with
    | none =>
      rw [h.none_of e]
      exact ord_vals h r
    | some v =>
      obtain ⟨u, e1, e2⟩ := h.get e
      rw [e1]
      exact .cons e2 (ord_vals h r)
/-- how a call by names alone binds -/
def KOrd (fd : FuncData) (ps ks : List Str) (ix : List Nat) : Prop := ∀ ws : List Value, ws.length = ks.length → bindArgs fd ⟨[], ks.zip ws⟩ = pure (ps.zip (ord ix ws)) ∧ (ord ix ws).length = ps.length
theorem kord {K : PySem.W.Frag} {x qual : Str} {st : Stmt} {f : Addr} {fd : FuncData} {ps ks : List Str} {ix : List Nat} (F : Fun K x qual st f fd)
    (h : ∀ (kV doc pm : Value) (an : Option Addr) (cdv ct : Value) (us : List Value), us.length = ks.length → bindArgs (PySem.W.fnOf x qual (defArgs st) (defBody st) (defScope st) .none kV doc pm an cdv ct) ⟨[], ks.zip us⟩ = pure (ps.zip (ord ix us)) ∧ (ord ix us).length = ps.length) : KOrd fd ps ks ix := by
  obtain ⟨oc, od, kV, doc, pm, an, cdv, ct, osl, rfl, lk, hcd⟩ := F.ex
  exact h kV doc pm an cdv ct
section
variable {X : Cx} {Z : Res} {e : Expr} {es : List Expr} {fs : EFs Z} {pos : Pos} {k : Nat} {f : Addr} {fd : FuncData} {ps ks : List Str} {fp : FP} {kws : List Keyword}
def xOrd {Z : Res} (n : Nat) (ix : List Nat) (fs : EFs Z) : EFs Z := fun τ s => match fs τ s with
  | some (as, s1) => if as.length = n then some (ord ix as, s1) else none
  | none => none
theorem ex_callKP {x : Str} {p : Pos} {ix : List Nat} (F : FnOk X.prog X.w X.K X.mg X.base CX0 k f fd ps (spP X.K fp)) (hr : Room k X.A) (hg : Gl X x) (hm : X.mg x = some (.ref f)) (hk : PySem.W.keepIn X.K (.ref f) = true) (hb : KOrd fd ps ks ix) (ha : ELk X Z kws fs)
    {n : Nat} (hn : ks.length = n := by rfl) (hall : (backToKw pos (keywordEach kws X.env)).all (·.1.isSome) = true := by rfl) (hks : (backToKw pos (keywordEach kws X.env)).filterMap (·.1) = ks := by rfl) (hdb : (x == ("__debug__" : Str)) = false := by decide)
    (hpl : ((backTo pos (starEach [] X.env)).any (·.1) || (backToKw pos (keywordEach kws X.env)).any (·.1.isNone)) = false := by rfl) :
    EX X Z (.Call (.Name x p) [] kws pos) (xCallP fp (xOrd n ix fs)) := by
  obtain ⟨t, pk, h1⟩ := ha
  refine ⟨_, (⟨fun pins s σ H Q J hq => wpAny_Call_Name_kw (ld_glob J hg hm (PySem.W.callWith_KW0 (h₀ := X.base) J.ok.mod.kin hk hall (thn (pk.run pos pins s σ H _ J hq) fun us s1 ⟨vs, H1, J1, r, hl, q⟩ => ⟨J1.kIn, ?_⟩) hpl) hdb)⟩ :
    PE X (.Call (.Name x p) [] kws pos) (fun σ H Q => t σ H fun vs H1 => vs.length = ks.length ∧ spP X.K fp (ord ix vs) H1 Q E0)), fun G I H σ τ s a s' Q w h q => ?_⟩
  · rw [hks]
    obtain ⟨b1, b2⟩ := hb us (by rw [← r.length]; exact hl)
    refine wpAny_call (codeAny_mono (F.run X.A X.stack s1 H1 _ (ord ix us) (ord ix vs) Q E0 hr J1.env0 (.of_eq b1) (ord_vals r ix) q) fun res z hz => ?_)
    cases res with
    | error e => exact (show False from hz).elim
    | ok fl => cases fl with
      | ret u => exact J1.after hz
      | _ => exact (show False from hz).elim
  · unfold xCallP at h
    split at h
    · rename_i as s1 ea
      unfold xOrd at ea
      split at ea
      · rename_i bs s2 eb
        split at ea
        · rename_i hl
          cases ea
          split at h
          · rename_i b eb'
            cases h
            exact h1 _ _ _ _ _ _ _ _ _ w eb fun I1 H1 vs m1 w1 i1 => ⟨by rw [i1.len, hl, hn], sp_useP w1 (ord_rel i1 ix) eb' fun I' H' v m => q I' H' v (m1.trans m)⟩
          · cases h
        · cases ea
      · cases ea
    · cases h
/-! ### joined operations -/
def orT (f g : T → T → Option T) : T → T → Option T := fun a b => match f a b with
  | some c => some c
  | none => g a b
def addX : T → T → Option T := orT addI (orT addS (orT addL addT))
theorem ex_add {a b : Expr} {fa fb : EF Z} (ha : EX X Z a fa) (hb : EX X Z b fb) : EX X Z (.BinOp a .Add b pos) (x2 addX fa fb) :=
  ex_bin (OpR.or op_add (OpR.or op_add_str (OpR.or op_cat op_catN))) (Op2.or op2_addI (Op2.or op2_addS (Op2.or op2_addL op2_addT))) ha hb
def mulX : T → T → Option T := orT mulI mulS
theorem ex_mul {a b : Expr} {fa fb : EF Z} (ha : EX X Z a fa) (hb : EX X Z b fb) : EX X Z (.BinOp a .Mult b pos) (x2 mulX fa fb) :=
  ex_bin (OpR.or op_mul op_mulS) (Op2.or op2_mulI op2_mulS) ha hb
theorem ex_sub {a b : Expr} {fa fb : EF Z} (ha : EX X Z a fa) (hb : EX X Z b fb) : EX X Z (.BinOp a .Sub b pos) (x2 subI fa fb) := ex_bin op_sub op2_subI ha hb
theorem ex_mod {a b : Expr} {fa fb : EF Z} (ha : EX X Z a fa) (hb : EX X Z b fb) : EX X Z (.BinOp a .Mod b pos) (x2 modI fa fb) := ex_bin op_mod op2_modI ha hb
theorem ex_fdiv {a b : Expr} {fa fb : EF Z} (ha : EX X Z a fa) (hb : EX X Z b fb) : EX X Z (.BinOp a .FloorDiv b pos) (x2 divI fa fb) := ex_bin op_fdiv op2_divI ha hb
def sLt : Str → Str → Bool := fun i j => decide (i.cps.toList < j.cps.toList)
def ltX : T → T → Option T := orT (cmpI fun i j => decide (i < j)) (cmpS sLt)
def leX : T → T → Option T := orT (cmpI fun i j => decide (i ≤ j)) (cmpS fun i j => !sLt j i)
def gtX : T → T → Option T := orT (cmpI fun i j => decide (j < i)) (cmpS fun i j => sLt j i)
def geX : T → T → Option T := orT (cmpI fun i j => decide (j ≤ i)) (cmpS fun i j => !sLt i j)
theorem or_lt : OpR X (compareOp .Lt) (fun x y H Q => rI0 (fun i j => .bl (decide (i < j))) x y H Q ∨ rS sLt x y H Q) := OpR.or op_lt op_lt_str
theorem o2_lt : Op2 X (fun x y H Q => rI0 (fun i j => .bl (decide (i < j))) x y H Q ∨ rS sLt x y H Q) ltX := Op2.or op2_cmpI op2_cmpS
theorem or_le : OpR X (compareOp .LtE) (fun x y H Q => rI0 (fun i j => .bl (decide (i ≤ j))) x y H Q ∨ rS (fun i j => !sLt j i) x y H Q) := OpR.or op_le op_le_str
theorem o2_le : Op2 X (fun x y H Q => rI0 (fun i j => .bl (decide (i ≤ j))) x y H Q ∨ rS (fun i j => !sLt j i) x y H Q) leX := Op2.or op2_cmpI op2_cmpS
theorem or_gt : OpR X (compareOp .Gt) (fun x y H Q => rI0 (fun i j => .bl (decide (j < i))) x y H Q ∨ rS (fun i j => sLt j i) x y H Q) := OpR.or op_gt op_gt_str
theorem o2_gt : Op2 X (fun x y H Q => rI0 (fun i j => .bl (decide (j < i))) x y H Q ∨ rS (fun i j => sLt j i) x y H Q) gtX := Op2.or op2_cmpI op2_cmpS
theorem or_ge : OpR X (compareOp .GtE) (fun x y H Q => rI0 (fun i j => .bl (decide (j ≤ i))) x y H Q ∨ rS (fun i j => !sLt i j) x y H Q) := OpR.or op_ge op_ge_str
theorem o2_ge : Op2 X (fun x y H Q => rI0 (fun i j => .bl (decide (j ≤ i))) x y H Q ∨ rS (fun i j => !sLt i j) x y H Q) geX := Op2.or op2_cmpI op2_cmpS
theorem or_in : OpR X (compareOp .In) (rInS false) := op_in_sign
theorem or_ni : OpR X (compareOp .NotIn) (rInS true) := op_notIn_sign
/-! ### == of single values, else of data -/
def scV : T → Option V
  | .non => some .non
  | .bl b => some (.bl b)
  | .int i => some (.int i)
  | .str x => some (.str x)
  | _ => none
def eqS (neg : Bool) : T → T → Option T := fun a b => match scV a, scV b with
  | some x, some y => if scal x y = true then some (.bl (if neg then !decide (x = y) else decide (x = y))) else none
  | _, _ => none
theorem scV_is {K : PySem.W.Frag} {I : Hp} {t : T} {x v : V} (h : scV t = some x) (i : Is K I t v) : v = x := by
  cases t <;> first | (cases h; exact i) | (cases h; done)
def rEqS (neg : Bool) : R2 := fun x y H Q => scal x y = true ∧ Q (.bl (if neg then !decide (x = y) else decide (x = y))) H
theorem op2_eqS {neg : Bool} : Op2 X (rEqS neg) (eqS neg) := by
  intro Z G I H σ τ s a b c x y Q w i1 i2 e q
  unfold eqS at e
  split at e
  · rename_i u v hu hv
    split at e
    · rename_i hs
      cases e
      have e1 := scV_is hu i1
      have e2 := scV_is hv i2
      subst e1 e2
      exact ⟨hs, q.here w rfl⟩
    · cases e
  · cases e
def eqX (neg : Bool) : T → T → Option T := orT (eqS neg) (eqT neg)
theorem or_eq (hu : X.A.units + 64 < cLine) : OpR X (compareOp .Eq) (fun x y H Q => rEqS false x y H Q ∨ rEqT X.K false x y H Q) := OpR.or op_eq (op_eqT hu)
theorem or_ne (hu : X.A.units + 64 < cLine) : OpR X (compareOp .NotEq) (fun x y H Q => rEqS true x y H Q ∨ rEqT X.K true x y H Q) := OpR.or op_ne (op_neT hu)
theorem o2_eq {neg : Bool} : Op2 X (fun x y H Q => rEqS neg x y H Q ∨ rEqT X.K neg x y H Q) (eqX neg) := Op2.or op2_eqS op2_eqT
/-! ### a law's rest, for any deck -/
def tS (K : PySem.W.Frag) (Z : Res) (g : SF Z) : TS := fun D σ H => ∃ G I τ s o, Rep K Z G I H σ τ s ∧ g τ s = some o ∧ (match o with
  | .nx τ s => ∀ I' H' σ', Same I I' → Rep K Z G I' H' σ' τ s → D.nx σ' H'
  | .bk τ s => ∀ I' H' σ', Same I I' → Rep K Z G I' H' σ' τ s → D.bk σ' H'
  | .ct τ s => ∀ I' H' σ', Same I I' → Rep K Z G I' H' σ' τ s → D.ct σ' H'
  | .rt a s => ∀ I' H' v, Same I I' → Rep0 Z G I' H' s → Is K I' a v → D.rt v H'
  | .xc _ _ _ _ _ => False)
theorem SS.pss {sts : List Stmt} {g : SF Z} (h : SS X Z sts g) : PSs X sts (tS X.K Z g) := by
  obtain ⟨t, p, h1⟩ := h
  refine ⟨fun pins s σ H D J ⟨G, I, τ, z, o, w, e, q⟩ => p.run pins s σ H D J (h1 _ _ _ _ _ _ o _ w e ?_)⟩
  cases o with
  | nx τ s => exact q
  | bk τ s => exact q
  | ct τ s => exact q
  | rt a s => exact q
  | xc C f a τ s => exact q.elim
theorem pss_ex {ι : Sort _} {sts : List Stmt} {t : ι → TS} (h : ∀ i, PSs X sts (t i)) : PSs X sts (fun D σ H => ∃ i, t i D σ H) := ⟨fun pins s σ H D J ⟨i, q⟩ => (h i).run pins s σ H D J q⟩
end
end L2.TL
/-! TLe: further expressions; defs without a resource. -/
namespace L2.TL
open PySem PySem.Spec
open PyProof.Rows
section
variable {X : Cx} {Z : Res} {a b c e : Expr} {es : List Expr} {fa fb fc f : EF Z} {fs : EFs Z} {pos : Pos}
/-! ### one value -/
def x1 {Z : Res} (op : T → Option T) (f : EF Z) : EF Z := fun τ s => match f τ s with
  | some (a, s') => match op a with
    | some c => some (c, s')
    | none => none
  | none => none
def negI : T → Option T
  | .int i => some (.int (-i))
  | _ => none
theorem ex_neg (h : EX X Z e f) : EX X Z (.UnaryOp .USub e pos) (x1 negI f) := by
  obtain ⟨t, p, h1⟩ := h
  refine ⟨_, pe_un un_neg p, fun G I H σ τ s a s' Q w h q => ?_⟩
  unfold x1 at h
  split at h
  · rename_i b s1 eb
    split at h
    · rename_i d ed
      cases h
      refine h1 _ _ _ _ _ _ _ _ _ w eb fun I1 H1 v m1 w1 i1 => ?_
      unfold negI at ed
      split at ed
      · cases ed
        have i1 : v = _ := i1
        subst i1
        exact ⟨_, rfl, q I1 H1 _ m1 w1 rfl⟩
      · cases ed
    · cases h
  · cases h
def isNT : T → Option T
  | .non => some (.bl true)
  | _ => some (.bl false)
def notNT : T → Option T
  | .non => some (.bl false)
  | _ => some (.bl true)
theorem is_non {K : PySem.W.Frag} {I : Hp} {t : T} {v : V} (i : Is K I t v) : decide (v = .non) = (match t with
  | .non => true
  | _ => false) := by
  cases t with
  | non =>
    have i : v = _ := i
    subst i
    rfl
  | bl _ => have i : v = _ := i; subst i; rfl
  | int _ => have i : v = _ := i; subst i; rfl
  | str _ => have i : v = _ := i; subst i; rfl
  | adr _ => have i : v = _ := i; subst i; rfl
  | exc _ _ _ _ _ =>
    obtain ⟨rfl, _⟩ := i
    rfl
  | ltp _ =>
    obtain ⟨_, _, rfl, _⟩ := i
    rfl
  | exv _ _ =>
    obtain ⟨_, _, rfl, _⟩ := i
    rfl
  | tup _ =>
    obtain ⟨_, _, rfl, _⟩ := i
    rfl
  | lst _ =>
    obtain ⟨_, _, rfl, _⟩ := i
    rfl
  | dct _ =>
    obtain ⟨_, _, rfl, _⟩ := i
    rfl
  | ins _ _ =>
    obtain ⟨_, _, _, rfl, _⟩ := i
    rfl
theorem x1_of {op : T → Option T} {τ : List SV} {s s' : Z.S} {d : T} (h : x1 op f τ s = some (d, s')) : ∃ a, f τ s = some (a, s') ∧ op a = some d := by
  unfold x1 at h
  split at h
  · rename_i b s1 eb
    split at h
    · rename_i d' ed
      cases h
      exact ⟨b, eb, ed⟩
    · cases h
  · cases h
theorem ex_isN {j : Nat} {pos' : Pos} (h : EX X Z e f) : EX X Z (.Compare e [.Is] [.Constant .none j pos'] pos) (x1 isNT f) := by
  obtain ⟨t, p, h1⟩ := h
  refine ⟨_, pe_cmp (pc_isN p) rfl, fun G I H σ τ s a s' Q w h q => ?_⟩
  obtain ⟨b, eb, ed⟩ := x1_of h
  refine h1 _ _ _ _ _ _ _ _ _ w eb fun I1 H1 v m1 w1 i1 => ?_
  refine q I1 H1 _ m1 w1 ?_
  rw [is_non i1]
  cases b <;> (cases ed; rfl)
theorem eb_isN {j : Nat} {pos' : Pos} (h : EX X Z e f) : EB X Z (.Compare e [.Is] [.Constant .none j pos'] pos) (xb (x1 isNT f)) := by
  obtain ⟨t, p, h1⟩ := h
  refine ⟨_, pt_cmp (pc_isN p) rfl, fun G I H σ τ s k s' Q w h q => ?_⟩
  obtain ⟨b, eb, ed⟩ := x1_of (xb_of h)
  refine h1 _ _ _ _ _ _ _ _ _ w eb fun I1 H1 v m1 w1 i1 => ⟨_, rfl, ?_⟩
  rw [is_non i1]
  cases b <;> (cases ed; exact q I1 H1 m1 w1)
theorem ex_notN {j : Nat} {pos' : Pos} (h : EX X Z e f) : EX X Z (.Compare e [.IsNot] [.Constant .none j pos'] pos) (x1 notNT f) := by
  obtain ⟨t, p, h1⟩ := h
  refine ⟨_, pe_cmp (pc_notN p) rfl, fun G I H σ τ s a s' Q w h q => ?_⟩
  obtain ⟨b, eb, ed⟩ := x1_of h
  refine h1 _ _ _ _ _ _ _ _ _ w eb fun I1 H1 v m1 w1 i1 => ?_
  refine q I1 H1 _ m1 w1 ?_
  rw [is_non i1]
  cases b <;> (cases ed; rfl)
theorem eb_notN {j : Nat} {pos' : Pos} (h : EX X Z e f) : EB X Z (.Compare e [.IsNot] [.Constant .none j pos'] pos) (xb (x1 notNT f)) := by
  obtain ⟨t, p, h1⟩ := h
  refine ⟨_, pt_cmp (pc_notN p) rfl, fun G I H σ τ s k s' Q w h q => ?_⟩
  obtain ⟨b, eb, ed⟩ := x1_of (xb_of h)
  refine h1 _ _ _ _ _ _ _ _ _ w eb fun I1 H1 v m1 w1 i1 => ⟨_, rfl, ?_⟩
  rw [is_non i1]
  cases b <;> (cases ed; exact q I1 H1 m1 w1)
/-- xs[::-1] of a list -/
def revT : T → Option T
  | .lst ts => some (.lst ts.reverse)
  | _ => none
theorem ex_rev {j : Nat} {p1 p2 p3 : Pos} (h : EX X Z e f) : EX X Z (.Subscript e (.Slice none none (some (.UnaryOp .USub (.Constant (.int 1) j p1) p2)) p3) pos) (x1 revT f) := by
  obtain ⟨t, p, h1⟩ := h
  refine ⟨_, pe_revL p, fun G I H σ τ s a s' Q w h q => ?_⟩
  obtain ⟨b, eb, ed⟩ := x1_of h
  refine h1 _ _ _ _ _ _ _ _ _ w eb fun I1 H1 v m1 w1 i1 => ?_
  unfold revT at ed
  split at ed
  · cases ed
    obtain ⟨l, xs, rfl, g1, g2⟩ := i1
    exact ⟨l, xs, rfl, .of (w1.sub _ _ g1), fun p hp => Hand.new w1 (fun I' H' v m => q I' H' v (m1.trans m)) hp fun I' m e => ⟨p, _, rfl, e, g2.rev.mono m⟩⟩
  · cases ed
def powI : T → T → Option T
  | .int i, .int j => if 0 ≤ j ∧ j ≤ 1000000 ∧ i.natAbs < 2 ^ 64 then some (.int (i ^ j.toNat)) else none
  | _, _ => none
theorem ex_pow (ha : EX X Z a fa) (hb : EX X Z b fb) : EX X Z (.BinOp a .Pow b pos) (x2 powI fa fb) := ex_bin op_pow (fun Z G I H σ τ s a b c x y Q w i1 i2 e q => by
  unfold powI at e
  split at e
  · split at e
    · rename_i hz
      cases e
      have i1 : x = _ := i1
      have i2 : y = _ := i2
      exact ⟨_, _, i1, i2, hz, q.here w rfl⟩
    · cases e
  · cases e) ha hb
def intT : List T → Option T
  | [.int i] => some (.int i)
  | [.bl k] => some (.int (if k then 1 else 0))
  | _ => none
def rInt : List V → Hp → VK → Prop := fun xs H Q => (∃ i, xs = [.int i] ∧ Q (.int i) H) ∨ ∃ k, xs = [.bl k] ∧ Q (.int (if k then 1 else 0)) H
theorem op1_int : Op1 X rInt intT := by
  intro Z G I H σ τ s as c xs Q w il e q
  unfold intT at e
  split at e
  · cases e
    obtain ⟨x, rfl, ix⟩ := il.one
    have ix : x = _ := ix
    subst ix
    exact .inl ⟨_, rfl, q.here w rfl⟩
  · cases e
    obtain ⟨x, rfl, ix⟩ := il.one
    have ix : x = _ := ix
    subst ix
    exact .inr ⟨_, rfl, q.here w rfl⟩
  · cases e
def tupleT : List T → Option T
  | [.lst ts] => some (.tup ts)
  | [.tup ts] => some (.tup ts)
  | _ => none
theorem op1_tuple : Op1 X (rTupleN X.K) tupleT := by
  intro Z G I H σ τ s as c xs Q w il e q
  unfold tupleT at e
  split at e
  · cases e
    obtain ⟨x, rfl, ix⟩ := il.one
    obtain ⟨p, ys, rfl, h1, h2⟩ := ix
    exact ⟨p, ys, rfl, .inl ⟨.of (w.sub _ _ h1), fun l ob hl c1 c2 => q.new w hl fun I' m e => ⟨l, _, rfl, sqp_new e c1 c2, h2.mono m⟩⟩⟩
  · cases e
    obtain ⟨x, rfl, ix⟩ := il.one
    obtain ⟨p, ys, rfl, h1, h2⟩ := ix
    exact ⟨p, ys, rfl, .inr ⟨sqt_mono w.sub h1.1, q.here w ⟨p, ys, rfl, h1, h2⟩⟩⟩
  · cases e
/-! ### dicts that are written -/
def ED (X : Cx) (Z : Res) (pos : Pos) (keys : List (Option Expr)) (values : List Expr) (ks : List Key) (f : EFs Z) : Prop :=
  ∃ trs, PPs X pos keys values trs ∧ ∀ G I H σ τ s as s' Q, Rep X.K Z G I H σ τ s → f τ s = some (as, s') → (∀ I' H' vs, Same I I' → Rep X.K Z G I' H' σ τ s' → IsL X.K I' as vs → Q ((ks.map kV).zip vs) H') → tPairs trs σ H Q
theorem ed_nil : ED X Z pos [] [] [] xNil := ⟨_, pps_nil, fun G I H σ τ s as s' Q w h q => by
  cases h
  exact q I H [] (Same.refl _) w IsL.nil⟩
theorem ed_cons {x : Str} {j : Nat} {p : Pos} {keys : List (Option Expr)} {ks : List Key} (he : EX X Z e f) (hr : ED X Z pos keys es ks fs) : ED X Z pos (some (.Constant (.str x) j p) :: keys) (e :: es) (Sum.inr x :: ks) (xCons f fs) := by
  obtain ⟨te, pe, h1⟩ := he
  obtain ⟨tr, pr, h2⟩ := hr
  refine ⟨_, pps_cons pe_str pe pr, fun G I H σ τ s as s' Q w h q => ?_⟩
  unfold xCons at h
  split at h
  · rename_i a s1 ea
    split at h
    · rename_i as' s2 eb
      cases h
      refine h1 _ _ _ _ _ _ _ _ _ w ea fun I1 H1 v m1 w1 i1 => ?_
      exact h2 _ _ _ _ _ _ _ _ _ w1 eb fun I2 H2 vs m2 w2 i2 => q I2 H2 (v :: vs) (m1.trans m2) w2 (IsL.cons (i1.mono m2) i2)
    · cases h
  · cases h
def xDict {Z : Res} (ks : List Key) (fs : EFs Z) : EF Z := fun τ s => match fs τ s with
  | some (as, s') => if as.length = ks.length ∧ ks.Nodup ∧ ks.length ≤ 15 then some (.dct (ks.zip as), s') else none
  | none => none
theorem putK_new {κ : Type} [DecidableEq κ] {kvs : List (κ × V)} {k : κ} {v : V} (h : k ∉ kvs.map (·.1)) : putK kvs k v = kvs ++ [(k, v)] := by
  unfold putK
  rw [if_neg]
  intro z
  rw [List.any_eq_true] at z
  obtain ⟨p, hp, e⟩ := z
  exact h (List.mem_map.mpr ⟨p, hp, of_decide_eq_true e⟩)
theorem merge_nodup : ∀ (more kvs : List (Key × V)), ((kvs ++ more).map (·.1)).Nodup → mergeK kvs more = kvs ++ more
  | [], kvs, _ => by
    rw [List.append_nil]
    rfl
  | p :: r, kvs, h => by
    show mergeK (putK kvs p.1 p.2) r = _
    have hp : p.1 ∉ kvs.map (·.1) := by
      rw [List.map_append, List.nodup_append] at h
      intro z
      exact h.2.2 _ z _ (by simp) rfl
    rw [putK_new hp, merge_nodup r (kvs ++ [(p.1, p.2)]) (by rw [List.append_assoc]; exact h), List.append_assoc]
    rfl
theorem zip_isD {K : PySem.W.Frag} {I : Hp} : ∀ {ks : List Key} {as : List T} {vs : List V}, IsL K I as vs → IsD K I (ks.zip as) (ks.zip vs)
  | [], _, _, _ => by
    show _ = _
    simp
  | _ :: _, [], _, h => by
    have h : _ = [] := h
    subst h
    show _ = _
    simp
  | k :: ks, a :: as, _, h => by
    obtain ⟨x, r, rfl, h1, h2⟩ := h
    exact ⟨x, _, rfl, h1, zip_isD h2⟩
theorem en_dict {keys : List (Option Expr)} {ks : List Key} (h : ED X Z pos keys es ks fs) (hall : keys.all (·.isSome) = true := by rfl) (hl : keys.length = es.length := by rfl) (h0 : keys ≠ [] := by intro z; cases z) (h15 : keys.length ≤ 15 := by decide) :
    EN X Z (.Dict keys es pos) (xDict ks fs) := by
  obtain ⟨trs, p, h1⟩ := h
  refine ⟨_, pe_disp p hall hl h0 h15, fun G I H σ τ s a s' Q w h q => ?_⟩
  unfold xDict at h
  split at h
  · rename_i as s1 ea
    split at h
    · rename_i hc
      cases h
      intro D hD
      obtain ⟨w1, u⟩ := w.made (o := .dK []) (a := .dct []) hD (show IsD X.K I [] [] from rfl)
      refine h1 _ _ _ _ _ _ _ _ _ (w1.guard u) ea fun I2 H2 vs m2 w2 i2 => ?_
      obtain ⟨nI, atD⟩ := w2.fr D (.dK []) upd_same
      have nF : ¬ Z.F D := u.nf
      have hlen : vs.length = ks.length := by rw [i2.len]; exact hc.1
      have ez : (ks.map kV).zip vs = (ks.zip vs).map fun kv => (kV kv.1, kv.2) := by
        rw [List.zip_map_left]
        rfl
      refine ⟨atD, ks.zip vs, ez, by rw [List.length_zip, hlen, Nat.min_self]; exact hc.2.2, ?_⟩
      have em : mergeK [] (ks.zip vs) = ks.zip vs := by
        rw [merge_nodup _ [] (by
          rw [List.nil_append, List.map_fst_zip (by omega)]
          exact hc.2.1)]
        rfl
      rw [em]
      have w3 := w2.reguard (o' := .dK (ks.zip vs)) nF
      have w4 := w3.frame (G' := G) fun p o e => by
        rw [upd_ne (ne_of_none e u.ng)]
        exact e
      refine q I2 _ D (.dK (ks.zip vs)) m2 w4 ⟨nI, u.ng, nF, upd_same, zip_isD i2, fun i t e => ?_⟩
      exact w.notOwned hD i t e
    · cases h
  · cases h
def xDnil {Z : Res} : EF Z := fun _ s => some (.dct [], s)
theorem en_dnil : EN X Z (.Dict [] [] pos) xDnil := ⟨_, pe_dnewK, fun G I H σ τ s a s' Q w h q => by
  cases h
  intro D hD
  exact HandF.new w q hD (show IsD X.K I [] [] from rfl)⟩
end
/-! ### three names at once -/
section
variable {X : Cx} {Z : Res} {fs : EFs Z} {pos : Pos}
theorem IsL.three {K : PySem.W.Frag} {I : Hp} {t u r : T} {xs : List V} (h : IsL K I [t, u, r] xs) : ∃ x y z, xs = [x, y, z] ∧ Is K I t x ∧ Is K I u y ∧ Is K I r z := by
  obtain ⟨x, q, rfl, h1, h2⟩ := h
  obtain ⟨y, z, rfl, h3, h4⟩ := h2.two
  exact ⟨x, y, z, rfl, h1, h3, h4⟩
theorem sx_par3 {i j l : Nat} {x y z : Str} {a b c : Expr} {px py pz pt : Pos} {kt k2 : Nat} {pt2 : Pos} (hc : X.calm = true) (hN : X.N.Nodup) (hi : X.N[i]? = some x := by rfl) (hj : X.N[j]? = some y := by rfl) (hl : X.N[l]? = some z := by rfl) (ha : EL X Z [a, b, c] fs)
    (hij : i ≠ j := by decide) (hil : i ≠ l := by decide) (hjl : j ≠ l := by decide)
    (hx : X.env.scope.names.lookup x = some .local := by rfl) (hy : X.env.scope.names.lookup y = some .local := by rfl) (hz : X.env.scope.names.lookup z = some .local := by rfl)
    (hw : swappedStores [.Tuple [.Name x px, .Name y py, .Name z pz] kt pt] (.Tuple [a, b, c] k2 pt2) X.env = pure (some [x, y, z]) := by rfl)
    (hs : swapsWithSole [.Tuple [.Name x px, .Name y py, .Name z pz] kt pt] (.Tuple [a, b, c] k2 pt2) pos.line X.env = pure false := by rfl) :
    SX X Z (.Assign [.Tuple [.Name x px, .Name y py, .Name z pz] kt pt] (.Tuple [a, b, c] k2 pt2) pos) (sPar3 i j l fs) := by
  obtain ⟨t, p, q1⟩ := ha
  refine ⟨_, ps_par3 hc hN hi hj hl hij hil hjl hx hy hz p hw hs, fun G I H σ τ s o D w h q => ?_⟩
  unfold sPar3 at h
  split at h
  · rename_i u v r s' ea
    split at h
    · rename_i hl
      cases h
      refine q1 _ _ _ _ _ _ _ _ _ w ea fun I' H' vs m w' il => ?_
      obtain ⟨y1, y2, y3, rfl, i1, i2, i3⟩ := il.three
      exact ⟨y1, y2, y3, rfl, q I' H' _ m (((w'.setIm hl.1 i1).setIm (by rw [List.length_set]; exact hl.2.1) i2).setIm (by rw [List.length_set, List.length_set]; exact hl.2.2) i3)⟩
    · cases h
  · cases h
end
/-! ### defs without a resource -/
def fpOf (h : FF Z0) : FP := fun ts => match h ts () with
  | some (a, _) => some a
  | none => none
section
variable {P : Program} {w : World} {K : PySem.W.Frag} {mg : Str → Option Value} {base : Heap} {k : Nat} {f : Addr} {fd : FuncData} {N ps : List Str} {x qual : Str} {st : Stmt}
theorem spP_of {h : FF Z0} {vs : List V} {H : Hp} {Q : VK} {E : XK} (q : spP K (fpOf h) vs H Q E) : spS K Z0 h vs H Q E :=
  spS_imp (fun ts s r hr => by
    unfold pureF fpOf at hr
    obtain ⟨a, s'⟩ := r
    cases e : h ts () with
    | none =>
      rw [e] at hr
      cases hr
    | some p =>
      rw [e] at hr
      cases hr
      exact e) q
theorem fn_defP {g : SF Z0} (F : Fun K x qual st f fd) (S : FnScope N ps (defScope st))
    (hb : ∀ (cdv : Value) (A : Around) (out : List Env) (z : Shared) (H : Hp) (E : XK), Room k (A.deeper (envOfC qual (defScope st) z.heap.objs.size f cdv)) → SS (cxOf CX0 P w K mg base N qual (defScope st) f cdv A out z H E).nox Z0 (defBody st) g) :
    FnOk P w K mg base CX0 (k + 1) f fd ps (spP K (fpOf (bodyF ps.length N.length g))) := (fn_def F S hb).imp fun _ _ _ _ q => spP_of q
theorem FnG.impG {sp sp' : Sp} (F : FnG P w K mg base k f fd ps sp) (h : ∀ xs H' R E', sp' xs H' R E' → sp xs H' R E') : FnG P w K mg base k f fd ps sp' :=
  ⟨fun xs H' R E' q => F.lenG xs H' R E' (h _ _ _ _ q), fun B out z H' ar ys xs R E' g hr e0 bd r q => F.runG B out z H' ar ys xs R E' g hr e0 bd r (h _ _ _ _ q)⟩
theorem fn_defGP {g : SF Z0} (F : Fun K x qual st f fd) (S : FnScope N ps (defScope st))
    (hb : ∀ (cdv : Value) (A : Around) (out : List Env) (z : Shared) (H : Hp) (E : XK), A.guards = some [] → Room k (A.deeper (envOfC qual (defScope st) z.heap.objs.size f cdv)) → SS (cxOf CX0 P w K mg base N qual (defScope st) f cdv A out z H E).nox Z0 (defBody st) g) :
    FnG P w K mg base (k + 1) f fd ps (spP K (fpOf (bodyF ps.length N.length g))) := (fn_defG F S hb).impG fun _ _ _ _ q => spP_of q
end
/-- a def of the text, with its place and how it binds -/
structure DefD (K : PySem.W.Frag) (mg : Str → Option Value) (x : Str) (st : Stmt) (ps : List Str) where
  f : Addr
  fd : FuncData
  F : Fun K x x st f fd
  m : mg x = some (.ref f)
  b : Binds K fd ps []
end L2.TL
/-! TLm: mathematics of the layer: draws, picks, comprehensions. -/
namespace L2.TL
open PySem PySem.Spec
open PyProof.Rows
/-! ### evaluation, a combinator at a time -/
section
variable {Z : Res} {τ τ' : List SV} {s s1 s2 s3 : Z.S} {a b c : T} {as : List T} {f fa fb fc : EF Z} {fs : EFs Z} {ft fu : EFb Z} {op op' : T → T → Option T} {g g' : SF Z} {o : Out Z.S} {i : Nat}
theorem ev_x2 (h1 : fa τ s = some (a, s1)) (h2 : fb τ s1 = some (b, s2)) (h3 : op a b = some c) : x2 op fa fb τ s = some (c, s2) := by
  unfold x2
  simp only [h1, h2, h3]
theorem ev_x1 {op : T → Option T} (h1 : f τ s = some (a, s1)) (h3 : op a = some c) : x1 op f τ s = some (c, s1) := by
  unfold x1
  simp only [h1, h3]
theorem ev_name {t : T} (h : τ[i]? = some (.im t)) : xName (Z := Z) i τ s = some (t, s) := by
  unfold xName
  simp only [h]
theorem ev_nil : xNil (Z := Z) τ s = some ([], s) := rfl
theorem ev_cons (h1 : f τ s = some (a, s1)) (h2 : fs τ s1 = some (as, s2)) : xCons f fs τ s = some (a :: as, s2) := by
  unfold xCons
  simp only [h1, h2]
theorem ev_lst (h : fs τ s = some (as, s1)) (hz : as.length ≤ sizeLine) : xLst fs τ s = some (.lst as, s1) := by
  unfold xLst
  simp only [h]
  exact if_pos hz
theorem ev_tup (h : fs τ s = some (as, s1)) (hz : as.length ≤ sizeLine) : xTup fs τ s = some (.tup as, s1) := by
  unfold xTup
  simp only [h]
  exact if_pos hz
theorem ev_call {op : List T → Option T} (h : fs τ s = some (as, s1)) (h2 : op as = some c) : xCall op fs τ s = some (c, s1) := by
  unfold xCall
  simp only [h, h2]
theorem ev_callF {ff : FF Z} (h : fs τ s = some (as, s1)) (h2 : ff as s1 = some (c, s2)) : xCallF ff fs τ s = some (c, s2) := by
  unfold xCallF
  simp only [h, h2]
theorem ev_callP {fp : FP} (h : fs τ s = some (as, s1)) (h2 : fp as = some c) : xCallP fp fs τ s = some (c, s1) := by
  unfold xCallP
  simp only [h, h2]
theorem ev_meth {ty : String} {op : T → List T → Option T} (h : f τ s = some (a, s1)) (ht : tyName a = some ty) (h2 : fs τ s1 = some (as, s2)) (h3 : op a as = some c) : xMeth ty op f fs τ s = some (c, s2) := by
  unfold xMeth
  simp only [h, ht, h2, h3, if_true]
theorem ev_xb {k : Bool} (h : f τ s = some (.bl k, s1)) : xb f τ s = some (k, s1) := by
  unfold xb
  simp only [h]
theorem ev_tru {k : Bool} (h : f τ s = some (a, s1)) (h2 : tru a = some k) : xTru f τ s = some (k, s1) := by
  unfold xTru
  simp only [h, h2]
theorem ev_bnot {k : Bool} (h : ft τ s = some (k, s1)) : xbNot ft τ s = some (!k, s1) := by
  unfold xbNot
  simp only [h]
theorem ev_or_t (h : ft τ s = some (true, s1)) : xbOr ft fu τ s = some (true, s1) := by
  unfold xbOr
  simp only [h]
theorem ev_or_f {k : Bool} (h : ft τ s = some (false, s1)) (h2 : fu τ s1 = some (k, s2)) : xbOr ft fu τ s = some (k, s2) := by
  unfold xbOr
  simp only [h, h2]
theorem ev_band_f (h : ft τ s = some (false, s1)) : xbAnd ft fu τ s = some (false, s1) := by
  unfold xbAnd
  simp only [h]
theorem ev_band_t {k : Bool} (h : ft τ s = some (true, s1)) (h2 : fu τ s1 = some (k, s2)) : xbAnd ft fu τ s = some (k, s2) := by
  unfold xbAnd
  simp only [h, h2]
theorem ev_and_t (h : fa τ s = some (a, s1)) (ht : tru a = some true) (h2 : fb τ s1 = some (b, s2)) : xAnd fa fb τ s = some (b, s2) := by
  unfold xAnd
  simp only [h, ht, h2]
theorem ev_and_f (h : fa τ s = some (a, s1)) (ht : tru a = some false) : xAnd fa fb τ s = some (a, s1) := by
  unfold xAnd
  simp only [h, ht]
theorem ev_seq (h : g τ s = some (.nx τ' s1)) (h2 : g' τ' s1 = some o) : sSeq g g' τ s = some o := by
  unfold sSeq
  simp only [h, h2]
theorem ev_seq_rt (h : g τ s = some (.rt a s1)) : sSeq g g' τ s = some (.rt a s1) := by
  unfold sSeq
  simp only [h]
theorem ev_set (h : f τ s = some (a, s1)) (hi : i < τ.length) : sSet i f τ s = some (.nx (τ.set i (.im a)) s1) := by
  unfold sSet
  simp only [h]
  exact if_pos hi
theorem ev_ret (h : f τ s = some (a, s1)) : sRet f τ s = some (.rt a s1) := by
  unfold sRet
  simp only [h]
theorem ev_if_t (h : ft τ s = some (true, s1)) (h2 : g τ s1 = some o) : sIf ft g g' τ s = some o := by
  unfold sIf
  simp only [h, h2]
theorem ev_if_f (h : ft τ s = some (false, s1)) (h2 : g' τ s1 = some o) : sIf ft g g' τ s = some o := by
  unfold sIf
  simp only [h, h2]
theorem ev_par {j : Nat} (h : fs τ s = some ([a, b], s1)) (hi : i < τ.length) (hj : j < τ.length) : sPar i j fs τ s = some (.nx ((τ.set i (.im a)).set j (.im b)) s1) := by
  unfold sPar
  simp only [h]
  exact if_pos ⟨hi, hj⟩
theorem ev_asg {gt : GF} (h : f τ s = some (a, s1)) (h2 : gt a τ = some τ') : sAsg f gt τ s = some (.nx τ' s1) := by
  unfold sAsg
  simp only [h, h2]
theorem ev_rng {n : Int} (h : f τ s = some (.int n, s1)) (h0 : -(2 ^ 62) ≤ n ∧ n < 2 ^ 62) : iRng f τ s = some (intsFrom 0 n.toNat, s1) := by
  unfold iRng
  simp only [h]
  exact if_pos h0
theorem ev_str {x : Str} (h : f τ s = some (.str x, s1)) : iStr f τ s = some (signs x, s1) := by
  unfold iStr
  simp only [h]
theorem ev_seqL {ts : List T} (h : f τ s = some (.lst ts, s1)) : iSeq f τ s = some (ts, s1) := by
  unfold iSeq
  simp only [h]
theorem ev_lc {vs : List Nat} {fi : EFs Z} {gt : GF} {items bs : List T} (h : fi τ s = some (items, s1)) (hz : items.length ≤ sizeLine) (hv : (vs.all fun v => match τ[v]? with
    | some x => !isOw x
    | none => true) = true) (h2 : lcGo gt ft fa (wipeT τ vs) items s1 = some (bs, s2)) : xLc vs fi gt ft fa τ s = some (.lst bs, s2) := by
  unfold xLc
  simp only [h]
  rw [if_pos ⟨hz, hv⟩, h2]
theorem ev_cut {lo hi : List SV → Z.S → Option (Option Int × Z.S)} {l u : Option Int} (h : f τ s = some (a, s1)) (hl : lo τ s1 = some (l, s2)) (hu : hi τ s2 = some (u, s3)) (hc : cutT a l u = some c) : xCut f lo hi τ s = some (c, s3) := by
  unfold xCut
  simp only [h, hl, hu, hc]
theorem ev_oSome {k : Int} (h : f τ s = some (.int k, s1)) : oSome f τ s = some (some k, s1) := by
  unfold oSome
  simp only [h]
theorem ev_is {n : String} {k : Bool} (h : f τ s = some (a, s1)) (h2 : isTy n a = some k) : xIs n f τ s = some (.bl k, s1) := by
  unfold xIs
  simp only [h, h2]
end
theorem ev_fp {g : SF Z0} {n m : Nat} {ts : List T} {a : T} (hn : ts.length = n) (h : g (ts.map SV.im ++ List.replicate (m - n) SV.un) () = some (.rt a ())) : fpOf (bodyF n m g) ts = some a := by
  unfold fpOf bodyF
  rw [if_pos hn, h]
theorem ev_ff {Z : Res} {g : SF Z} {n m : Nat} {ts : List T} {a : T} {s s' : Z.S} (hn : ts.length = n) (h : g (ts.map SV.im ++ List.replicate (m - n) SV.un) s = some (.rt a s')) : bodyF n m g ts s = some (a, s') := by
  unfold bodyF
  rw [if_pos hn, h]
theorem drawT_some (p q : Int) (d c : Addr) (s : Deck) (n : Int) (h0 : 0 < n) (h1 : n < 1073741824) : ∃ (k : Nat) (s' : Deck), drawT p q d c [.adr d, .int n] s = some (.int k, s') ∧ (k : Int) < n := by
  obtain ⟨a, b⟩ := drawF_range p q s n h0
  have e : ((drawF p q s n).1.toNat : Int) = (drawF p q s n).1 := Int.toNat_of_nonneg a
  refine ⟨(drawF p q s n).1.toNat, (drawF p q s n).2, ?_, by rw [e]; exact b⟩
  rw [e]
  unfold drawT
  exact if_pos ⟨rfl, h0, h1⟩
theorem ixN_nat {n k : Nat} (h : k < n) : ixN n (k : Int) = some k := by
  unfold ixN
  rw [if_pos (by omega), if_pos (by omega), Int.toNat_natCast]
theorem atI_nat' {α : Type} {l : List α} {k : Nat} (h : k < l.length) : atI l (k : Int) = some l[k] := by
  unfold atI
  rw [ixN_nat h]
  simp [h]
/-- a comprehension each of whose turns gives something that P holds of -/
theorem lcGo_all {Z : Res} {gt : GF} {fe : EF Z} {τ : List SV} {P : T → Prop} (hg : ∀ a, ∃ τ', gt a τ = some τ' ∧ ∀ s, ∃ b s', fe τ' s = some (b, s') ∧ P b) :
    ∀ (items : List T) (s : Z.S), ∃ bs s', lcGo gt xYes fe τ items s = some (bs, s') ∧ bs.length = items.length ∧ ∀ b ∈ bs, P b
  | [], s => ⟨[], s, rfl, rfl, fun _ h => by cases h⟩
  | a :: r, s => by
    obtain ⟨τ', e1, h1⟩ := hg a
    obtain ⟨b, s1, e2, hp⟩ := h1 s
    obtain ⟨bs, s2, e3, hl, hP⟩ := lcGo_all hg r s1
    refine ⟨b :: bs, s2, ?_, by simp [hl], fun x hx => ?_⟩
    · unfold lcGo
      rw [e1]
      simp only [xYes]
      rw [e2]
      simp only
      rw [e3]
    · rcases List.mem_cons.mp hx with rfl | hx
      · exact hp
      · exact hP x hx
/-- a comprehension whose test and element leave the state as it is: a filter -/
theorem lcGo_filter {Z : Res} {gt : GF} {ft : EFb Z} {fe : EF Z} {τ : List SV} {p : T → Bool} {s : Z.S} : ∀ (items : List T), (∀ a ∈ items, ∃ τ', gt a τ = some τ' ∧ ft τ' s = some (p a, s) ∧ fe τ' s = some (a, s)) → lcGo gt ft fe τ items s = some (items.filter p, s)
  | [], _ => rfl
  | a :: r, h => by
    obtain ⟨τ', e1, e2, e3⟩ := h a (by simp)
    have ih := lcGo_filter r fun b hb => h b (by simp [hb])
    unfold lcGo
    rw [e1]
    simp only
    rw [e2]
    cases hp : p a with
    | true =>
      simp only
      rw [e3]
      simp only
      rw [ih, List.filter_cons, hp]
      rfl
    | false =>
      simp only
      rw [ih, List.filter_cons, hp]
      rfl
/-- l == [] -/
theorem eq_nil (neg : Bool) (l : List T) (h : ∀ t ∈ l, t.plain = true ∧ t.d.canLay0 = true ∧ t.d.depth ≤ 60) : eqX neg (.lst l) (.lst []) = some (.bl (if neg then !l.isEmpty else l.isEmpty)) := by
  have h1 : plainL l = true := by
    induction l with
    | nil => rfl
    | cons a r ih =>
      simp only [plainL, (h a (by simp)).1, ih fun t ht => h t (by simp [ht])]
      rfl
  have h2 : PyData.canLayAll0 (dL l) = true := by
    clear h1
    induction l with
    | nil => rfl
    | cons a r ih =>
      simp only [dL, PyData.canLayAll0, (h a (by simp)).2.1, ih fun t ht => h t (by simp [ht])]
      rfl
  have h3 : PyData.depthAll (dL l) ≤ 60 := by
    clear h1 h2
    induction l with
    | nil => exact Nat.zero_le _
    | cons a r ih =>
      simp only [dL, PyData.depthAll]
      exact Nat.max_le.mpr ⟨(h a (by simp)).2.2, ih fun t ht => h t (by simp [ht])⟩
  have h4 : SeqAt.shaped (T.d (.lst l)) = true := by
    unfold SeqAt.shaped
    simp only [T.d, PyData.canLay0, PyData.depth, h2, Bool.true_and, decide_eq_true_eq]
    omega
  have h5 : PyData.eqv (T.d (.lst l)) (T.d (.lst [])) = l.isEmpty := by
    cases l with
    | nil => rfl
    | cons a r => rfl
  have h6 : T.plain (.lst l) = true := h1
  unfold eqX orT eqS
  simp only [scV]
  unfold eqT
  rw [if_pos ⟨h6, rfl, h4, by decide +kernel⟩, h5]
theorem eq_str (neg : Bool) (x y : Str) : eqX neg (.str x) (.str y) = some (.bl (if neg then !decide (x = y) else decide (x = y))) := by
  unfold eqX orT eqS
  simp only [scV, scal, if_true]
  by_cases h : x = y
  · subst h
    simp
  · have : ¬ V.str x = V.str y := fun e => h (by injection e)
    simp [h]
theorem ev_ord {Z : Res} {fs : EFs Z} {τ : List SV} {s s1 : Z.S} {as : List T} {n : Nat} {ix : List Nat} (h : fs τ s = some (as, s1)) (hl : as.length = n) : xOrd n ix fs τ s = some (ord ix as, s1) := by
  unfold xOrd
  simp only [h]
  exact if_pos hl
theorem signs_len (x : Str) : (signs x).length = x.length := by
  simp [signs, Str.length]
end L2.TL
/-! TLo: what a slot owns is read and changed. -/
namespace L2.TL
open PySem PySem.Spec
open PyProof.Rows
/-- the slots of a reading: slot i's own object lasts meanwhile, the others' are not to be had -/
def unOw : SV → SV
  | .ow _ => .un
  | x => x
def readT (τ : List SV) (i : Nat) (t : T) : List SV := (τ.map unOw).set i (.im t)
theorem unOw_ow {x : SV} {t : T} : unOw x ≠ .ow t := by
  cases x <;> intro h <;> cases h
theorem unOw_im {x : SV} {t : T} (h : unOw x = .im t) : x = .im t := by
  cases x <;> first | exact h | cases h
theorem readT_no {τ : List SV} {i j : Nat} {t u : T} : (readT τ i t)[j]? ≠ some (.ow u) := by
  unfold readT
  intro h
  by_cases hj : i = j
  · subst hj
    by_cases hl : i < (τ.map unOw).length
    · rw [List.getElem?_set_self hl] at h
      cases h
    · rw [List.getElem?_eq_none (by rw [List.length_set]; omega)] at h
      cases h
  · rw [List.getElem?_set_ne hj, List.getElem?_map] at h
    cases e : τ[j]? with
    | none => rw [e] at h; cases h
    | some x =>
      rw [e] at h
      exact unOw_ow (Option.some.inj h)
/-- the resource's promise does not lean on what lasts -/
def Back (Z : Res) : Prop := ∀ s I I' H, Z.R s I' H → Z.R s I H
theorem Rep.reading {K : PySem.W.Frag} {Z : Res} {G I H : Hp} {σ : St} {τ : List SV} {s : Z.S} {i : Nat} {t : T} (r : Rep K Z G I H σ τ s) (hi : τ[i]? = some (.ow t)) :
    ∃ I1, Same I I1 ∧ Rep K Z (foreign Z I1 H) I1 H σ (readT τ i t) s ∧ ∀ I' H' (s' : Z.S), Back Z → Same I1 I' → Rep0 Z (foreign Z I1 H) I' H' s' → Rep K Z G I H' σ τ s' := by
  obtain ⟨p, o, h1, h2, h3, h4, h5, h6⟩ := r.ow i t hi
  have hl : i < τ.length := (List.getElem?_eq_some_iff.mp hi).1
  have m : Same I (upd I p o) := fun b u e => by rw [upd_ne (ne_of_none e h2)]; exact e
  have sb : Same (upd I p o) H := fun b u e => by
    by_cases hb : b = p
    · subst hb
      rw [upd_same] at e
      cases e
      exact h5
    · rw [upd_ne hb] at e
      exact r.sub b u e
  have n1 : ∀ q, q ≠ p → I q = none → upd I p o q = none := fun q hq e => by rw [upd_ne hq]; exact e
  refine ⟨upd I p o, m, ⟨⟨sb, Z.loc s I H _ H r.res m fun _ _ => rfl, fun q hq => ⟨n1 q (fun z => h4 (by rw [← z]; exact hq)) (r.rf q hq).1, foreign_F hq⟩, fun q u e => ⟨(foreign_of e).1, (foreign_of e).2.2⟩⟩, ?_, fun j u e => ?_, fun j u e => absurd e readT_no, fun j k u v q _ e => absurd e readT_no⟩, fun I' H' s' hb sm w => ?_⟩
  · unfold readT
    rw [List.length_set, List.length_map]
    exact r.len
  · by_cases hj : i = j
    · subst hj
      unfold readT at e
      rw [List.getElem?_set_self (by rw [List.length_map]; exact hl)] at e
      cases e
      exact ⟨_, h1, (h6.mono m).is upd_same⟩
    · unfold readT at e
      rw [List.getElem?_set_ne hj, List.getElem?_map] at e
      cases e2 : τ[j]? with
      | none => rw [e2] at e; cases e
      | some x =>
        rw [e2] at e
        have := unOw_im (Option.some.inj e)
        subst this
        obtain ⟨v, g1, g2⟩ := r.im j u e2
        exact ⟨v, g1, g2.mono m⟩
  · have keep : ∀ q u, I q = none → ¬ Z.F q → H q = some u → H' q = some u := fun q u e1 e2 e3 => by
      by_cases hq : q = p
      · subst hq
        rw [h5] at e3
        cases e3
        exact w.sub _ _ (sm _ _ upd_same)
      · exact (w.fr q u (foreign_mk (n1 q hq e1) e2 e3)).2
    refine ⟨⟨(m.trans sm).trans w.sub, hb _ _ _ _ w.res, r.rf, fun q u e => ⟨(r.fr q u e).1, keep q u (r.fr q u e).1 (fun z => ?_) (r.fr q u e).2⟩⟩, r.len, r.im, fun j u e => ?_, r.inj⟩
    · rw [(r.rf q z).2] at e
      cases e
    · obtain ⟨q, y, g1, g2, g3, g4, g5, g6⟩ := r.ow j u e
      exact ⟨q, y, g1, g2, g3, g4, keep q y g2 g4 g5, g6⟩
def plainS : T → Bool
  | .non | .bl _ | .int _ | .str _ => true
  | _ => false
theorem Is.plain {K : PySem.W.Frag} {I I' : Hp} {a : T} {v : V} (h : plainS a = true) (i : Is K I' a v) : Is K I a v := by
  cases a <;> first | exact i | cases h
section
variable {X : Cx} {Z : Res} {e : Expr} {f : EF Z} {fb : EFb Z}
/-- an expression that reads what slot i owns, and tells a plain value -/
def xRead {Z : Res} (i : Nat) (f : EF Z) : EF Z := fun τ s => match τ[i]? with
  | some (.ow t) => match f (readT τ i t) s with
    | some (a, s') => if plainS a = true then some (a, s') else none
    | none => none
  | _ => none
theorem ex_read (i : Nat) (h : EX X Z e f) (hb : Back Z := by exact fun _ _ _ _ h => h) : EX X Z e (xRead i f) := by
  obtain ⟨t, p, h1⟩ := h
  refine ⟨t, p, fun G I H σ τ s a s' Q w h q => ?_⟩
  unfold xRead at h
  split at h
  · rename_i u hi
    split at h
    · rename_i b s2 eb
      split at h
      · rename_i hp
        cases h
        obtain ⟨I1, m, w1, back⟩ := w.reading hi
        exact h1 _ _ _ _ _ _ _ _ _ w1 eb fun I2 H2 v m2 w2 i2 => q I H2 v (Same.refl _) (back I2 H2 _ hb m2 w2.toRep0) (Is.plain hp i2)
      · cases h
    · cases h
  · cases h
def bRead {Z : Res} (i : Nat) (f : EFb Z) : EFb Z := fun τ s => match τ[i]? with
  | some (.ow t) => f (readT τ i t) s
  | _ => none
theorem eb_read (i : Nat) (h : EB X Z e fb) (hb : Back Z := by exact fun _ _ _ _ h => h) : EB X Z e (bRead i fb) := by
  obtain ⟨t, p, h1⟩ := h
  refine ⟨t, p, fun G I H σ τ s a s' Q w h q => ?_⟩
  unfold bRead at h
  split at h
  · rename_i u hi
    obtain ⟨I1, m, w1, back⟩ := w.reading hi
    exact h1 _ _ _ _ _ _ _ _ _ w1 h fun I2 H2 m2 w2 => q I H2 (Same.refl _) (back I2 H2 _ hb m2 w2.toRep0)
  · cases h
end
end L2.TL
namespace L2.TL
open PySem PySem.Spec
open PyProof.Rows
open Sem (wp)
theorem ext_tup (l : Addr) (items : Array Value) (n : Nat) (b : Addr) (o : Obj) (items2 : Array Value) (n2 : Nat) (hz : items.size + items2.size ≤ sizeLine) :
    Meets (Builtin.«list.extend» ⟨[.ref l, .ref b], []⟩) (fun _ R s => s.heap.get? l = some { cls := .type "list", data := .seq items n } ∧ s.heap.get? b = some o ∧ o.cls = .type "tuple" ∧ o.data = .seq items2 n2 ∧ R (.ok (.ret Value.none)) { s with heap := s.heap.update l (Obj.mapSeq (· ++ items2)) }) :=
  .of_wp fun prog w A R s h => by
    obtain ⟨hS, ho, hc, hd, hR⟩ := h
    show wpAny _ A.in1 (Builtin.List.listExtendWith (.ref l) (.ref b) .none) _ _ s
    unfold Builtin.List.listExtendWith
    refine wpAny_bind (wpAny_typeOf ⟨o, ho, hc⟩ ?_)
    have h1 : (Builtin.List.listSameRef (.ref l) (.ref b) || Value.type "tuple" == Value.type "list" || Value.type "tuple" == Value.type "tuple") = true := by simp
    simp only [h1, if_true]
    refine wpAny_bind ?_
    unfold Builtin.List.listItems
    refine wpAny_bind (wpAny_seqItems ho hd (wpAny_pure ?_))
    refine wpAny_bind ?_
    refine wpAny_bind (wpAny_seqItems hS rfl (wpAny_pure ?_))
    have h2 : (!items.isEmpty && Builtin.List.listTooLong (items.size + items2.size)) = false := by rw [notLongL hz, Bool.and_false]
    simp only [h2]
    show wpAny _ A.in1 (updateSeq l (· ++ items2) >>= fun _ => ret .none) _ _ s
    refine wpAny_bind (wpAny_updateSeq (hz := by omega) (_hz' := by rw [Array.size_append]; omega) hS rfl ?_)
    exact wpAny_pure ⟨_, rfl, hR⟩
section
variable {X : Cx} {Z : Res} {e : Expr} {es : List Expr} {f : EF Z} {fs : EFs Z} {p : Pos}
def rExtT (K : PySem.W.Frag) : V → List V → Hp → VK → Prop := fun x vs H Q => ∃ l b xs zs, x = .ref l ∧ vs = [.ref b] ∧ H l = some (.lst xs) ∧ SqT K H b zs ∧ xs.length + zs.length ≤ sizeLine ∧ Q .non (upd H l (.lst (xs ++ zs)))
theorem mt_extT : MtM X "list.extend" (rExtT X.K) := by
  intro pins s σ H x vs v us Q I rx rv h
  obtain ⟨l, b, xs, zs, rfl, rfl, hH, hB, hz, q⟩ := h
  cases rx
  obtain ⟨u, rfl, ru⟩ := rv.one
  cases ru
  obtain ⟨z, its, n, r, hl, e⟩ := I.lstM hH
  obtain ⟨its2, r2, ⟨o, ho, hc, n2, hd⟩, z2⟩ := I.tuple hB
  have hl2 := r2.length
  have hsz : its.toArray.size + its2.toArray.size ≤ sizeLine := by rw [List.size_toArray, List.size_toArray]; omega
  refine call_meets F.slot_list_extend ⟨_, e, rfl⟩ F.entry_list_extend (F.args_list_extend_2 _ _) (ext_tup l its.toArray n b o its2.toArray n2 hsz) ⟨e, ho, hc, hd, ?_⟩
  refine ⟨.non, _, I.lset (its' := its ++ its2) (t' := s.toks) hH e (by simp) (r.append r2) ?_, rfl, q⟩
  rw [List.length_append]
  omega
/-- starred parts of a display -/
def xStar {Z : Res} (f : EF Z) (fs : EFs Z) : EFs Z := fun τ s => match f τ s with
  | some (.lst as, s1) => match fs τ s1 with
    | some (bs, s2) => some (as ++ bs, s2)
    | none => none
  | some (.tup as, s1) => match fs τ s1 with
    | some (bs, s2) => some (as ++ bs, s2)
    | none => none
  | _ => none
theorem el_star (he : EX X Z e f) (hr : EL X Z es fs) (hs : starEach (.Starred e p :: es) X.env = (true, eval e X.env) :: starEach es X.env := by rfl) : EL X Z (.Starred e p :: es) (xStar f fs) := by
  obtain ⟨t, pe, h1⟩ := he
  obtain ⟨u, pr, h2⟩ := hr
  refine ⟨_, StX.pa_star pe pr hs, fun G I H σ τ s as s' Q w h q => ?_⟩
  unfold xStar at h
  split at h
  · rename_i bs s1 e1
    split at h
    · rename_i cs s2 e2
      cases h
      refine h1 _ _ _ _ _ _ _ _ _ w e1 fun I1 H1 v m1 w1 i1 => ?_
      obtain ⟨a, xs, rfl, ha, il⟩ := i1
      exact ⟨a, xs, rfl, .inr (SqL.of (w1.sub _ _ ha)), h2 _ _ _ _ _ _ _ _ _ w1 e2 fun I2 H2 vs m2 w2 i2 => q I2 H2 _ (m1.trans m2) w2 ((il.mono m2).app i2)⟩
    · cases h
  · rename_i bs s1 e1
    split at h
    · rename_i cs s2 e2
      cases h
      refine h1 _ _ _ _ _ _ _ _ _ w e1 fun I1 H1 v m1 w1 i1 => ?_
      obtain ⟨a, xs, rfl, ha, il⟩ := i1
      exact ⟨a, xs, rfl, .inl (sqt_mono w1.sub ha.1), h2 _ _ _ _ _ _ _ _ _ w1 e2 fun I2 H2 vs m2 w2 i2 => q I2 H2 _ (m1.trans m2) w2 ((il.mono m2).app i2)⟩
    · cases h
  · cases h
end
end L2.TL
namespace L2.TL
open PySem PySem.Spec
open PyProof.Rows
abbrev EFo (Z : Res) := List SV → Z.S → Option (T × List SV × Z.S)
abbrev EFos (Z : Res) := List SV → Z.S → Option (List T × List SV × Z.S)
/-- expressions that change what slots own -/
def EXO (X : Cx) (Z : Res) (e : Expr) (f : EFo Z) : Prop :=
  ∃ t, PE X e t ∧ ∀ G I H σ τ s a τ' s' Q, Rep X.K Z G I H σ τ s → f τ s = some (a, τ', s') → Hand X Z G I σ τ' s' a Q → t σ H Q
def ELO (X : Cx) (Z : Res) (es : List Expr) (f : EFos Z) : Prop :=
  ∃ t, PA X es t ∧ ∀ G I H σ τ s as τ' s' Q, Rep X.K Z G I H σ τ s → f τ s = some (as, τ', s') → HandL X Z G I σ τ' s' as Q → t σ H Q
section
variable {X : Cx} {Z : Res} {e : Expr} {es : List Expr} {f : EF Z} {g : EFo Z} {gs : EFos Z} {pos : Pos}
def oPure {Z : Res} (f : EF Z) : EFo Z := fun τ s => match f τ s with
  | some (a, s') => some (a, τ, s')
  | none => none
theorem xo_of (h : EX X Z e f) : EXO X Z e (oPure f) := by
  obtain ⟨t, p, h1⟩ := h
  refine ⟨t, p, fun G I H σ τ s a τ' s' Q w h q => ?_⟩
  unfold oPure at h
  split at h
  · rename_i b s2 eb
    cases h
    exact h1 _ _ _ _ _ _ _ _ _ w eb q
  · cases h
def oNil {Z : Res} : EFos Z := fun τ s => some ([], τ, s)
def oCons {Z : Res} (g : EFo Z) (gs : EFos Z) : EFos Z := fun τ s => match g τ s with
  | some (a, τ1, s1) => match gs τ1 s1 with
    | some (as, τ2, s2) => some (a :: as, τ2, s2)
    | none => none
  | none => none
theorem elo_nil : ELO X Z [] oNil := ⟨_, pa_nil, fun G I H σ τ s as τ' s' Q w h q => by
  cases h
  exact q I H [] (Same.refl _) w IsL.nil⟩
theorem elo_cons (h : EXO X Z e g) (hr : ELO X Z es gs) (hs : starEach (e :: es) X.env = (false, eval e X.env) :: starEach es X.env := by rfl) : ELO X Z (e :: es) (oCons g gs) := by
  obtain ⟨t, p, h1⟩ := h
  obtain ⟨u, p2, h2⟩ := hr
  refine ⟨_, pa_cons p p2 hs, fun G I H σ τ s as τ' s' Q w h q => ?_⟩
  unfold oCons at h
  split at h
  · rename_i a τ1 s1 e1
    split at h
    · rename_i bs τ2 s2 e2
      cases h
      refine h1 _ _ _ _ _ _ _ _ _ _ w e1 fun I1 H1 v m1 w1 i1 => ?_
      exact h2 _ _ _ _ _ _ _ _ _ _ w1 e2 fun I2 H2 vs m2 w2 i2 => q I2 H2 _ (m1.trans m2) w2 (IsL.cons (i1.mono m2) i2)
    · cases h
  · cases h
def oTup {Z : Res} (gs : EFos Z) : EFo Z := fun τ s => match gs τ s with
  | some (as, τ', s') => if as.length ≤ sizeLine then some (.tup as, τ', s') else none
  | none => none
theorem xo_tup {k : Nat} (h : ELO X Z es gs) : EXO X Z (.Tuple es k pos) (oTup gs) := by
  obtain ⟨t, p, h1⟩ := h
  refine ⟨_, pe_tupN p, fun G I H σ τ s a τ' s' Q w h q => ?_⟩
  unfold oTup at h
  split at h
  · rename_i as τ2 s2 ea
    split at h
    · rename_i hz
      cases h
      refine h1 _ _ _ _ _ _ _ _ _ _ w ea fun I1 H1 vs m1 w1 i1 => ⟨by rw [i1.len]; exact hz, fun p ob hp c1 c2 => ?_⟩
      obtain ⟨m2, w2⟩ := w1.new (o := .frz ob (.tup vs)) hp
      exact q _ _ _ (m1.trans m2) w2 ⟨p, vs, rfl, sqp_new upd_same c1 c2, i1.mono m2⟩
    · cases h
  · cases h
/-! ### methods of an own list -/
def oPop {Z : Res} (i : Nat) : EFo Z := fun τ s => match τ[i]? with
  | some (.ow (.lst ts)) => match ts.getLast? with
    | some a => some (a, τ.set i (.ow (.lst ts.dropLast)), s)
    | none => none
  | _ => none
theorem own_list {K : PySem.W.Frag} {G I H : Hp} {σ : St} {τ : List SV} {s : Z.S} {i : Nat} {ts : List T} (w : Rep K Z G I H σ τ s) (hi : τ[i]? = some (.ow (.lst ts))) :
    ∃ p xs, σ[i]? = some (some (V.ref p)) ∧ I p = none ∧ G p = none ∧ ¬ Z.F p ∧ H p = some (.lst xs) ∧ IsL K I ts xs := by
  obtain ⟨p, o, h1, h2, h3, h4, h5, h6⟩ := w.ow i _ hi
  cases o with
  | lst xs => exact ⟨p, xs, h1, h2, h3, h4, h5, h6⟩
  | _ => exact h6.elim
theorem xo_pop (i : Nat) {x : Str} {p apos cpos : Pos} (hN : X.N[i]? = some x := by rfl) (hv : Vis X.env.scope x := by first | exact Or.inl rfl | exact Or.inr (Or.inl rfl) | exact Or.inr (Or.inr rfl)) (hd : (x == ("__debug__" : Str)) = false := by decide)
    (hcd : (x == ("__classdict__" : Str)) = false := by decide) (hbase : attributeBase (.Name x p) "pop" X.env (eval (.Name x p) X.env) = eval (.Name x p) X.env := by rfl) (hline : (apos.endLine == cpos.line) = true := by rfl) :
    EXO X Z (.Call (.Attribute (.Name x p) "pop" apos) [] [] cpos) (oPop i) := by
  refine ⟨_, pe_bm0 PySem.F.plainAttrs_list PySem.F.slot_list_pop PySem.F.type_list_pop mt_pop (pe_var hN hv hd hcd) hbase hline, fun G I H σ τ s a τ' s' Q w h q => ?_⟩
  unfold oPop at h
  split at h
  · rename_i ts hi
    split at h
    · rename_i b hb
      cases h
      obtain ⟨p, xs, h1, h2, h3, h4, h5, h6⟩ := own_list w hi
      rw [List.getLast?_eq_getElem?] at hb
      obtain ⟨y, hy, iy⟩ := h6.at hb
      rw [← h6.len] at hy
      exact ⟨.ref p, h1, .inl ⟨rfl, xs, SqL.of h5⟩, p, xs, y, rfl, rfl, h5, hy, q I _ y (Same.refl _) (w.change (o := .lst []) hi h1 h2 h3 h4 (show Cn X.K I (.lst ts.dropLast) (.lst xs.dropLast) from h6.dropLast)) iy⟩
    · cases h
  · cases h
def oPopAt {Z : Res} (i : Nat) (f : EF Z) : EFo Z := fun τ s => match τ[i]? with
  | some (.ow (.lst ts)) => match f τ s with
    | some (.int k, s') => match ts[k.toNat]? with
      | some a => if 0 ≤ k ∧ k < 2 ^ 63 then some (a, τ.set i (.ow (.lst (ts.eraseIdx k.toNat))), s') else none
      | none => none
    | _ => none
  | _ => none
theorem seqIx {k : Int} {n : Nat} (h0 : 0 ≤ k) (h : k.toNat < n) : seqIndex? k n = some k.toNat := by
  unfold seqIndex?
  have h1 : ¬ k < 0 := by omega
  simp only [h1, if_false]
  have h2 : k < (n : Int) := by omega
  simp [h0, h2]
theorem xo_popAt (i : Nat) {x : Str} {p apos cpos : Pos} (h : EX X Z e f) (hN : X.N[i]? = some x := by rfl) (hv : Vis X.env.scope x := by first | exact Or.inl rfl | exact Or.inr (Or.inl rfl) | exact Or.inr (Or.inr rfl)) (hd : (x == ("__debug__" : Str)) = false := by decide)
    (hcd : (x == ("__classdict__" : Str)) = false := by decide) (hbase : attributeBase (.Name x p) "pop" X.env (eval (.Name x p) X.env) = eval (.Name x p) X.env := by rfl)
    (hfew : ((backTo cpos (starEach [e] X.env)).all (fun x => !x.1) && (backToKw cpos (keywordEach [] X.env)).all (fun x => x.1.isSome)
      && decide ([e].length + ([] : List Keyword).length + (if ([] : List Keyword).isEmpty then 0 else 1) < 30)) = true := by rfl)
    (hline : (apos.endLine == cpos.line) = true := by rfl) (hs : starEach [e] X.env = (false, eval e X.env) :: starEach [] X.env := by rfl) (hplain : (backTo cpos (starEach [] X.env)).any (·.1) = false := by rfl) :
    EXO X Z (.Call (.Attribute (.Name x p) "pop" apos) [e] [] cpos) (oPopAt i f) := by
  obtain ⟨t, pe, h1⟩ := h
  refine ⟨_, pe_bm PySem.F.plainAttrs_list PySem.F.slot_list_pop PySem.F.type_list_pop mt_popAt (pe_var hN hv hd hcd) (pa_cons pe pa_nil hs) hbase hfew hline hs hplain, fun G I H σ τ s a τ' s' Q w h q => ?_⟩
  unfold oPopAt at h
  split at h
  · rename_i ts hi
    split at h
    · rename_i k s1 ek
      split at h
      · rename_i b hb
        split at h
        · rename_i hk
          cases h
          obtain ⟨p, xs, g1, g2, g3, g4, g5, g6⟩ := own_list w hi
          refine ⟨.ref p, g1, .inl ⟨rfl, xs, SqL.of g5⟩, h1 _ _ _ _ _ _ _ _ _ w ek fun I1 H1 v m1 w1 i1 => ?_⟩
          obtain rfl : v = .int k := i1
          obtain ⟨p', ys, k1, k2, k3, k4, k5, k6⟩ := own_list w1 hi
          rw [g1] at k1
          cases k1
          obtain ⟨y, hy, iy⟩ := k6.at hb
          have hlt : k.toNat < ys.length := (List.getElem?_eq_some_iff.mp hy).1
          exact ⟨p, ys, k, k.toNat, y, rfl, rfl, k5, by omega, by omega, seqIx hk.1 hlt, hy, q I1 _ y m1 (w1.change (o := .lst []) hi g1 k2 k3 k4 (show Cn X.K I1 (.lst (ts.eraseIdx k.toNat)) (.lst (ys.eraseIdx k.toNat)) from k6.erase _)) iy⟩
        · cases h
      · cases h
    · cases h
  · cases h
def oApp {Z : Res} (i : Nat) (g : EFo Z) : EFo Z := fun τ s => match τ[i]? with
  | some (.ow (.lst _)) => match g τ s with
    | some (a, τ1, s1) => match τ1[i]? with
      | some (.ow (.lst ts)) => if ts.length < sizeLine then some (.non, τ1.set i (.ow (.lst (ts ++ [a]))), s1) else none
      | _ => none
    | none => none
  | _ => none
theorem xo_app (i : Nat) {x : Str} {p apos cpos : Pos} (h : EXO X Z e g) (hN : X.N[i]? = some x := by rfl) (hv : Vis X.env.scope x := by first | exact Or.inl rfl | exact Or.inr (Or.inl rfl) | exact Or.inr (Or.inr rfl)) (hd : (x == ("__debug__" : Str)) = false := by decide)
    (hcd : (x == ("__classdict__" : Str)) = false := by decide) (hbase : attributeBase (.Name x p) "append" X.env (eval (.Name x p) X.env) = eval (.Name x p) X.env := by rfl)
    (hfew : ((backTo cpos (starEach [e] X.env)).all (fun x => !x.1) && (backToKw cpos (keywordEach [] X.env)).all (fun x => x.1.isSome)
      && decide ([e].length + ([] : List Keyword).length + (if ([] : List Keyword).isEmpty then 0 else 1) < 30)) = true := by rfl)
    (hline : (apos.endLine == cpos.line) = true := by rfl) (hs : starEach [e] X.env = (false, eval e X.env) :: starEach [] X.env := by rfl) (hplain : (backTo cpos (starEach [] X.env)).any (·.1) = false := by rfl) :
    EXO X Z (.Call (.Attribute (.Name x p) "append" apos) [e] [] cpos) (oApp i g) := by
  obtain ⟨t, pe, h1⟩ := h
  refine ⟨_, pe_bm PySem.F.plainAttrs_list PySem.F.slot_list_append PySem.F.type_list_append mt_append (pe_var hN hv hd hcd) (pa_cons pe pa_nil hs) hbase hfew hline hs hplain, fun G I H σ τ s a τ' s' Q w h q => ?_⟩
  unfold oApp at h
  split at h
  · rename_i ts0 hi
    split at h
    · rename_i b τ1 s1 eb
      split at h
      · rename_i ts hi1
        split at h
        · rename_i hz
          cases h
          obtain ⟨p, xs, g1, g2, g3, g4, g5, g6⟩ := own_list w hi
          refine ⟨.ref p, g1, .inl ⟨rfl, xs, SqL.of g5⟩, h1 _ _ _ _ _ _ _ _ _ _ w eb fun I1 H1 v m1 w1 i1 => ?_⟩
          obtain ⟨p', ys, k1, k2, k3, k4, k5, k6⟩ := own_list w1 hi1
          rw [g1] at k1
          cases k1
          exact ⟨p, ys, v, rfl, rfl, k5, by rw [k6.len]; exact hz, q I1 _ .non m1 (w1.change (o := .lst []) hi1 g1 k2 k3 k4 (show Cn X.K I1 (.lst (ts ++ [b])) (.lst (ys ++ [v])) from k6.app (IsL.cons i1 IsL.nil))) rfl⟩
        · cases h
      · cases h
    · cases h
  · cases h
def oExt {Z : Res} (i : Nat) (f : EF Z) : EFo Z := fun τ s => match τ[i]? with
  | some (.ow (.lst ts)) => match f τ s with
    | some (.lst us, s1) => if ts.length + us.length ≤ sizeLine then some (.non, τ.set i (.ow (.lst (ts ++ us))), s1) else none
    | some (.tup us, s1) => if ts.length + us.length ≤ sizeLine then some (.non, τ.set i (.ow (.lst (ts ++ us))), s1) else none
    | _ => none
  | _ => none
theorem mt_ext : MtM X "list.extend" (fun x vs H Q => rExtend x vs H Q ∨ rExtT X.K x vs H Q) := fun pins s σ H x vs v us Q J rx rv h => h.elim (mt_extend pins s σ H x vs v us Q J rx rv) (mt_extT pins s σ H x vs v us Q J rx rv)
theorem xo_ext (i : Nat) {x : Str} {p apos cpos : Pos} (h : EX X Z e f) (hN : X.N[i]? = some x := by rfl) (hv : Vis X.env.scope x := by first | exact Or.inl rfl | exact Or.inr (Or.inl rfl) | exact Or.inr (Or.inr rfl)) (hd : (x == ("__debug__" : Str)) = false := by decide)
    (hcd : (x == ("__classdict__" : Str)) = false := by decide) (hbase : attributeBase (.Name x p) "extend" X.env (eval (.Name x p) X.env) = eval (.Name x p) X.env := by rfl)
    (hfew : ((backTo cpos (starEach [e] X.env)).all (fun x => !x.1) && (backToKw cpos (keywordEach [] X.env)).all (fun x => x.1.isSome)
      && decide ([e].length + ([] : List Keyword).length + (if ([] : List Keyword).isEmpty then 0 else 1) < 30)) = true := by rfl)
    (hline : (apos.endLine == cpos.line) = true := by rfl) (hs : starEach [e] X.env = (false, eval e X.env) :: starEach [] X.env := by rfl) (hplain : (backTo cpos (starEach [] X.env)).any (·.1) = false := by rfl) :
    EXO X Z (.Call (.Attribute (.Name x p) "extend" apos) [e] [] cpos) (oExt i f) := by
  obtain ⟨t, pe, h1⟩ := h
  refine ⟨_, pe_bm PySem.F.plainAttrs_list PySem.F.slot_list_extend PySem.F.type_list_extend mt_ext (pe_var hN hv hd hcd) (pa_cons pe pa_nil hs) hbase hfew hline hs hplain, fun G I H σ τ s a τ' s' Q w h q => ?_⟩
  unfold oExt at h
  split at h
  · rename_i ts hi
    obtain ⟨p, xs, g1, g2, g3, g4, g5, g6⟩ := own_list w hi
    split at h
    · rename_i us s1 eu
      split at h
      · rename_i hz
        cases h
        refine ⟨.ref p, g1, .inl ⟨rfl, xs, SqL.of g5⟩, h1 _ _ _ _ _ _ _ _ _ w eu fun I1 H1 v m1 w1 i1 => ?_⟩
        obtain ⟨b, zs, rfl, hb, ib⟩ := i1
        obtain ⟨p', ys, k1, k2, k3, k4, k5, k6⟩ := own_list w1 hi
        rw [g1] at k1
        cases k1
        exact .inl ⟨p, b, ys, zs, rfl, rfl, k5, w1.sub _ _ hb, by rw [k6.len, ib.len]; exact hz, q I1 _ .non m1 (w1.change (o := .lst []) hi g1 k2 k3 k4 (show Cn X.K I1 (.lst (ts ++ us)) (.lst (ys ++ zs)) from k6.app ib)) rfl⟩
      · cases h
    · rename_i us s1 eu
      split at h
      · rename_i hz
        cases h
        refine ⟨.ref p, g1, .inl ⟨rfl, xs, SqL.of g5⟩, h1 _ _ _ _ _ _ _ _ _ w eu fun I1 H1 v m1 w1 i1 => ?_⟩
        obtain ⟨b, zs, rfl, hb, ib⟩ := i1
        obtain ⟨p', ys, k1, k2, k3, k4, k5, k6⟩ := own_list w1 hi
        rw [g1] at k1
        cases k1
        exact .inr ⟨p, b, ys, zs, rfl, rfl, k5, sqt_mono w1.sub hb.1, by rw [k6.len, ib.len]; exact hz, q I1 _ .non m1 (w1.change (o := .lst []) hi g1 k2 k3 k4 (show Cn X.K I1 (.lst (ts ++ us)) (.lst (ys ++ zs)) from k6.app ib)) rfl⟩
      · cases h
    · cases h
  · cases h
/-! ### statements -/
def sDropO {Z : Res} (g : EFo Z) : SF Z := fun τ s => match g τ s with
  | some (_, τ', s') => some (.nx τ' s')
  | none => none
theorem sx_exprO (h : EXO X Z e g) (hs : swapsWith e none pos.line X.env = pure false := by rfl) : SX X Z (.Expr e pos) (sDropO g) := by
  obtain ⟨t, p, h1⟩ := h
  refine ⟨_, ps_expr p hs, fun G I H σ τ s o D w h q => ?_⟩
  unfold sDropO at h
  split at h
  · rename_i a τ1 s1 ea
    cases h
    exact h1 _ _ _ _ _ _ _ _ _ _ w ea fun I' H' v m w' i => q I' H' σ m w'
  · cases h
def sSetXO {Z : Res} (i : Nat) (g : EFo Z) : SF Z := fun τ s => match g τ s with
  | some (a, τ', s') => if i < τ'.length then some (.nx (τ'.set i (.im a)) s') else none
  | none => none
theorem sx_setXO {i : Nat} {x : Str} {pos' : Pos} (hN : X.N.Nodup) (hi : X.N[i]? = some x := by rfl) (he : EXO X Z e g) (hx : Loc X.env.scope x := by first | exact Or.inl rfl | exact Or.inr rfl) (hs : swapsWith e (some (.Name x pos')) pos.line X.env = pure false := by rfl)
    (hf : X.fn x = true ∨ X.env.scope.names.lookup x = some .local := by first | exact .inl rfl | exact .inr rfl | assumption) : SX X Z (.Assign [.Name x pos'] e pos) (sSetXO i g) := by
  obtain ⟨t, p, h1⟩ := he
  refine ⟨_, ps_set hN hi hx p hs hf, fun G I H σ τ s o D w h q => ?_⟩
  unfold sSetXO at h
  split at h
  · rename_i a τ1 s1 ea
    split at h
    · rename_i hl
      cases h
      exact h1 _ _ _ _ _ _ _ _ _ _ w ea fun I' H' v m w' i' => q I' H' _ m (w'.setIm hl i')
    · cases h
  · cases h
end
end L2.TL
namespace L2.TL
open PySem PySem.Spec
open PyProof.Rows
/-- a value, or a new object that its taker owns -/
def EA (X : Cx) (Z : Res) (k : Bool) (e : Expr) (f : EF Z) : Prop := match k with
  | true => EN X Z e f
  | false => EX X Z e f
def slotOf (k : Bool) (a : T) : SV := match k with
  | true => .ow a
  | false => .im a
def sParN {Z : Res} (i j : Nat) (k l : Bool) (f g : EF Z) : SF Z := fun τ s => match f τ s with
  | some (a, s1) => match g τ s1 with
    | some (b, s2) => if i < τ.length ∧ j < τ.length then some (.nx ((τ.set i (slotOf k a)).set j (slotOf l b)) s2) else none
    | none => none
  | none => none
theorem Own1.later {K : PySem.W.Frag} {Z : Res} {G I H I' H' : Hp} {σ : St} {τ : List SV} {s' : Z.S} {p : Addr} {o : HO} {a : T} (u : Own1 K Z G I H σ τ p o a) (m : Same I I') (w : Rep K Z (upd G p o) I' H' σ τ s') :
    Rep K Z G I' H' σ τ s' ∧ Own1 K Z G I' H' σ τ p o a := by
  obtain ⟨e1, e2⟩ := w.fr p o upd_same
  refine ⟨w.frame fun q y h => ?_, ⟨e1, u.ng, u.nf, e2, u.cn.mono m, u.no⟩⟩
  rw [upd_ne (ne_of_none h u.ng)]
  exact h
theorem Own1.setIm {K : PySem.W.Frag} {Z : Res} {G I H : Hp} {σ : St} {τ : List SV} {s : Z.S} {p : Addr} {o : HO} {a b : T} {i : Nat} {v : V} (u : Own1 K Z G I H σ τ p o a) (hl : σ.length = τ.length) : Own1 K Z G I H (σ.set i (some v)) (τ.set i (.im b)) p o a := by
  refine ⟨u.ni, u.ng, u.nf, u.at_, u.cn, fun j t h => ?_⟩
  have hj : i ≠ j := fun z => by
    subst z
    by_cases hi : i < τ.length
    · rw [List.getElem?_set_self hi] at h
      cases h
    · rw [List.getElem?_eq_none (by rw [List.length_set]; omega)] at h
      cases h
  rw [List.getElem?_set_ne hj] at h ⊢
  exact u.no j t h
theorem Own1.setOw {K : PySem.W.Frag} {Z : Res} {G I H : Hp} {σ : St} {τ : List SV} {s : Z.S} {p q : Addr} {o : HO} {a b : T} {i : Nat} (u : Own1 K Z G I H σ τ p o a) (hl : σ.length = τ.length) (hi : i < τ.length) (hq : q ≠ p) : Own1 K Z G I H (σ.set i (some (.ref q))) (τ.set i (.ow b)) p o a := by
  refine ⟨u.ni, u.ng, u.nf, u.at_, u.cn, fun j t h => ?_⟩
  by_cases hj : i = j
  · subst hj
    rw [List.getElem?_set_self (by omega)]
    intro z
    cases z
    exact hq rfl
  · rw [List.getElem?_set_ne hj] at h ⊢
    exact u.no j t h
section
variable {X : Cx} {Z : Res} {a b : Expr} {f g : EF Z} {pos : Pos}
theorem sx_parN {i j : Nat} {x y : Str} {k l : Bool} {px py pt : Pos} {kt k2 : Nat} {pt2 : Pos} (hc : X.calm = true) (hN : X.N.Nodup) (hi : X.N[i]? = some x := by rfl) (hj : X.N[j]? = some y := by rfl) (ha : EA X Z k a f) (hb : EA X Z l b g) (hij : i ≠ j := by decide)
    (hx : X.env.scope.names.lookup x = some .local := by rfl) (hy : X.env.scope.names.lookup y = some .local := by rfl)
    (h1s : starEach [a, b] X.env = (false, eval a X.env) :: starEach [b] X.env := by rfl) (h2s : starEach [b] X.env = (false, eval b X.env) :: starEach [] X.env := by rfl)
    (hw : swappedStores [.Tuple [.Name x px, .Name y py] kt pt] (.Tuple [a, b] k2 pt2) X.env = pure (some [x, y]) := by rfl)
    (hs : swapsWithSole [.Tuple [.Name x px, .Name y py] kt pt] (.Tuple [a, b] k2 pt2) pos.line X.env = pure false := by rfl) :
    SX X Z (.Assign [.Tuple [.Name x px, .Name y py] kt pt] (.Tuple [a, b] k2 pt2) pos) (sParN i j k l f g) := by
  have key : ∀ {ta tb : TE}, PE X a ta → PE X b tb → PS X (.Assign [.Tuple [.Name x px, .Name y py] kt pt] (.Tuple [a, b] k2 pt2) pos) (tPar i j (tCons ta (tCons tb tNil))) := fun pa pb => ps_par hc hN hi hj hij hx hy (pa_cons pa (pa_cons pb pa_nil h2s) h1s) hw hs
  cases k with
  | false =>
    obtain ⟨ta, pa, h1⟩ := ha
    cases l with
    | false =>
      obtain ⟨tb, pb, h2⟩ := hb
      refine ⟨_, key pa pb, fun G I H σ τ s o D w h q => ?_⟩
      unfold sParN at h
      split at h
      · rename_i u s1 e1
        split at h
        · rename_i v s2 e2
          split at h
          · rename_i hl
            cases h
            refine h1 _ _ _ _ _ _ _ _ _ w e1 fun I1 H1 y1 m1 w1 i1 => h2 _ _ _ _ _ _ _ _ _ w1 e2 fun I2 H2 y2 m2 w2 i2 => ?_
            exact ⟨y1, y2, rfl, q I2 H2 _ (m1.trans m2) ((w2.setIm hl.1 (i1.mono m2)).setIm (by rw [List.length_set]; exact hl.2) i2)⟩
          · cases h
        · cases h
      · cases h
    | true =>
      obtain ⟨tb, pb, h2⟩ := hb
      refine ⟨_, key pa pb, fun G I H σ τ s o D w h q => ?_⟩
      unfold sParN at h
      split at h
      · rename_i u s1 e1
        split at h
        · rename_i v s2 e2
          split at h
          · rename_i hl
            cases h
            refine h1 _ _ _ _ _ _ _ _ _ w e1 fun I1 H1 y1 m1 w1 i1 => h2 _ _ _ _ _ _ _ _ _ w1 e2 fun I2 H2 p2 o2 m2 w2 u2 => ?_
            exact ⟨y1, _, rfl, q I2 H2 _ (m1.trans m2) ((w2.setIm hl.1 (i1.mono m2)).setOw (by rw [List.length_set]; exact hl.2) (u2.setIm (s := s2) w2.len))⟩
          · cases h
        · cases h
      · cases h
  | true =>
    obtain ⟨ta, pa, h1⟩ := ha
    cases l with
    | false =>
      obtain ⟨tb, pb, h2⟩ := hb
      refine ⟨_, key pa pb, fun G I H σ τ s o D w h q => ?_⟩
      unfold sParN at h
      split at h
      · rename_i u s1 e1
        split at h
        · rename_i v s2 e2
          split at h
          · rename_i hl
            cases h
            refine h1 _ _ _ _ _ _ _ _ _ w e1 fun I1 H1 p1 o1 m1 w1 u1 => h2 _ _ _ _ _ _ _ _ _ (w1.guard u1) e2 fun I2 H2 y2 m2 w2 i2 => ?_
            obtain ⟨w3, u3⟩ := u1.later m2 w2
            exact ⟨_, y2, rfl, q I2 H2 _ (m1.trans m2) ((w3.setOw hl.1 u3).setIm (by rw [List.length_set]; exact hl.2) i2)⟩
          · cases h
        · cases h
      · cases h
    | true =>
      obtain ⟨tb, pb, h2⟩ := hb
      refine ⟨_, key pa pb, fun G I H σ τ s o D w h q => ?_⟩
      unfold sParN at h
      split at h
      · rename_i u s1 e1
        split at h
        · rename_i v s2 e2
          split at h
          · rename_i hl
            cases h
            refine h1 _ _ _ _ _ _ _ _ _ w e1 fun I1 H1 p1 o1 m1 w1 u1 => h2 _ _ _ _ _ _ _ _ _ (w1.guard u1) e2 fun I2 H2 p2 o2 m2 w2 u2 => ?_
            obtain ⟨w3, u3⟩ := u1.later m2 w2
            have ne : p1 ≠ p2 := fun z => by
              have := u2.ng
              rw [← z, upd_same] at this
              cases this
            have u4 : Own1 X.K Z G I2 H2 σ τ p2 o2 v := ⟨u2.ni, by have := u2.ng; rw [upd_ne ne.symm] at this; exact this, u2.nf, u2.at_, u2.cn, u2.no⟩
            exact ⟨_, _, rfl, q I2 H2 _ (m1.trans m2) ((w3.setOw hl.1 u3).setOw (by rw [List.length_set]; exact hl.2) (u4.setOw (s := s2) w3.len hl.1 ne))⟩
          · cases h
        · cases h
      · cases h
end
end L2.TL
namespace L2.TL
open PySem PySem.Spec
open PyProof.Rows
section
variable {X : Cx} {Z : Res} {scope : Scope}
theorem gb_two {i j : Nat} {x y : Str} {p1 p2 pos : Pos} {k : Nat} (hN : X.N.Nodup) (hi : X.N[i]? = some x) (hj : X.N[j]? = some y) (hij : i ≠ j) (hx : ∀ (cl : List (Str × Addr)) (C : Addr), Loc (compEnvC scope cl C X.env).scope x) (hf : ∀ (cl : List (Str × Addr)) (C : Addr), (scope.names.lookup x == some .cell) = true ∨ (compEnvC scope cl C X.env).scope.names.lookup x = some .local)
    (hy : ∀ (cl : List (Str × Addr)) (C : Addr), Loc (compEnvC scope cl C X.env).scope y) (hg : ∀ (cl : List (Str × Addr)) (C : Addr), (scope.names.lookup y == some .cell) = true ∨ (compEnvC scope cl C X.env).scope.names.lookup y = some .local)
    (hc : ∀ (s : Shared) (H : Hp) (C : Addr) (cl : List (Str × Addr)) (fp : List Addr), (X.blk s H scope (compEnvC scope cl C X.env) fp).calm = true := by intro _ _ _ _ _; rfl)
    (hn : ∀ (C : Addr) (cl : List (Str × Addr)), (assignEach [.Name x p1, .Name y p2] (compEnvC scope cl C X.env)).length = 2 := by intro _ _; rfl) (hst : ∀ (C : Addr) (cl : List (Str × Addr)), (assignEach [.Name x p1, .Name y p2] (compEnvC scope cl C X.env)).findIdx? (·.1) = none := by intro _ _; rfl)
    (ha : ∀ (C : Addr) (cl : List (Str × Addr)), (assignEach [.Name x p1, .Name y p2] (compEnvC scope cl C X.env)).map (·.2) = assign (.Name x p1) (compEnvC scope cl C X.env) :: (assignEach [.Name y p2] (compEnvC scope cl C X.env)).map (·.2) := by intro _ _; rfl)
    (hb : ∀ (C : Addr) (cl : List (Str × Addr)), (assignEach [.Name y p2] (compEnvC scope cl C X.env)).map (·.2) = assign (.Name y p2) (compEnvC scope cl C X.env) :: (assignEach [] (compEnvC scope cl C X.env)).map (·.2) := by intro _ _; rfl) :
    GB X Z scope [i, j] (.Tuple [.Name x p1, .Name y p2] k pos) (gTupT 2 (gsCons (gSet i) (gsCons (gSet j) gsNil))) := by
  refine ⟨gTup X.K 2 (gCons (gName i) (gCons (gName j) gNil)), fun s H C cl fp => pg_tup (X := X.blk s H scope (compEnvC scope cl C X.env) fp) (hc s H C cl fp) (pgs_cons (pg_name (X := X.blk s H scope (compEnvC scope cl C X.env) fp) hN hi (hx cl C) (hf cl C)) (pgs_cons (pg_name (X := X.blk s H scope (compEnvC scope cl C X.env) fp) hN hj (hy cl C) (hg cl C)) pgs_nil (hb C cl)) (ha C cl)) (hn C cl) (hst C cl), fun G I H σ τ s a v τ2 Q w ia h q => ?_, fun a τ τ2 h l hl => ?_⟩
  · unfold gTupT at h
    split at h
    · rename_i as eas
      split at h
      · rename_i h2
        obtain ⟨b, xs, rfl, hq, il⟩ := tupItems_is eas ia
        match as, h2, h, il with
        | [a1, a2], _, h, il =>
          obtain ⟨y1, y2, rfl, i1, i2⟩ := il.two
          by_cases l1 : i < τ.length
          · by_cases l2 : j < τ.length
            · have e1 : gSet i a1 τ = some (τ.set i (.im a1)) := if_pos l1
              have e2 : gSet j a2 (τ.set i (.im a1)) = some ((τ.set i (.im a1)).set j (.im a2)) := if_pos (by rw [List.length_set]; exact l2)
              have e : some ((τ.set i (.im a1)).set j (.im a2)) = some τ2 := by
                rw [← h]
                show _ = (match gSet i a1 τ with
                  | some τ' => gsCons (gSet j) gsNil [a2] τ'
                  | none => none)
                rw [e1]
                show _ = (match gSet j a2 (τ.set i (.im a1)) with
                  | some τ' => gsNil [] τ'
                  | none => none)
                rw [e2]
                rfl
              cases e
              have ws := (w.setIm l1 i1).setIm (i := j) (by rw [List.length_set]; exact l2) i2
              have wz : L2.wipe ((σ.set i (some y1)).set j (some y2)) [i, j] = L2.wipe σ [i, j] := by
                show ((((σ.set i (some y1)).set j (some y2)).set j none).set i none) = (σ.set j none).set i none
                rw [List.set_set, List.set_comm _ _ hij, List.set_set, List.set_comm _ _ hij.symm]
              exact ⟨b, _, rfl, sqt_mono w.sub hq, rfl, y1, _, rfl, y2, _, rfl, rfl, q _ wz ws⟩
            · exfalso
              have e1 : gSet i a1 τ = some (τ.set i (.im a1)) := if_pos l1
              have e2 : gSet j a2 (τ.set i (.im a1)) = none := if_neg (by rw [List.length_set]; exact l2)
              have : (none : Option (List SV)) = some τ2 := by
                rw [← h]
                show _ = (match gSet i a1 τ with
                  | some τ' => gsCons (gSet j) gsNil [a2] τ'
                  | none => none)
                rw [e1]
                show _ = (match gSet j a2 (τ.set i (.im a1)) with
                  | some τ' => gsNil [] τ'
                  | none => none)
                rw [e2]
              cases this
          · exfalso
            have e1 : gSet i a1 τ = none := if_neg l1
            have : (none : Option (List SV)) = some τ2 := by
              rw [← h]
              show _ = (match gSet i a1 τ with
                | some τ' => gsCons (gSet j) gsNil [a2] τ'
                | none => none)
              rw [e1]
            cases this
      · cases h
    · cases h
  · unfold gTupT at h
    split at h
    · rename_i as eas
      split at h
      · rename_i h2
        match as, h2, h with
        | [a1, a2], _, h =>
          have h : (match gSet i a1 τ with
            | some τ' => gsCons (gSet j) gsNil [a2] τ'
            | none => none) = some τ2 := h
          unfold gSet at h
          split at h
          · rename_i τ1 e1
            split at e1
            · cases e1
              have h : (match (if j < (τ.set i (.im a1)).length then some ((τ.set i (.im a1)).set j (.im a2)) else none) with
                | some τ' => gsNil [] τ'
                | none => none) = some τ2 := h
              split at h
              · rename_i τ3 e3
                split at e3
                · cases e3
                  cases h
                  rw [List.getElem?_set_ne (fun z => hl (by simp [z])), List.getElem?_set_ne (fun z => hl (by simp [z]))]
                · cases e3
              · cases h
            · cases e1
          · cases h
      · cases h
    · cases h
end
end L2.TL
/-! TLv: repr of data with lists and dicts in it: where a list stands does not matter. -/
namespace L2.TL
open PySem PySem.Spec
open PyProof.Rows
section
variable {X : Cx} {pins : List (Addr × Obj)} {σ : St} {H I : Hp} {s : Shared}
theorem shownL_le {ds : List PyData} {z : Nat} (h : (listText (PyData.shownAll ds)).length ≤ z) : ∀ y ∈ PyData.shownAll ds, y.length ≤ z :=
  fun y m => Nat.le_trans (listText_mem_le m) h
theorem shownT_le {ds : List PyData} {z : Nat} (h : (tupleText (PyData.shownAll ds)).length ≤ z) : ∀ y ∈ PyData.shownAll ds, y.length ≤ z :=
  fun y m => Nat.le_trans (tupleText_mem_le m) h
theorem showableL : ∀ {ts : List T}, PyData.showableAll (dL ts) = true → ∀ t ∈ ts, t.d.showable = true
  | [], _, _, m => by cases m
  | a :: r, h, t, m => by
    have h : (a.d.showable && PyData.showableAll (dL r)) = true := by simpa only [dL, PyData.showableAll] using h
    rw [Bool.and_eq_true] at h
    rcases List.mem_cons.mp m with rfl | m
    · exact h.1
    · exact showableL h.2 t m
/-- how the parts of a dict are shown, from what is known of its keys and values -/
theorem dict_parts {bs : List Addr} {ps : List (Key × T)} {es : List DictEntry} (hk : ReadsAll s.heap (es.map (·.key)) ((dP ps).map (·.1)) []) (hs : PyData.showableAll ((dP ps).map (·.1)) = true) (hz : ∀ y ∈ PyData.shownAll ((dP ps).map (·.1)), y.length ≤ sizeLine)
    (hv : ReprAllK X.prog X.w bs s.heap (PyData.depthAll ((dP ps).map (·.2))) (es.map (·.val)) (PyData.shownAll ((dP ps).map (·.2)))) (hb : ReadAtMost s.heap (PyData.depthAll ((dP ps).map (·.2))) bs) :
    ∃ cs, ReadAtMost s.heap (PyData.depthKv (dP ps)) cs ∧ ReprEntriesK X.prog X.w cs s.heap (PyData.depthKv (dP ps)) es (PyData.shownKv (dP ps)) := by
  obtain ⟨ks, hks, kk⟩ := ReprAllK.of_readsAll (prog := X.prog) (w := X.w) hk hs (fun _ m => by cases m) hz
  refine ⟨ks ++ bs, (hks.mono (PyData.depthAll_keys_le _)).append (hb.mono (PyData.depthAll_vals_le _)), ?_⟩
  rw [PyData.shownKv_eq]
  exact ReprEntriesK.of_two es _ _ (kk.more_le (fun _ m => List.mem_append.mpr (.inl m)) (PyData.depthAll_keys_le _)) (hv.more_le (fun _ m => List.mem_append.mpr (.inr m)) (PyData.depthAll_vals_le _))
/-- what stands at a dict that a tree tells -/
theorem dict_at (J : Inv X pins σ H s) (sub : Same I H) {ps : List (Key × T)} {a : Addr} {xs : List (Key × V)} (h1 : I a = some (.dK xs)) (h2 : IsD X.K I ps xs) :
    ∃ (o : Obj) (es : Array DictEntry) (n : Nat), s.heap.get? a = some o ∧ o.cls = .type "dict" ∧ o.data = .dict es n ∧ (a == sysModules) = false ∧ ReadsAll s.heap (es.toList.map (·.key)) ((dP ps).map (·.1)) [] ∧ ∃ vs, Vals vs (es.toList.map (·.val)) ∧ IsL X.K I (ps.map (·.2)) vs := by
  obtain ⟨hz, hS, vs, kv, o, es, ep, ho, hx, hd, _, pr, _⟩ : xs.length ≤ sizeLine ∧ (a == sysModules) = false ∧ ∃ vs, KV xs vs ∧ s.heap.DictOf (mixKind X.prog X.w) a vs := J.hok a _ (sub _ _ h1)
  obtain ⟨rk, rl⟩ := keysReads (h := s.heap) pr
  obtain ⟨kv1, kv2⟩ := kv_snd kv
  obtain ⟨i1, i2⟩ := isD_vals h2
  have e1 : (vs.map fun p => keyD p.1) = (dP ps).map (·.1) := by
    have : (vs.map fun p => keyD p.1) = (vs.map (·.1)).map keyD := by rw [List.map_map]; rfl
    rw [this, ← kv2, i2, dP_keys]
  rw [e1] at rk
  rw [← rl] at kv1
  exact ⟨o, es, ep, ho, hx.1, hd, hS, rk, _, kv1, i1⟩
mutual
theorem Is.shows (J : Inv X pins σ H s) (sub : Same I H) : ∀ (t : T) (v : V) (u : Value), t.plain = true → t.d.showable = true → t.d.shown.length ≤ sizeLine → Is X.K I t v → RelV v u →
    ∃ bs, ReadAtMost s.heap t.d.depth bs ∧ ReprK X.prog X.w bs s.heap t.d.depth u t.d.shown
  | .non, v, u, hp, hs, hz, h, r => by
    obtain ⟨as, rd, _⟩ := Is.reads J sub .non v u hp h r
    exact ReprK.of_reads rd hs (fun z => by cases z) hz
  | .bl b, v, u, hp, hs, hz, h, r => by
    obtain ⟨as, rd, _⟩ := Is.reads J sub (.bl b) v u hp h r
    exact ReprK.of_reads rd hs (fun z => by cases z) hz
  | .int i, v, u, hp, hs, hz, h, r => by
    obtain ⟨as, rd, _⟩ := Is.reads J sub (.int i) v u hp h r
    exact ReprK.of_reads rd hs (fun z => by cases z) hz
  | .str x, v, u, hp, hs, hz, h, r => by
    obtain ⟨as, rd, _⟩ := Is.reads J sub (.str x) v u hp h r
    exact ReprK.of_reads rd hs (fun z => by cases z) hz
  | .lst ts, v, u, hp, hs, hz, h, r => by
    obtain ⟨as, rd, _⟩ := Is.reads J sub (.lst ts) v u hp h r
    obtain ⟨a, xs, rfl, h1, h2⟩ := h
    cases r
    obtain ⟨its, rv, ⟨o, n, ho, hc, _, hd⟩, _⟩ := J.list (.of (sub _ _ h1))
    obtain ⟨bs, hb, hk⟩ := IsL.shows J sub ts xs its (by simpa only [T.plain] using hp) (by simpa only [T.d, PyData.showable] using hs) (shownL_le (by simpa only [T.d, PyData.shown] using hz)) h2 rv
    have deep : PyData.depthAll (dL ts) < (T.d (.lst ts)).depth := by
      simp only [T.d, PyData.depth]
      omega
    refine ⟨a :: bs, hb.cons rd (Nat.le_of_lt deep), ?_⟩
    have away := not_mem_of_deeper rd deep hb
    simp only [T.d, PyData.depth, PyData.shown]
    cases its with
    | nil =>
      have e : PyData.shownAll (dL ts) = [] := List.length_eq_zero_iff.mp (by simpa using hk.length_eq)
      rw [e, listText_nil]
      exact ReprK.listEmpty ho hc hd
    | cons y l => exact ReprK.list ho hc hd away (by simpa using hk.length_eq) fun i z e => hk.item i z (by simpa using e)
  | .tup ts, v, u, hp, hs, hz, h, r => by
    obtain ⟨as, rd, _⟩ := Is.reads J sub (.tup ts) v u hp h r
    obtain ⟨a, xs, rfl, h1, h2⟩ := h
    cases r
    obtain ⟨its, rv, ⟨o, ho, hc, n, hd⟩, _⟩ := J.tuple (sqt_mono sub h1.1)
    obtain ⟨bs, hb, hk⟩ := IsL.shows J sub ts xs its (by simpa only [T.plain] using hp) (by simpa only [T.d, PyData.showable] using hs) (shownT_le (by simpa only [T.d, PyData.shown] using hz)) h2 rv
    have deep : PyData.depthAll (dL ts) < (T.d (.tup ts)).depth := by
      simp only [T.d, PyData.depth]
      omega
    refine ⟨a :: bs, hb.cons rd (Nat.le_of_lt deep), ?_⟩
    have away := not_mem_of_deeper rd deep hb
    simp only [T.d, PyData.depth, PyData.shown]
    exact ReprK.tuple ho hc hd away (by simpa using hk)
  | .dct ps, v, u, hp, hs, hz, h, r => by
    obtain ⟨as, rd, _⟩ := Is.reads J sub (.dct ps) v u hp h r
    obtain ⟨a, xs, rfl, h1, h2⟩ := h
    cases r
    obtain ⟨o, es, n, ho, hc, hd, off, rk, vs, rv, il⟩ := dict_at J sub h1 h2
    have hz2 : (dictText (PyData.shownKv (dP ps))).length ≤ sizeLine := by simpa only [T.d, PyData.shown] using hz
    obtain ⟨s1, s2⟩ := PyData.showableKv_split (dP ps) (by simpa only [T.d, PyData.showable] using hs)
    obtain ⟨bs, hb, hk⟩ := IsD.shows J sub ps vs _ (by simpa only [T.plain] using hp) (by rw [← dP_vals]; exact s2) (fun y m => by
      rw [← dP_vals] at m
      obtain ⟨q, hq, le⟩ := PyData.shownKv_val_le (dP ps) y m
      exact Nat.le_trans le (Nat.le_trans (dictText_mem_le hq) hz2)) il rv
    rw [← dP_vals] at hb hk
    obtain ⟨cs, hcs, he⟩ := dict_parts rk s1 (fun y m => by
      obtain ⟨q, hq, le⟩ := PyData.shownKv_key_le (dP ps) y m
      exact Nat.le_trans le (Nat.le_trans (dictText_mem_le hq) hz2)) hk hb
    have deep : PyData.depthKv (dP ps) < (T.d (.dct ps)).depth := by
      simp only [T.d, PyData.depth]
      omega
    refine ⟨a :: cs, hcs.cons rd (Nat.le_of_lt deep), ?_⟩
    have away := not_mem_of_deeper rd deep hcs
    simp only [T.d, PyData.depth, PyData.shown]
    exact ReprK.dict ho hc hd off away he
  | .ins _ _, _, _, hp, _, _, _, _ => by cases hp
  | .adr _, _, _, hp, _, _, _, _ => by cases hp
  | .exc _ _ _ _ _, _, _, hp, _, _, _, _ => by cases hp
  | .ltp _, _, _, hp, _, _, _, _ => by cases hp
  | .exv _ _, _, _, hp, _, _, _, _ => by cases hp
theorem IsL.shows (J : Inv X pins σ H s) (sub : Same I H) : ∀ (ts : List T) (vs : List V) (us : List Value), plainL ts = true → PyData.showableAll (dL ts) = true → (∀ y ∈ PyData.shownAll (dL ts), y.length ≤ sizeLine) → IsL X.K I ts vs → Vals vs us →
    ∃ bs, ReadAtMost s.heap (PyData.depthAll (dL ts)) bs ∧ ReprAllK X.prog X.w bs s.heap (PyData.depthAll (dL ts)) us (PyData.shownAll (dL ts))
  | [], _, _, _, _, _, h, r => by
    have h : _ = [] := h
    subst h
    cases r
    exact ⟨[], (fun _ m => by cases m), .nil⟩
  | t :: ts, _, _, hp, hs, hz, h, r => by
    obtain ⟨x, xr, rfl, h1, h2⟩ := h
    cases r with
    | cons r1 r2 =>
      simp only [plainL, Bool.and_eq_true] at hp
      simp only [dL, PyData.showableAll, Bool.and_eq_true] at hs
      simp only [dL, PyData.shownAll] at hz
      obtain ⟨bs, b1, k1⟩ := Is.shows J sub t x _ hp.1 hs.1 (hz _ List.mem_cons_self) h1 r1
      obtain ⟨cs, b2, k2⟩ := IsL.shows J sub ts xr _ hp.2 hs.2 (fun y m => hz y (List.mem_cons_of_mem _ m)) h2 r2
      have d1 : t.d.depth ≤ PyData.depthAll (dL (t :: ts)) := by
        simp only [dL, PyData.depthAll]
        omega
      have d2 : PyData.depthAll (dL ts) ≤ PyData.depthAll (dL (t :: ts)) := by
        simp only [dL, PyData.depthAll]
        omega
      exact ⟨bs ++ cs, (b1.mono d1).append (b2.mono d2), .cons ((k1.more fun _ m => List.mem_append.mpr (.inl m)).level_le d1) (k2.more_le (fun _ m => List.mem_append.mpr (.inr m)) d2)⟩
theorem IsD.shows (J : Inv X pins σ H s) (sub : Same I H) : ∀ (ps : List (Key × T)) (vs : List V) (us : List Value), plainP ps = true → PyData.showableAll (dL (ps.map (·.2))) = true → (∀ y ∈ PyData.shownAll (dL (ps.map (·.2))), y.length ≤ sizeLine) → IsL X.K I (ps.map (·.2)) vs → Vals vs us →
    ∃ bs, ReadAtMost s.heap (PyData.depthAll (dL (ps.map (·.2)))) bs ∧ ReprAllK X.prog X.w bs s.heap (PyData.depthAll (dL (ps.map (·.2)))) us (PyData.shownAll (dL (ps.map (·.2))))
  | [], _, _, _, _, _, h, r => by
    have h : _ = [] := h
    subst h
    cases r
    exact ⟨[], (fun _ m => by cases m), .nil⟩
  | (k, t) :: ps, _, _, hp, hs, hz, h, r => by
    obtain ⟨x, xr, rfl, h1, h2⟩ := h
    cases r with
    | cons r1 r2 =>
      simp only [plainP, Bool.and_eq_true] at hp
      simp only [List.map_cons, dL, PyData.showableAll, Bool.and_eq_true] at hs
      simp only [List.map_cons, dL, PyData.shownAll] at hz
      obtain ⟨bs, b1, k1⟩ := Is.shows J sub t x _ hp.1 hs.1 (hz _ List.mem_cons_self) h1 r1
      obtain ⟨cs, b2, k2⟩ := IsD.shows J sub ps xr _ hp.2 hs.2 (fun y m => hz y (List.mem_cons_of_mem _ m)) h2 r2
      have d1 : t.d.depth ≤ PyData.depthAll (dL (((k, t) :: ps).map (·.2))) := by
        simp only [List.map_cons, dL, PyData.depthAll]
        omega
      have d2 : PyData.depthAll (dL (ps.map (·.2))) ≤ PyData.depthAll (dL (((k, t) :: ps).map (·.2))) := by
        simp only [List.map_cons, dL, PyData.depthAll]
        omega
      exact ⟨bs ++ cs, (b1.mono d1).append (b2.mono d2), .cons ((k1.more fun _ m => List.mem_append.mpr (.inl m)).level_le d1) (k2.more_le (fun _ m => List.mem_append.mpr (.inr m)) d2)⟩
end
end
/-- what repr shows, wherever the lists stand -/
def showOk2 (t : T) : Bool := t.plain && t.d.showable && decide (t.d.depth ≤ 60) && decide (t.d.shown.length ≤ sizeLine)
def reprT2 : List T → Option T
  | [t] => if showOk2 t = true then some (.str t.show) else none
  | _ => none
section
variable {X : Cx}
def rRepr2 (K : PySem.W.Frag) : List V → Hp → VK → Prop := fun xs H Q => ∃ I t x, Same I H ∧ xs = [x] ∧ Is K I t x ∧ showOk2 t = true ∧ Q (.str t.show) H
theorem call_repr2 (gd : X.A.guards = some []) (hu : X.A.units + 64 < cLine) : CallR X (.builtin "repr") (rRepr2 X.K) := by
  intro pins s σ H xs us Q J r h
  obtain ⟨I, t, x, sub, rfl, ix, ok, q⟩ := h
  obtain ⟨u, rfl, rx⟩ := r.one
  unfold showOk2 at ok
  simp only [Bool.and_eq_true, decide_eq_true_eq] at ok
  obtain ⟨⟨⟨o1, o2⟩, o4⟩, o5⟩ := ok
  have q : Q (.str t.d.shown) H := q
  have fin : ∀ (h' : Heap) (tk : Tok) (n : Nat), (∀ b o, s.heap.get? b = some o → h'.get? b = some o) → EP X pins σ Q (.str t.d.shown tk) { s with heap := h', toks := n } := fun h' tk n hk => ⟨.str _, H, J.kept hk, ⟨tk, rfl⟩, q⟩
  cases t with
  | non =>
    cases (show x = V.non from ix)
    cases rx
    exact PySem.P.repr_of_none (fin s.heap _ _ fun _ _ z => z)
  | bl b =>
    cases (show x = V.bl b from ix)
    cases rx
    refine PySem.P.repr_of_bool ?_
    cases b
    · exact fin s.heap _ _ fun _ _ z => z
    · exact fin s.heap _ _ fun _ _ z => z
  | int i =>
    cases (show x = V.int i from ix)
    obtain ⟨tk, rfl⟩ := rx
    exact PySem.P.repr_of_int (of_decide_eq_true o2) (fin s.heap _ _ fun _ _ z => z)
  | str y =>
    cases (show x = V.str y from ix)
    obtain ⟨tk, rfl⟩ := rx
    exact PySem.P.repr_of_str (fin s.heap _ _ fun _ _ z => z) o5
  | lst ts =>
    obtain ⟨as, rd, _⟩ := Is.reads J sub (.lst ts) x u o1 ix rx
    obtain ⟨a, ys, rfl, h1, h2⟩ := ix
    cases rx
    obtain ⟨its, rv, ⟨o, n, ho, hc, _, hd⟩, _⟩ := J.list (.of (sub _ _ h1))
    have hz : (listText (PyData.shownAll (dL ts))).length ≤ sizeLine := by simpa only [T.d, PyData.shown] using o5
    obtain ⟨bs, hb, hk⟩ := IsL.shows J sub ts ys its (by simpa only [T.plain] using o1) (by simpa only [T.d, PyData.showable] using o2) (shownL_le hz) h2 rv
    have deep : PyData.depthAll (dL ts) < (T.d (.lst ts)).depth := by
      simp only [T.d, PyData.depth]
      omega
    have away := not_mem_of_deeper rd deep hb
    refine call_repr_slot (by omega) ⟨o, ho, hc⟩ F.slot_list_repr.toG ?_
    have fin2 : ∀ (h' : Heap) (tk : Tok) (n : Nat), (∀ b o, s.heap.get? b = some o → h'.get? b = some o) → ∃ y t', Value.str (listText (PyData.shownAll (dL ts))) tk = .str y t' ∧ EP X pins σ Q (.str (listText (PyData.shownAll (dL ts))) tk) { s with heap := h', toks := n } := fun h' tk n k => ⟨_, _, rfl, by simpa only [T.d, PyData.shown] using fin h' tk n k⟩
    have du : X.A.in1.units + (PyData.depthAll (dL ts) + 1) < cLine := by
      have : (T.d (.lst ts)).depth = PyData.depthAll (dL ts) + 1 := by simp only [T.d, PyData.depth]
      show X.A.units + 1 + _ < _
      omega
    cases its with
    | nil =>
      have e : PyData.shownAll (dL ts) = [] := List.length_eq_zero_iff.mp (by simpa using hk.length_eq)
      rw [e, listText_nil] at fin2
      exact call_list_repr_empty ⟨o, ho, hc⟩ ho hd (fin2 s.heap _ _ fun _ _ z => z)
    | cons y l => exact call_list_reprK ho hc hd away (by simpa using hk.length_eq) (fun i z e => hk.item i z (by simpa using e)) gd (fun b _ => Clear.nil b) du (fun _ _ z => z) fin2 hz
  | tup ts =>
    obtain ⟨as, rd, _⟩ := Is.reads J sub (.tup ts) x u o1 ix rx
    obtain ⟨a, ys, rfl, h1, h2⟩ := ix
    cases rx
    obtain ⟨its, rv, ⟨o, ho, hc, n, hd⟩, _⟩ := J.tuple (sqt_mono sub h1.1)
    have hz : (tupleText (PyData.shownAll (dL ts))).length ≤ sizeLine := by simpa only [T.d, PyData.shown] using o5
    obtain ⟨bs, hb, hk⟩ := IsL.shows J sub ts ys its (by simpa only [T.plain] using o1) (by simpa only [T.d, PyData.showable] using o2) (shownT_le hz) h2 rv
    have deep : PyData.depthAll (dL ts) < (T.d (.tup ts)).depth := by
      simp only [T.d, PyData.depth]
      omega
    have away := not_mem_of_deeper rd deep hb
    refine call_repr_slot (by omega) ⟨o, ho, hc⟩ F.slot_tuple_repr ?_
    have fin2 : ∀ (h' : Heap) (tk : Tok) (n : Nat), (∀ b o, s.heap.get? b = some o → h'.get? b = some o) → ∃ y t', Value.str (tupleText (PyData.shownAll (dL ts))) tk = .str y t' ∧ EP X pins σ Q (.str (tupleText (PyData.shownAll (dL ts))) tk) { s with heap := h', toks := n } := fun h' tk n k => ⟨_, _, rfl, by simpa only [T.d, PyData.shown] using fin h' tk n k⟩
    have du : X.A.in1.units + (PyData.depthAll (dL ts) + 1) < cLine := by
      have : (T.d (.tup ts)).depth = PyData.depthAll (dL ts) + 1 := by simp only [T.d, PyData.depth]
      show X.A.units + 1 + _ < _
      omega
    exact call_tuple_reprK ho hc hd away (by simpa using hk) gd (fun b _ => Clear.nil b) du (fun _ _ z => z) fin2 hz
  | dct ps =>
    obtain ⟨as, rd, _⟩ := Is.reads J sub (.dct ps) x u o1 ix rx
    obtain ⟨a, ys, rfl, h1, h2⟩ := ix
    cases rx
    obtain ⟨o, es, n, ho, hc, hd, off, rk, vs, rv, il⟩ := dict_at J sub h1 h2
    have hz2 : (dictText (PyData.shownKv (dP ps))).length ≤ sizeLine := by simpa only [T.d, PyData.shown] using o5
    obtain ⟨s1, s2⟩ := PyData.showableKv_split (dP ps) (by simpa only [T.d, PyData.showable] using o2)
    obtain ⟨bs, hb, hk⟩ := IsD.shows J sub ps vs _ (by simpa only [T.plain] using o1) (by rw [← dP_vals]; exact s2) (fun y m => by
      rw [← dP_vals] at m
      obtain ⟨q, hq, le⟩ := PyData.shownKv_val_le (dP ps) y m
      exact Nat.le_trans le (Nat.le_trans (dictText_mem_le hq) hz2)) il rv
    rw [← dP_vals] at hb hk
    obtain ⟨cs, hcs, he⟩ := dict_parts rk s1 (fun y m => by
      obtain ⟨q, hq, le⟩ := PyData.shownKv_key_le (dP ps) y m
      exact Nat.le_trans le (Nat.le_trans (dictText_mem_le hq) hz2)) hk hb
    have deep : PyData.depthKv (dP ps) < (T.d (.dct ps)).depth := by
      simp only [T.d, PyData.depth]
      omega
    have away := not_mem_of_deeper rd deep hcs
    refine call_repr_slot (by omega) ⟨o, ho, hc⟩ F.slot_dict_repr ?_
    have fin2 : ∀ (h' : Heap) (tk : Tok) (n : Nat), (∀ b o, s.heap.get? b = some o → h'.get? b = some o) → ∃ y t', Value.str (dictText (PyData.shownKv (dP ps))) tk = .str y t' ∧ EP X pins σ Q (.str (dictText (PyData.shownKv (dP ps))) tk) { s with heap := h', toks := n } := fun h' tk n k => ⟨_, _, rfl, by simpa only [T.d, PyData.shown] using fin h' tk n k⟩
    have du : X.A.in1.units + (PyData.depthKv (dP ps) + 1) < cLine := by
      have : (T.d (.dct ps)).depth = PyData.depthKv (dP ps) + 1 := by simp only [T.d, PyData.depth]
      show X.A.units + 1 + _ < _
      omega
    exact call_dict_reprK ho hc hd off away he gd (fun b _ => Clear.nil b) du (fun _ _ z => z) fin2 hz2
  | ins _ _ => cases o1
  | adr _ => cases o1
  | exc _ _ _ _ _ => cases o1
  | ltp _ => cases o1
  | exv _ _ => cases o1
theorem op1_repr2 : Op1 X (rRepr2 X.K) reprT2 := by
  intro Z G I H σ τ s as c xs Q w il e q
  unfold reprT2 at e
  split at e
  · rename_i t
    split at e
    · rename_i ok
      cases e
      obtain ⟨x, rfl, ix⟩ := il.one
      exact ⟨I, t, x, w.sub, rfl, ix, ok, q.here w rfl⟩
    · cases e
  · cases e
end
end L2.TL
/-! TLw: dicts of keys and values side by side. -/
namespace L2.TL
open PySem PySem.Spec
open PyProof.Rows
theorem zipKV {w : World} : ∀ {ks : List Key} {ys : List V} {us : List Value}, Vals ys us → KV (ks.zip ys) (ks.zip us)
  | [], _, _, _ => by
    rw [List.zip_nil_left, List.zip_nil_left]
    exact .nil
  | _ :: _, _, _, .nil => by
    rw [List.zip_nil_right, List.zip_nil_right]
    exact .nil
  | k :: ks, _, _, .cons r t => .cons ⟨rfl, r⟩ (zipKV (w := w) t)
def tDictZip (K : PySem.W.Frag) (ta : TA) : TE := fun σ H Q => ta σ H fun vs H1 => ∃ (a b : Addr) (ks : List Key) (ys : List V), vs = [.ref a, .ref b] ∧ SqL K H1 a (ks.map kV) ∧ SqL K H1 b ys ∧ ks.length = ys.length ∧
  ∀ p, H1 p = none → Q (.ref p) (upd H1 p (.dK (mergeK [] (ks.zip ys))))
theorem pe_dictZip {X : Cx} {e1 e2 : Expr} {ta : TA} {p p2 pos pos2 : Pos} (hc : X.calm = true) (hg : Gl X "dict") (hm : X.mg "dict" = none) (hg2 : Gl X "zip") (hm2 : X.mg "zip" = none) (ha : PA X [e1, e2] ta)
    (hs0 : starEach [.Call (.Name "zip" p2) [e1, e2] [] pos2] X.env = (false, eval (.Call (.Name "zip" p2) [e1, e2] [] pos2) X.env) :: starEach [] X.env := by rfl) (hp0 : (backTo pos (starEach [] X.env)).any (·.1) = false := by rfl)
    (hs : starEach [e1, e2] X.env = (false, eval e1 X.env) :: starEach [e2] X.env := by rfl) (hpl : (backTo pos2 (starEach [e2] X.env)).any (·.1) = false := by rfl) :
    PE X (.Call (.Name "dict" p) [.Call (.Name "zip" p2) [e1, e2] [] pos2] [] pos) (tDictZip X.K ta) := by
  refine ⟨fun pins s σ H Q I h => ?_⟩
  refine wpAny_Call_Name_kw (ld_blt I hg hm (by rfl) ?_ (by decide) (by decide))
  refine PyProof.Rows.callWith_type1 ?_ hs0 hp0
  rw [hs0]
  show wpAny _ _ (spliced ((false, eval (.Call (.Name "zip" p2) [e1, e2] [] pos2) X.env) :: backTo pos (starEach [] X.env))) _ _ s
  refine Calls.spliced_cons ?_
  refine Call_ (ld_blt I hg2 hm2 PyProof.Rows.boot_zip (PyProof.Rows.callWith_type1 (thn (ha.run pos2 pins s σ H _ I h) fun us s1 ⟨vs, H1, I1, r1, q1⟩ => ?_) hs hpl))
  obtain ⟨a, b, ks, ys, ex, hqx, hqy, hlen, q⟩ := q1
  subst ex
  cases r1 with
  | cons r rr =>
    cases rr with
    | cons r' rr =>
      cases rr
      cases r
      cases r'
      obtain ⟨its, rv, p1, z1⟩ := I1.list hqx
      obtain ⟨its2, rv2, p3, z2⟩ := I1.list hqy
      have la : a < s1.heap.objs.size := p1.lt
      have lb : b < s1.heap.objs.size := p3.lt
      have n1 : its.length = ks.length := by
        have := rv.length
        rw [List.length_map] at this
        exact this.symm
      have n2 : its2.length = ys.length := rv2.length.symm
      refine call_zip_2 p1.isList p3.isList fun h' hz hTI hTO h1 h2 hsz hk => Calls.spliced_nil ?_
      have D := PySem.W.ktu_apart s1.heap.objs.size a b la lb
      have kvz : (ks.zip its2).length = its.toArray.size := by
        rw [List.length_zip, List.size_toArray]
        omega
      have hmin : min its.toArray.size its2.toArray.size = ks.length := by
        rw [List.size_toArray, List.size_toArray]
        omega
      refine PySem.call_dict_pairs (knd := mixKind X.prog X.w) (kvs := ks.zip its2) (PairArg.zip (prog := X.prog) (w := X.w) _ _ _ _ _ a b D its.toArray its2.toArray) (I1.ok.hd hc)
        ⟨hz, hTI, ⟨_, _, hTO⟩, h1, h2, p1.isList.at fun o e => hk _ _ e, p3.isList.at fun o e => hk _ _ e⟩ ⟨by rw [List.length_zip]; omega, fun i key v ⟨e1, e2⟩ => ?_⟩ (by rw [hmin]; rw [List.length_map] at z1; exact z1) fun h'' tk hd hk2 => ?_
      · have e1' : its[i]? = some key := by simpa using e1
        have e2' : its2[i]? = some v := by simpa using e2
        have hi : i < ks.length := by
          have := (List.getElem?_eq_some_iff.mp e1').1
          omega
        obtain ⟨u, hu, ru⟩ := rv.get (i := i) (x := kV ks[i]) (by rw [List.getElem?_map, List.getElem?_eq_getElem hi]; rfl)
        rw [e1'] at hu
        cases hu
        refine ⟨ks[i], ?_, kV_is (P := X.prog) (w := X.w) ru⟩
        rw [List.getElem?_zip_eq_some]
        exact ⟨List.getElem?_eq_getElem hi, e2'⟩
      · have old : ∀ c o, s1.heap.get? c = some o → h''.get? c = some o := fun c o e => by
          have lc : c < s1.heap.objs.size := Heap.lt_size e
          refine hk2 c o ?_ (hk c o e)
          intro m
          simp only [List.mem_cons, List.not_mem_nil, or_false] at m
          have : s1.heap.objs.size ≤ c := by
            rcases m with m | m | m | m <;> (rw [m]; first | exact Nat.le_refl _ | exact Nat.le_add_right _ _)
          exact absurd lc (Nat.not_lt.mpr this)
        have hle : s1.heap.objs.size ≤ h'.objs.size := by
          rw [hsz]
          exact Nat.le_add_right _ _
        have hm3 : (h'.objs.size == sysModules) = false := beq_eq_false_iff_ne.mpr (Nat.ne_of_gt (Nat.lt_of_lt_of_le I1.big hle))
        have rel : KV (ks.zip ys) (ks.zip its2) := zipKV (w := X.w) rv2
        have hl2 : (mergeK [] (ks.zip ys)).length ≤ sizeLine := by
          refine Nat.le_trans (length_mergeK (ks.zip ys) []) ?_
          rw [List.length_nil, Nat.zero_add, List.length_zip]
          rw [List.length_map] at z1
          omega
        exact ⟨.ref h'.objs.size, upd H1 h'.objs.size (.dK (mergeK [] (ks.zip ys))), I1.laid (t' := tk) old hle (show ObjOk X.prog X.w _ _ _ (.dK (mergeK [] (ks.zip ys))) from ⟨hl2, hm3, merged [] (ks.zip its2), KV.merge rel .nil, hd⟩), rfl, q _ (I1.hok.fresh hle)⟩
end L2.TL
/-! TLx: dicts told by trees; sorted texts. -/
namespace L2.TL
open PySem PySem.Spec
open PyProof.Rows
def getT (ps : List (Key × T)) (k : Key) : Option T := (ps.find? fun kv => decide (kv.1 = k)).map (·.2)
def putT (ps : List (Key × T)) (k : Key) (t : T) : List (Key × T) :=
  if (ps.any fun kv => decide (kv.1 = k)) = true then ps.map (fun kv => if kv.1 = k then (kv.1, t) else kv) else ps ++ [(k, t)]
def mergeT (ps more : List (Key × T)) : List (Key × T) := more.foldl (fun acc kv => putT acc kv.1 kv.2) ps
section
variable {K : PySem.W.Frag} {I : Hp}
theorem IsD.get : ∀ {ps : List (Key × T)} {xs : List (Key × V)} {k : Key} {t : T}, IsD K I ps xs → getT ps k = some t → ∃ x, valV xs k = some x ∧ Is K I t x
  | [], _, _, _, _, e => by cases e
  | (j, u) :: r, _, k, t, h, e => by
    obtain ⟨x, xr, rfl, h1, h2⟩ := h
    by_cases hk : j = k
    · rw [valV_pos (p := (j, x)) hk]
      unfold getT at e
      rw [List.find?_cons_of_pos (by simpa using hk)] at e
      cases e
      exact ⟨x, rfl, h1⟩
    · rw [valV_neg (p := (j, x)) hk]
      unfold getT at e
      rw [List.find?_cons_of_neg (by simpa using hk)] at e
      exact IsD.get h2 e
theorem IsD.getN : ∀ {ps : List (Key × T)} {xs : List (Key × V)} {k : Key}, IsD K I ps xs → getT ps k = none → valV xs k = none
  | [], _, _, h, _ => by
    have h : _ = [] := h
    subst h
    rfl
  | (j, u) :: r, _, k, h, e => by
    obtain ⟨x, xr, rfl, h1, h2⟩ := h
    by_cases hk : j = k
    · unfold getT at e
      rw [List.find?_cons_of_pos (by simpa using hk)] at e
      cases e
    · rw [valV_neg (p := (j, x)) hk]
      unfold getT at e
      rw [List.find?_cons_of_neg (by simpa using hk)] at e
      exact IsD.getN h2 e
theorem IsD.anyK : ∀ {ps : List (Key × T)} {xs : List (Key × V)} {k : Key}, IsD K I ps xs → (ps.any fun kv => decide (kv.1 = k)) = (xs.any fun kv => decide (kv.1 = k))
  | [], _, _, h => by
    have h : _ = [] := h
    subst h
    rfl
  | (j, u) :: r, _, k, h => by
    obtain ⟨x, xr, rfl, h1, h2⟩ := h
    rw [List.any_cons, List.any_cons, IsD.anyK h2]
theorem IsD.mapK : ∀ {ps : List (Key × T)} {xs : List (Key × V)} {k : Key} {t : T} {v : V}, IsD K I ps xs → Is K I t v → IsD K I (ps.map fun kv => if kv.1 = k then (kv.1, t) else kv) (xs.map fun kv => if kv.1 = k then (kv.1, v) else kv)
  | [], _, _, _, _, h, _ => by
    have h : _ = [] := h
    subst h
    rfl
  | (j, u) :: r, _, k, t, v, h, i => by
    obtain ⟨x, xr, rfl, h1, h2⟩ := h
    have ih := IsD.mapK (k := k) h2 i
    rw [List.map_cons, List.map_cons]
    by_cases hk : j = k
    · rw [if_pos hk, if_pos hk]
      exact ⟨v, _, rfl, i, ih⟩
    · rw [if_neg hk, if_neg hk]
      exact ⟨x, _, rfl, h1, ih⟩
theorem IsD.snoc : ∀ {ps : List (Key × T)} {xs : List (Key × V)} {k : Key} {t : T} {v : V}, IsD K I ps xs → Is K I t v → IsD K I (ps ++ [(k, t)]) (xs ++ [(k, v)])
  | [], _, k, _, v, h, i => by
    have h : _ = [] := h
    subst h
    exact ⟨v, [], rfl, i, rfl⟩
  | (j, u) :: r, _, k, t, v, h, i => by
    obtain ⟨x, xr, rfl, h1, h2⟩ := h
    exact ⟨x, _, rfl, h1, IsD.snoc h2 i⟩
theorem IsD.put {ps : List (Key × T)} {xs : List (Key × V)} {k : Key} {t : T} {v : V} (h : IsD K I ps xs) (i : Is K I t v) : IsD K I (putT ps k t) (putK xs k v) := by
  unfold putT putK
  rw [h.anyK]
  split
  · exact h.mapK i
  · exact h.snoc i
theorem IsD.merge : ∀ {ms : List (Key × T)} {ys : List (Key × V)} {ps : List (Key × T)} {xs : List (Key × V)}, IsD K I ps xs → IsD K I ms ys → IsD K I (mergeT ps ms) (mergeK xs ys)
  | [], _, _, _, h, m => by
    have m : _ = [] := m
    subst m
    exact h
  | (j, u) :: r, _, ps, xs, h, m => by
    obtain ⟨y, yr, rfl, h1, h2⟩ := m
    exact IsD.merge (ps := putT ps j u) (xs := putK xs j y) (h.put h1) h2
end
def keyOf : T → Option Key
  | .int i => some (.inl i)
  | .str x => some (.inr x)
  | _ => none
theorem keyOf_is {K : PySem.W.Frag} {I : Hp} {t : T} {k : Key} {v : V} (h : keyOf t = some k) (i : Is K I t v) : v = kV k := by
  cases t with
  | int n => cases h; exact i
  | str x => cases h; exact i
  | _ => cases h
def keysOf : List T → Option (List Key)
  | [] => some []
  | t :: r => match keyOf t, keysOf r with
    | some k, some ks => some (k :: ks)
    | _, _ => none
theorem keysOf_is {K : PySem.W.Frag} {I : Hp} : ∀ {ts : List T} {ks : List Key} {xs : List V}, keysOf ts = some ks → IsL K I ts xs → xs = ks.map kV
  | [], _, _, h, i => by
    cases h
    exact i
  | t :: r, ks, _, h, i => by
    obtain ⟨x, xr, rfl, h1, h2⟩ := i
    have h : (match keyOf t, keysOf r with
      | some k, some ks => some (k :: ks)
      | _, _ => none) = some ks := h
    split at h
    · rename_i k ks' e1 e2
      cases h
      rw [keyOf_is e1 h1, keysOf_is e2 h2]
      rfl
    · cases h
theorem keysOf_len : ∀ {ts : List T} {ks : List Key}, keysOf ts = some ks → ks.length = ts.length
  | [], _, h => by
    cases h
    rfl
  | t :: r, ks, h => by
    have h : (match keyOf t, keysOf r with
      | some k, some ks => some (k :: ks)
      | _, _ => none) = some ks := h
    split at h
    · rename_i k ks' e1 e2
      cases h
      rw [List.length_cons, List.length_cons, keysOf_len e2]
    · cases h
section
variable {X : Cx} {Z : Res} {o i e f e1 e2 : Expr} {fo fi ff : EF Z} {fs : EFs Z} {p p2 pos pos2 apos cpos : Pos}
def dgetT : T → T → Option T
  | .dct ps, k => match keyOf k with
    | some k => getT ps k
    | none => none
  | _, _ => none
theorem ex_dget (hu : X.A.units + 1 < cLine) (ho : EX X Z o fo) (hi : EX X Z i fi) (hs : NoSl i := by exact fun _ _ => rfl) : EX X Z (.Subscript o i pos) (x2 dgetT fo fi) := by
  obtain ⟨to, po, h1⟩ := ho
  obtain ⟨ti, pi, h2⟩ := hi
  refine ⟨_, pe_dget hu po pi hs, fun G I H σ τ s a s' Q w h q => ?_⟩
  unfold x2 at h
  split at h
  · rename_i u s1 e1
    split at h
    · rename_i k s2 e2
      split at h
      · rename_i c ec
        cases h
        refine h1 _ _ _ _ _ _ _ _ _ w e1 fun I1 H1 v m1 w1 i1 => h2 _ _ _ _ _ _ _ _ _ w1 e2 fun I2 H2 y m2 w2 i2 => ?_
        unfold dgetT at ec
        split at ec
        · rename_i ps k'
          split at ec
          · rename_i kk ek
            obtain ⟨ad, xs, rfl, ha, hd⟩ := i1.mono m2
            obtain ⟨x, hx, ix⟩ := hd.get ec
            have ey := keyOf_is ek i2
            exact ⟨ad, x, rfl, .inl ⟨xs, kk, .inl (w2.sub _ _ ha), ey, hx.symm⟩, q I2 H2 x (m1.trans m2) w2 ix⟩
          · cases ec
        · cases ec
      · cases h
    · cases h
  · cases h
/-- d.get(k, x) -/
def xGet2 {Z : Res} (fo fi ff : EF Z) : EF Z := fun τ s => match fo τ s with
  | some (.dct ps, s1) => match fi τ s1 with
    | some (k, s2) => match ff τ s2 with
      | some (d, s3) => match keyOf k with
        | some k => some ((getT ps k).getD d, s3)
        | none => none
      | none => none
    | none => none
  | _ => none
theorem ex_get2 (hu : X.A.units + 1 < cLine) (ho : EX X Z o fo) (he : EX X Z e fi) (hf : EX X Z f ff) (m : M2 X o "get" apos e f cpos) : EX X Z (.Call (.Attribute o "get" apos) [e, f] [] cpos) (xGet2 fo fi ff) := by
  obtain ⟨to, po, h1⟩ := ho
  obtain ⟨ti, pi, h2⟩ := he
  obtain ⟨tf, pf, h3⟩ := hf
  refine ⟨_, pe_dget2 hu po pi pf m, fun G I H σ τ s a s' Q w h q => ?_⟩
  unfold xGet2 at h
  split at h
  · rename_i ps s1 e1
    split at h
    · rename_i k s2 e2
      split at h
      · rename_i d s3 e3
        split at h
        · rename_i kk ek
          cases h
          refine h1 _ _ _ _ _ _ _ _ _ w e1 fun I1 H1 v m1 w1 i1 => ?_
          obtain ⟨ad, xs, rfl, ha, hd⟩ := i1
          refine ⟨ad, rfl, .inl ⟨xs, .inl (w1.sub _ _ ha)⟩, h2 _ _ _ _ _ _ _ _ _ w1 e2 fun I2 H2 y m2 w2 i2 => h3 _ _ _ _ _ _ _ _ _ w2 e3 fun I3 H3 z m3 w3 i3 => ?_⟩
          have ey := keyOf_is ek (i2.mono m3)
          have hd3 := hd.mono (m2.trans m3)
          refine ⟨valV xs kk, .inl ⟨xs, kk, .inl (w3.sub _ _ ((m2.trans m3) _ _ ha)), ey, rfl⟩, q I3 H3 _ ((m1.trans m2).trans m3) w3 ?_⟩
          cases eg : getT ps kk with
          | none =>
            rw [hd3.getN eg]
            exact i3
          | some t =>
            obtain ⟨x, hx, ix⟩ := hd3.get eg
            rw [hx]
            exact ix
        · cases h
      · cases h
    · cases h
  · cases h
/-- dict(zip(a, b)) -/
def xDictZip {Z : Res} (fs : EFs Z) : EF Z := fun τ s => match fs τ s with
  | some ([.lst ks, .lst ts], s') => match keysOf ks with
    | some kk => if kk.length = ts.length then some (.dct (mergeT [] (kk.zip ts)), s') else none
    | none => none
  | _ => none
theorem en_dictZip (hc : X.calm = true) (hg : Gl X "dict") (hm : X.mg "dict" = none) (hg2 : Gl X "zip") (hm2 : X.mg "zip" = none) (ha : EL X Z [e1, e2] fs)
    (hs0 : starEach [.Call (.Name "zip" p2) [e1, e2] [] pos2] X.env = (false, eval (.Call (.Name "zip" p2) [e1, e2] [] pos2) X.env) :: starEach [] X.env := by rfl) (hp0 : (backTo pos (starEach [] X.env)).any (·.1) = false := by rfl)
    (hs : starEach [e1, e2] X.env = (false, eval e1 X.env) :: starEach [e2] X.env := by rfl) (hpl : (backTo pos2 (starEach [e2] X.env)).any (·.1) = false := by rfl) :
    EN X Z (.Call (.Name "dict" p) [.Call (.Name "zip" p2) [e1, e2] [] pos2] [] pos) (xDictZip fs) := by
  obtain ⟨t, pa, h1⟩ := ha
  refine ⟨_, pe_dictZip hc hg hm hg2 hm2 pa hs0 hp0 hs hpl, fun G I H σ τ s a s' Q w h q => ?_⟩
  unfold xDictZip at h
  split at h
  · rename_i ks ts s1 ea
    split at h
    · rename_i kk ek
      split at h
      · rename_i hl
        cases h
        refine h1 _ _ _ _ _ _ _ _ _ w ea fun I1 H1 vs m1 w1 i1 => ?_
        obtain ⟨x, y, rfl, ix, iy⟩ := i1.two
        obtain ⟨ax, xs, rfl, hax, ilx⟩ := ix
        obtain ⟨ay, ys, rfl, hay, ily⟩ := iy
        have ex := keysOf_is ek ilx
        subst ex
        refine ⟨ax, ay, kk, ys, rfl, SqL.of (w1.sub _ _ hax), SqL.of (w1.sub _ _ hay), by rw [ily.len]; exact hl, fun p hp => HandF.new w1 (fun I2 H2 p o m2 => q I2 H2 p o (m1.trans m2)) hp ?_⟩
        exact IsD.merge (show IsD X.K I1 [] [] from rfl) (zip_isD ily)
      · cases h
    · cases h
  · cases h
end
/-! ### sorted texts -/
def leS (x y : Str) : Bool := !sLt y x
def sortS (l : List Str) : List Str := l.mergeSort leS
theorem leS_iff {x y : Str} : leS x y = true ↔ x.cps.toList ≤ y.cps.toList := by
  unfold leS sLt
  rw [Bool.not_eq_true', decide_eq_false_iff_not]
  exact List.not_lt
theorem leS_trans (x y z : Str) (h : leS x y = true) (k : leS y z = true) : leS x z = true := leS_iff.mpr (List.le_trans (leS_iff.mp h) (leS_iff.mp k))
theorem leS_total (x y : Str) : (leS x y || leS y x) = true := by
  rw [Bool.or_eq_true]
  exact (List.le_total x.cps.toList y.cps.toList).imp leS_iff.mpr leS_iff.mpr
theorem leS_anti {x y : Str} (h : leS x y = true) (k : leS y x = true) : x = y := by
  have e := List.le_antisymm (leS_iff.mp h) (leS_iff.mp k)
  cases x
  cases y
  simpa using e
theorem rising_pair : ∀ (l : List Str) (p : Str), risingS p l = true → (∀ y ∈ l, leS p y = true) ∧ l.Pairwise fun a b => leS a b = true
  | [], _, _ => ⟨fun _ m => (by cases m), .nil⟩
  | x :: r, p, h => by
    have h : (!ltCps x.cps.toList p.cps.toList && risingS x r) = true := h
    rw [Bool.and_eq_true] at h
    obtain ⟨h1, h2⟩ := rising_pair r x h.2
    have hp : leS p x = true := by
      unfold leS sLt
      rw [← ltCps_eq]
      exact h.1
    refine ⟨fun y m => ?_, List.pairwise_cons.mpr ⟨h1, h2⟩⟩
    rcases List.mem_cons.mp m with rfl | m
    · exact hp
    · exact leS_trans _ _ _ hp (h1 y m)
theorem sortedS_pair : ∀ l : List Str, sortedS l = true → l.Pairwise fun a b => leS a b = true
  | [], _ => .nil
  | x :: r, h => by
    obtain ⟨h1, h2⟩ := rising_pair r x h
    exact List.pairwise_cons.mpr ⟨h1, h2⟩
theorem sortS_uniq {l m : List Str} (hp : m.Perm l) (h : sortedS m = true) : m = sortS l :=
  List.Perm.eq_of_pairwise (fun _ _ _ _ a b => leS_anti a b) (sortedS_pair m h) (List.pairwise_mergeSort leS_trans leS_total l) (hp.trans (List.mergeSort_perm l leS).symm)
end L2.TL
/-! TLy: sorted tuples that begin with different texts. -/
namespace L2.TL
open PySem PySem.Spec
open PyProof.Rows
section
variable {prog : Program} {w : World} {A : Around} {s : Shared}
theorem eqB_self {E : Value → Shared → Prop} {v : Value} {Q : Bool → Shared → Prop} (h : Q true s) : wpAny (model prog w) A (eqBool v v) Q E s := by
  unfold eqBool
  refine wpAny_holding ?_
  rw [if_pos (by simp)]
  refine wpAny_bind (wpAny_rule ?_)
  exact wpAny_pure h
theorem kat_self {b fin : Bool} {Q : Bool → Shared → Prop} (h : Q fin s) : ∀ (l : List Value) (i : Nat), PySem.W.KatLex prog w A b fin Q (l.zip l) i s
  | [], _ => PySem.W.kat_nil h
  | v :: r, i => PySem.W.kat_cons (eqB_self (PySem.W.kat_yes (kat_self h r (i + 1))))
/-- v is a tuple that begins with the text x -/
def TupS (h : Heap) (v : Value) (x : Str) : Prop := ∃ (a : Addr) (o : Obj) (t : Tok) (rest : List Value) (n : Nat), v = .ref a ∧ h.get? a = some o ∧ o.cls = .type "tuple" ∧ o.data = .seq (Value.str x t :: rest).toArray n
theorem TupS.keeps {h h' : Heap} {v : Value} {x : Str} (p : TupS h v x) (k : ∀ b o, h.get? b = some o → o.cls = .type "tuple" → h'.get? b = some o) : TupS h' v x := by
  obtain ⟨a, o, t, rest, n, e, ho, hc, hd⟩ := p
  exact ⟨a, o, t, rest, n, e, k _ _ ho hc, hc, hd⟩
theorem firsts_cmp {vs : List Value} {k : Value → Str} (hp : ∀ v ∈ vs, TupS s.heap v (k v)) (inj : ∀ v ∈ vs, ∀ u ∈ vs, k v = k u → v = u) : SrtO.Cmp prog w A s (tuples' true) (fun p => p.1 ∈ vs) (SrtO.lt2 fun v u => sLt (k v) (k u)) := by
  intro p q hm hm'
  have h1 := hp _ hm
  have h2 := hp _ hm'
  show wpAny (model prog w) A (keyLt' (tuples' true) p.1 q.1) (fun r s' => s' = s ∧ r = sLt (k p.1) (k q.1)) (fun _ _ => False) s
  by_cases e : k p.1 = k q.1
  · have ev := inj _ hm _ hm' e
    rw [← ev]
    obtain ⟨a, o, t, rest, n, e1, ho, hc, hd⟩ := h1
    have no : sLt (k p.1) (k p.1) = false := decide_eq_false (List.lt_irrefl _)
    rw [no, e1]
    refine PySem.W.kat_lt ho hd ho hd (kat_self ⟨rfl, ?_⟩ _ 0)
    exact decide_eq_false (Nat.lt_irrefl _)
  · obtain ⟨a, o, t, rest, n, e1, ho, hc, hd⟩ := h1
    obtain ⟨a', o', t', rest', n', e1', ho', hc', hd'⟩ := h2
    generalize k p.1 = x at *
    generalize k q.1 = y at *
    rw [e1, e1']
    refine PySem.W.kat_lt ho hd ho' hd' ?_
    show PySem.W.KatLex prog w A true _ _ ((Value.str x t, Value.str y t') :: (rest.zip rest')) 0 s
    refine PySem.W.kat_cons (wpAny_eqBool_str ?_)
    rw [decide_eq_false e]
    refine PySem.W.kat_no ?_
    exact oneLt_str ⟨rfl, rfl⟩
theorem firsts_tups {h : Heap} : ∀ {vs : List Value} {k : Value → Str}, (∀ v ∈ vs, TupS h v (k v)) → ∃ fs, PySem.W.KatTups h vs fs ∧ fs.length = vs.length ∧ ∀ f ∈ fs, ∃ x t, f = Value.str x t
  | [], _, _ => ⟨[], PySem.W.KatTups.nil, rfl, fun _ m => by cases m⟩
  | v :: vs, k, hp => by
    obtain ⟨fs, h1, h2, h3⟩ := firsts_tups (vs := vs) (k := k) fun u m => hp u (List.mem_cons_of_mem _ m)
    obtain ⟨a, o, t, rest, n, rfl, ho, hc, hd⟩ := hp v List.mem_cons_self
    refine ⟨Value.str (k (.ref a)) t :: fs, PySem.W.KatTups.cons ho hc hd (by simp) h1, by simp [h2], fun f m => ?_⟩
    rcases List.mem_cons.mp m with rfl | m
    · exact ⟨_, _, rfl⟩
    · exact h3 f m
theorem swo_sLt {α : Type} (k : α → Str) : SrtO.Swo fun v u => sLt (k v) (k u) := by
  refine ⟨fun x y h => ?_, fun x y z h1 h2 => ?_⟩
  · have h := of_decide_eq_true h
    exact decide_eq_false fun q => List.lt_irrefl _ (List.lt_trans h q)
  · have h1 := of_decide_eq_false h1
    have h2 := of_decide_eq_false h2
    exact decide_eq_false (List.not_lt.mpr (List.le_trans (List.not_lt.mp h1) (List.not_lt.mp h2)))
theorem sorted_firsts {E : Value → Shared → Prop} {l : Addr} {vs : List Value} {k : Value → Str} {Q : Value → Shared → Prop} (hl : s.heap.IsList l vs.toArray) (hz : vs.length ≤ sizeLine) (hp : ∀ v ∈ vs, TupS s.heap v (k v)) (inj : ∀ v ∈ vs, ∀ u ∈ vs, k v = k u → v = u)
    (h : ∀ (h' : Heap) (d : Addr) (out : List Value), SrtO.Srtd (fun v u => sLt (k v) (k u)) out → out.Perm vs → (∀ b o, s.heap.get? b = some o → h'.get? b = some o) → s.heap.objs.size ≤ d → (∃ n, h'.get? d = some (seqObj "list" out.toArray n)) → Q (.ref d) { s with heap := h' }) :
    wpAny (model prog w) A (call (.builtin "sorted") [.ref l]) Q E s := by
  refine SrtO.sorted_ord (swo_sLt k) hl hz (fun h2 h₁ a ha kk => ?_) fun out hs hb => ?_
  · intro h' keep
    have ka : ∀ o, h₁.get? a = some o → o.cls ≠ .type "tuple" := fun o e c => by
      rw [ha] at e
      cases e
      exact absurd (Value.type.inj c) (by decide)
    have hp' : ∀ v ∈ vs, TupS h' v (k v) := fun v m => (hp v m).keeps fun b o e c => keep b o (fun z => by
      subst z
      exact ka o (kk _ _ e).2 c) (kk _ _ e).2
    obtain ⟨fs, h1, h3, h4⟩ := firsts_tups hp'
    refine ⟨tuples' true, fun Q E hq => ?_, firsts_cmp (s := { s with heap := h' }) hp' inj⟩
    refine PySem.W.kat_kind (s := { s with heap := h' }) (T := .type "str") h1 (by omega) (fun f hm => ?_) (by rfl) ?_
    · obtain ⟨x, t, rfl⟩ := h4 f hm
      exact PySem.W.Looks.now
    · have e : (Value.type "str" != Value.type "tuple") = true := by first | decide +kernel | rfl | decide
      rw [e]
      exact hq
  · exact h _ _ out hs hb.perm (fun b o e => sortedAll_old e) (Nat.le_succ _) (sortedAll_at s.heap vs out.toArray)
end
end L2.TL
/-! TLz: sorted, for trees. -/
namespace L2.TL
open PySem PySem.Spec
open PyProof.Rows
theorem TupS.det {h : Heap} {v : Value} {x y : Str} (p : TupS h v x) (q : TupS h v y) : x = y := by
  obtain ⟨a, o, t, rest, n, rfl, ho, _, hd⟩ := p
  obtain ⟨a', o', t', rest', n', e, ho', _, hd'⟩ := q
  cases e
  rw [ho] at ho'
  cases ho'
  rw [hd] at hd'
  injection hd' with e1 _
  have : Value.str x t :: rest = Value.str y t' :: rest' := by simpa using congrArg Array.toList e1
  injection this with e2 _
  injection e2
open Classical in
noncomputable def tupKey (h : Heap) (v : Value) : Str := if q : ∃ x, TupS h v x then Classical.choose q else ""
theorem tupKey_eq {h : Heap} {v : Value} {x : Str} (p : TupS h v x) : tupKey h v = x := by
  unfold tupKey
  rw [dif_pos ⟨x, p⟩]
  exact (Classical.choose_spec (⟨x, p⟩ : ∃ x, TupS h v x)).det p
abbrev leK {α : Type} (a b : Str × α) : Bool := leS a.1 b.1
/-- sorted(xs), each item a tuple that begins with a text, the texts different -/
def rSortedF (K : PySem.W.Frag) : List V → Hp → VK → Prop := fun vs H Q => ∃ (a : Addr) (xs : List V) (ks : List Str), vs = [V.ref a] ∧ SqL K H a xs ∧ Paired (fun x k => ∃ t rest, x = V.ref t ∧ SqT K H t (V.str k :: rest)) xs ks ∧ ks.Nodup ∧
  ∀ (L : List (Str × V)) (p : Addr), L.Perm (ks.zip xs) → L.Pairwise (fun a b => leK a b = true) → H p = none → Q (.ref p) (upd H p (.lst (L.map (·.2))))
section
variable {X : Cx}
theorem tups_of {pins : List (Addr × Obj)} {s : Shared} {σ : St} {H : Hp} (J : Inv X pins σ H s) : ∀ {xs : List V} {ks : List Str} {us : List Value}, Paired (fun x k => ∃ t rest, x = V.ref t ∧ SqT X.K H t (V.str k :: rest)) xs ks → Vals xs us →
    us.map (fun u => (tupKey s.heap u, backV u)) = ks.zip xs ∧ (∀ u ∈ us, TupS s.heap u (tupKey s.heap u) ∧ tupKey s.heap u ∈ ks ∧ u = Value.ref (match u with | .ref a => a | _ => 0))
  | _, _, _, .nil, .nil => ⟨rfl, fun _ m => by cases m⟩
  | _, _, _, .cons (a := x) (b := k) h t, .cons (b := u) r rt => by
    obtain ⟨e1, e2⟩ := tups_of J t rt
    obtain ⟨ta, rest, rfl, hq⟩ := h
    cases r
    obtain ⟨its, rv, ⟨o, ho, hc, n, hd⟩, _⟩ := J.tuple hq
    obtain ⟨y, yr, rfl, ry⟩ : ∃ y yr, its = y :: yr ∧ RelV (V.str k) y := by
      cases rv with
      | cons r1 r2 => exact ⟨_, _, rfl, r1⟩
    obtain ⟨tk, rfl⟩ := ry
    have p : TupS s.heap (.ref ta) k := ⟨ta, o, tk, yr, n, rfl, ho, hc, hd⟩
    have ek := tupKey_eq p
    refine ⟨?_, fun u m => ?_⟩
    · rw [List.map_cons, e1, ek]
      rfl
    · rcases List.mem_cons.mp m with rfl | m
      · rw [ek]
        exact ⟨p, List.mem_cons_self, rfl⟩
      · obtain ⟨q1, q2, q3⟩ := e2 u m
        exact ⟨q1, List.mem_cons_of_mem _ q2, q3⟩
theorem zip_nodup {α : Type} : ∀ {ks : List Str} {xs : List α}, ks.Nodup → ∀ a ∈ ks.zip xs, ∀ b ∈ ks.zip xs, a.1 = b.1 → a = b
  | [], _, _, a, h, _, _, _ => by cases h
  | _ :: _, [], _, a, h, _, _, _ => by cases h
  | k :: ks, x :: xs, hn, a, ha, b, hb, e => by
    obtain ⟨h1, h2⟩ := List.nodup_cons.mp hn
    rw [List.zip_cons_cons] at ha hb
    rcases List.mem_cons.mp ha with rfl | ha
    · rcases List.mem_cons.mp hb with rfl | hb
      · rfl
      · exact absurd ((List.of_mem_zip hb).1) (by rw [← e]; exact h1)
    · rcases List.mem_cons.mp hb with rfl | hb
      · exact absurd ((List.of_mem_zip ha).1) (by rw [e]; exact h1)
      · exact zip_nodup h2 a ha b hb e
theorem cr_sortedF : CallR X (.builtin "sorted") (rSortedF X.K) := by
  intro pins s σ H vs us Q J r h
  obtain ⟨a, xs, ks, rfl, hs, hp, hn, q⟩ := h
  obtain ⟨its, rv, hl, hz⟩ := J.list hs
  rw [Vals.ref1 r]
  obtain ⟨e1, e2⟩ := tups_of J hp rv
  have allref : ∀ u ∈ its, ∃ a, u = Value.ref a := fun u m => ⟨_, (e2 u m).2.2⟩
  refine sorted_firsts (k := tupKey s.heap) hl.isList (by rw [← rv.length]; exact hz) (fun v m => (e2 v m).1) (fun v hv u hu e => ?_) fun h' d out h1 h2 kp hd hnn => ?_
  · have m1 : (tupKey s.heap v, backV v) ∈ ks.zip xs := by
      rw [← e1]
      exact List.mem_map.mpr ⟨v, hv, rfl⟩
    have m2 : (tupKey s.heap u, backV u) ∈ ks.zip xs := by
      rw [← e1]
      exact List.mem_map.mpr ⟨u, hu, rfl⟩
    have := congrArg Prod.snd (zip_nodup hn _ m1 _ m2 e)
    obtain ⟨x, rfl⟩ := allref v hv
    obtain ⟨y, rfl⟩ := allref u hu
    have this : V.ref x = V.ref y := this
    cases this
    rfl
  · obtain ⟨n, hnn⟩ := hnn
    have h3 : ∀ u ∈ out, ∃ a, u = Value.ref a := fun u hu => allref u (h2.mem_iff.mp hu)
    have fin := q (out.map fun u => (tupKey s.heap u, backV u)) d (by rw [← e1]; exact h2.map _) (List.pairwise_map.mpr (h1.imp fun {x y} z => by
      have z : sLt (tupKey s.heap y) (tupKey s.heap x) = false := z
      show (!sLt (tupKey s.heap y) (tupKey s.heap x)) = true
      rw [z]
      rfl)) (J.hok.fresh hd)
    rw [List.map_map] at fin
    refine ⟨.ref d, upd H d (.lst (out.map backV)), J.laid (t' := s.toks) kp hd ⟨?_, out, n, vals_back h3, hnn⟩, rfl, fin⟩
    rw [List.length_map, h2.length_eq, ← rv.length]
    exact hz
end
def fstT : T → Option Str
  | .tup (.str k :: _) => some k
  | _ => none
def fstsT : List T → Option (List Str)
  | [] => some []
  | t :: r => match fstT t, fstsT r with
    | some k, some ks => some (k :: ks)
    | _, _ => none
/-- trees sorted by the texts that they begin with -/
def sortF (ks : List Str) (ts : List T) : List T := ((ks.zip ts).mergeSort leK).map (·.2)
theorem fstT_is {K : PySem.W.Frag} {I : Hp} {t : T} {k : Str} {x : V} (h : fstT t = some k) (i : Is K I t x) : ∃ a rest, x = V.ref a ∧ SqT K I a (V.str k :: rest) := by
  unfold fstT at h
  split at h
  · rename_i k' r
    cases h
    obtain ⟨a, xs, rfl, hq, il⟩ := i
    obtain ⟨y, yr, rfl, hy, _⟩ := il
    obtain rfl : y = V.str k := hy
    exact ⟨a, yr, rfl, hq.1⟩
  · cases h
theorem fstsT_is {K : PySem.W.Frag} {I H : Hp} (sub : Same I H) : ∀ {ts : List T} {ks : List Str} {xs : List V}, fstsT ts = some ks → IsL K I ts xs → Paired (fun x k => ∃ t rest, x = V.ref t ∧ SqT K H t (V.str k :: rest)) xs ks
  | [], _, _, h, i => by
    cases h
    have i : _ = [] := i
    subst i
    exact .nil
  | t :: r, ks, _, h, i => by
    obtain ⟨x, xr, rfl, h1, h2⟩ := i
    have h : (match fstT t, fstsT r with
      | some k, some ks => some (k :: ks)
      | _, _ => none) = some ks := h
    split at h
    · rename_i k ks' e1 e2
      cases h
      obtain ⟨a, rest, rfl, hq⟩ := fstT_is e1 h1
      exact .cons ⟨a, rest, rfl, sqt_mono sub hq⟩ (fstsT_is sub e2 h2)
    · cases h
theorem leK_trans {α : Type} (a b c : Str × α) (h : leK a b = true) (k : leK b c = true) : leK a c = true := leS_trans _ _ _ h k
theorem leK_total {α : Type} (a b : Str × α) : (leK a b || leK b a) = true := leS_total _ _
theorem zip_isL {K : PySem.W.Frag} {I : Hp} : ∀ {ts : List T} {xs : List V}, IsL K I ts xs → ∀ z ∈ ts.zip xs, Is K I z.1 z.2
  | [], _, _, z, m => by cases m
  | t :: r, _, i, z, m => by
    obtain ⟨x, xr, rfl, h1, h2⟩ := i
    rw [List.zip_cons_cons] at m
    rcases List.mem_cons.mp m with rfl | m
    · exact h1
    · exact zip_isL h2 z m
theorem isL_map {K : PySem.W.Frag} {I : Hp} {α : Type} {f : α → T} {g : α → V} : ∀ {l : List α}, (∀ z ∈ l, Is K I (f z) (g z)) → IsL K I (l.map f) (l.map g)
  | [], _ => rfl
  | z :: r, h => ⟨_, _, rfl, h z List.mem_cons_self, isL_map fun y m => h y (List.mem_cons_of_mem _ m)⟩
theorem sortF_is {K : PySem.W.Frag} {I : Hp} {ks : List Str} {ts : List T} {xs : List V} {L : List (Str × V)} (hn : ks.Nodup) (il : IsL K I ts xs) (hp : L.Perm (ks.zip xs)) (hs : L.Pairwise fun a b => leK a b = true) (hl : ks.length = ts.length) : IsL K I (sortF ks ts) (L.map (·.2)) := by
  have hx : xs.length = ts.length := il.len
  generalize hZ : (ks.zip (ts.zip xs)).mergeSort leK = Z
  have zp : Z.Perm (ks.zip (ts.zip xs)) := by
    rw [← hZ]
    exact List.mergeSort_perm _ _
  have zs : Z.Pairwise fun a b => leK a b = true := by
    rw [← hZ]
    exact List.pairwise_mergeSort leK_trans leK_total _
  have m1 : (ks.zip (ts.zip xs)).map (fun z => (z.1, z.2.2)) = ks.zip xs := by
    have : (fun z : Str × (T × V) => (z.1, z.2.2)) = Prod.map id Prod.snd := by
      funext z
      rfl
    rw [this, ← List.zip_map_right, List.map_snd_zip (by omega)]
  have m2 : (ks.zip (ts.zip xs)).map (fun z => (z.1, z.2.1)) = ks.zip ts := by
    have : (fun z : Str × (T × V) => (z.1, z.2.1)) = Prod.map id Prod.fst := by
      funext z
      rfl
    rw [this, ← List.zip_map_right, List.map_fst_zip (by omega)]
  have eL : L = Z.map fun z => (z.1, z.2.2) := by
    refine List.Perm.eq_of_pairwise (le := fun a b => leK a b = true) (fun a b ha hb h1 h2 => ?_) hs (List.pairwise_map.mpr zs) (hp.trans (by rw [← m1]; exact (zp.map _).symm))
    have ha := hp.mem_iff.mp ha
    have hb : b ∈ ks.zip xs := by
      rw [← m1]
      exact (zp.map _).mem_iff.mp hb
    exact zip_nodup hn a ha b hb (leS_anti h1 h2)
  have eS : (ks.zip ts).mergeSort leK = Z.map fun z => (z.1, z.2.1) := by
    refine List.Perm.eq_of_pairwise (le := fun a b => leK a b = true) (fun a b ha hb h1 h2 => ?_) (List.pairwise_mergeSort leK_trans leK_total _) (List.pairwise_map.mpr zs) ((List.mergeSort_perm _ _).trans (by rw [← m2]; exact (zp.map _).symm))
    have ha := (List.mergeSort_perm (ks.zip ts) leK).mem_iff.mp ha
    have hb : b ∈ ks.zip ts := by
      rw [← m2]
      exact (zp.map _).mem_iff.mp hb
    exact zip_nodup hn a ha b hb (leS_anti h1 h2)
  unfold sortF
  rw [eS, eL, List.map_map, List.map_map]
  exact isL_map fun z m => zip_isL il z.2 ((List.of_mem_zip (a := z.1) (b := z.2) (zp.mem_iff.mp m)).2)
end L2.TL
/-! TLf: calls of sorted, list, dict; f-strings. -/
namespace L2.TL
open PySem PySem.Spec
open PyProof.Rows
def opOr (f g : List T → Option T) : List T → Option T := fun as => match f as with
  | some c => some c
  | none => g as
theorem Op1N.or {X : Cx} {r r' : List V → Hp → VK → Prop} {f g : List T → Option T} (h : Op1N X r f) (h' : Op1N X r' g) : Op1N X (fun xs H Q => r xs H Q ∨ r' xs H Q) (opOr f g) := by
  intro Z G I H σ τ s as c xs Q w il e q
  unfold opOr at e
  split at e
  · rename_i d ed
    cases e
    exact .inl (h Z G I H σ τ s as _ xs Q w il ed q)
  · exact .inr (h' Z G I H σ τ s as c xs Q w il e q)
theorem CallR.either {X : Cx} {v : Value} {r r' : List V → Hp → VK → Prop} (h : CallR X v r) (h' : CallR X v r') : CallR X v (fun xs H Q => r xs H Q ∨ r' xs H Q) :=
  fun pins s σ H xs us Q J rv q => q.elim (h pins s σ H xs us Q J rv) (h' pins s σ H xs us Q J rv)
section
variable {X : Cx}
/-! ### sorted -/
def sortST : List T → Option T
  | [.lst ts] => match strs? ts with
    | some ys => if ys.length < 64 then some (.lst ((sortS ys).map T.str)) else none
    | none => none
  | _ => none
theorem op_sortST : Op1N X (rSortedS X.K) sortST := by
  intro Z G I H σ τ s as c xs Q w il e q
  unfold sortST at e
  split at e
  · rename_i ts
    split at e
    · rename_i ys ey
      split at e
      · rename_i h64
        cases e
        obtain ⟨x, rfl, ix⟩ := il.one
        obtain ⟨a, vs, rfl, ha, iv⟩ := ix
        rw [strs?_eq ey] at iv
        have ev := iv.strs
        subst ev
        refine ⟨a, ys, rfl, SqL.of (w.sub _ _ ha), h64, fun zs p hp hs hn => ?_⟩
        rw [sortS_uniq hp hs]
        exact HandF.new w q hn (show Cn X.K I (.lst ((sortS ys).map T.str)) (.lst ((sortS ys).map V.str)) from IsL.ofStrs _)
      · cases e
    · cases e
  · cases e
def sortFT : List T → Option T
  | [.lst ts] => match fstsT ts with
    | some ks => if ks.Nodup ∧ ks.length = ts.length then some (.lst (sortF ks ts)) else none
    | none => none
  | _ => none
theorem op_sortFT : Op1N X (rSortedF X.K) sortFT := by
  intro Z G I H σ τ s as c xs Q w il e q
  unfold sortFT at e
  split at e
  · rename_i ts
    split at e
    · rename_i ks ek
      split at e
      · rename_i hn
        cases e
        obtain ⟨x, rfl, ix⟩ := il.one
        obtain ⟨a, vs, rfl, ha, iv⟩ := ix
        refine ⟨a, vs, ks, rfl, SqL.of (w.sub _ _ ha), fstsT_is w.sub ek iv, hn.1, fun L p hp hs hf => ?_⟩
        exact HandF.new w q hf (show Cn X.K I (.lst (sortF ks ts)) (.lst (L.map (·.2))) from sortF_is hn.1 iv hp hs hn.2)
      · cases e
    · cases e
  · cases e
def keyStrs : List (Key × T) → Option (List Str)
  | [] => some []
  | (.inr x, _) :: r => match keyStrs r with
    | some ys => some (x :: ys)
    | none => none
  | _ => none
theorem keyStrs_eq : ∀ {ps : List (Key × T)} {ys : List Str}, keyStrs ps = some ys → ps.map (·.1) = ys.map Sum.inr
  | [], _, h => by
    cases h
    rfl
  | (.inl i, _) :: r, _, h => by cases h
  | (.inr x, t) :: r, ys, h => by
    have h : (match keyStrs r with
      | some ys => some (x :: ys)
      | none => none) = some ys := h
    split at h
    · rename_i zs e
      cases h
      rw [List.map_cons, List.map_cons, keyStrs_eq e]
    · cases h
theorem isD_keys {K : PySem.W.Frag} {I : Hp} {ps : List (Key × T)} {xs : List (Key × V)} (h : IsD K I ps xs) : xs.map (·.1) = ps.map (·.1) := (isD_vals h).2
def sortDT : List T → Option T
  | [.dct ps] => match keyStrs ps with
    | some ys => if ys.length < 64 then some (.lst ((sortS ys).map T.str)) else none
    | none => none
  | _ => none
def rSortD : List V → Hp → VK → Prop := fun xs H Q => ∃ (a : Addr) (kvs : List (Key × V)) (ks : List Str), xs = [.ref a] ∧ Rd H a (.dK kvs) ∧ kvs.map (·.1) = ks.map Sum.inr ∧ ks.length < 64 ∧
  ∀ ys p, ys.Perm ks → sortedS ys = true → H p = none → Q (.ref p) (upd H p (.lst (ys.map V.str)))
theorem op_sortDT : Op1N X rSortD sortDT := by
  intro Z G I H σ τ s as c xs Q w il e q
  unfold sortDT at e
  split at e
  · rename_i ps
    split at e
    · rename_i ys ey
      split at e
      · rename_i h64
        cases e
        obtain ⟨x, rfl, ix⟩ := il.one
        obtain ⟨a, vs, rfl, ha, iv⟩ := ix
        refine ⟨a, vs, ys, rfl, .inl (w.sub _ _ ha), by rw [isD_keys iv, keyStrs_eq ey], h64, fun zs p hp hs hn => ?_⟩
        rw [sortS_uniq hp hs]
        exact HandF.new w q hn (show Cn X.K I (.lst ((sortS ys).map T.str)) (.lst ((sortS ys).map V.str)) from IsL.ofStrs _)
      · cases e
    · cases e
  · cases e
def sortedT : List T → Option T := opOr sortST (opOr sortFT sortDT)
def rSortAll (K : PySem.W.Frag) : List V → Hp → VK → Prop := fun xs H Q => rSortedS K xs H Q ∨ (rSortedF K xs H Q ∨ rSortD xs H Q)
theorem call_sorted (hc : X.calm = true) : CallR X (.builtin "sorted") (rSortAll X.K) := CallR.either cr_sortedS (CallR.either cr_sortedF (call_sortedD hc))
theorem op_sorted : Op1N X (rSortAll X.K) sortedT := Op1N.or op_sortST (Op1N.or op_sortFT op_sortDT)
/-! ### list(d) -/
def keyT : Key → T
  | .inl i => .int i
  | .inr x => .str x
theorem keyT_is {K : PySem.W.Frag} {I : Hp} : ∀ ks : List Key, IsL K I (ks.map keyT) (ks.map kV)
  | [] => IsL.nil
  | .inl i :: r => IsL.cons rfl (keyT_is r)
  | .inr x :: r => IsL.cons rfl (keyT_is r)
def listDT : List T → Option T
  | [.dct ps] => some (.lst ((ps.map (·.1)).map keyT))
  | _ => none
def rListDk : List V → Hp → VK → Prop := fun xs H Q => ∃ (a : Addr) (kvs : List (Key × V)), xs = [.ref a] ∧ Rd H a (.dK kvs) ∧ ∀ p, H p = none → Q (.ref p) (upd H p (.lst (kvs.map fun kv => kV kv.1)))
theorem op_listDT : Op1N X rListDk listDT := by
  intro Z G I H σ τ s as c xs Q w il e q
  unfold listDT at e
  split at e
  · rename_i ps
    cases e
    obtain ⟨x, rfl, ix⟩ := il.one
    obtain ⟨a, vs, rfl, ha, iv⟩ := ix
    refine ⟨a, vs, rfl, .inl (w.sub _ _ ha), fun p hn => ?_⟩
    have e : (vs.map fun kv => kV kv.1) = (ps.map (·.1)).map kV := by
      rw [← isD_keys iv, List.map_map]
      rfl
    rw [e]
    exact HandF.new w q hn (show Cn X.K I (.lst ((ps.map (·.1)).map keyT)) (.lst ((ps.map (·.1)).map kV)) from keyT_is _)
  · cases e
/-! ### dict(pairs) -/
def pairsT : List T → Option (List (Key × T))
  | [] => some []
  | .tup [k, t] :: r => match keyOf k, pairsT r with
    | some k, some ps => some ((k, t) :: ps)
    | _, _ => none
  | _ => none
theorem pairsT_is {K : PySem.W.Frag} {I H : Hp} (sub : Same I H) : ∀ {ts : List T} {ps : List (Key × T)} {xs : List V}, pairsT ts = some ps → IsL K I ts xs →
    ∃ (as : List Addr) (kvs : List (Key × V)), xs = as.map V.ref ∧ Paired (fun p kv => SqT K H p [kV kv.1, kv.2]) as kvs ∧ IsD K I ps kvs
  | [], _, _, h, i => by
    cases h
    have i : _ = [] := i
    subst i
    exact ⟨[], [], rfl, .nil, rfl⟩
  | t :: r, ps, _, h, i => by
    obtain ⟨x, xr, rfl, h1, h2⟩ := i
    unfold pairsT at h
    split at h
    · rename_i e0
      cases e0
    · rename_i k u r' e0
      cases e0
      split at h
      · rename_i kk ps' e1 e2
        cases h
        obtain ⟨as, kvs, rfl, hp, hd⟩ := pairsT_is sub e2 h2
        obtain ⟨a, ys, rfl, hq, il⟩ := h1
        obtain ⟨y1, y2, rfl, i1, i2⟩ := il.two
        have := keyOf_is e1 i1
        subst this
        exact ⟨a :: as, (kk, y2) :: kvs, rfl, .cons (sqt_mono sub hq.1) hp, ⟨y2, kvs, rfl, i2, hd⟩⟩
      · cases h
    · cases h
def dictPT : List T → Option T
  | [.lst ts] => match pairsT ts with
    | some ps => some (.dct (mergeT [] ps))
    | none => none
  | _ => none
def rDictP (K : PySem.W.Frag) : List V → Hp → VK → Prop := fun xs H Q => ∃ (a : Addr) (ps : List Addr) (kvs : List (Key × V)), xs = [.ref a] ∧ SqL K H a (ps.map V.ref) ∧ Paired (fun p kv => SqT K H p [kV kv.1, kv.2]) ps kvs ∧
  ∀ p, H p = none → Q (.ref p) (upd H p (.dK (mergeK [] kvs)))
theorem op_dictPT : Op1N X (rDictP X.K) dictPT := by
  intro Z G I H σ τ s as c xs Q w il e q
  unfold dictPT at e
  split at e
  · rename_i ts
    split at e
    · rename_i ps ep
      cases e
      obtain ⟨x, rfl, ix⟩ := il.one
      obtain ⟨a, vs, rfl, ha, iv⟩ := ix
      obtain ⟨as, kvs, rfl, hp, hd⟩ := pairsT_is w.sub ep iv
      exact ⟨a, as, kvs, rfl, SqL.of (w.sub _ _ ha), hp, fun p hn => HandF.new w q hn (show Cn X.K I (.dct (mergeT [] ps)) (.dK (mergeK [] kvs)) from IsD.merge (show IsD X.K I [] [] from rfl) hd)⟩
    · cases e
  · cases e
/-! ### f-strings -/
def catS : Str → List Str → Str
  | acc, [] => acc
  | acc, y :: r => catS (acc ++ y) r
def fitS : Str → List Str → Prop
  | _, [] => True
  | acc, y :: r => (acc ++ y).length ≤ sizeLine ∧ fitS (acc ++ y) r
theorem catS_len : ∀ (ys : List Str) (acc : Str), (catS acc ys).length = acc.length + (ys.map (·.length)).sum
  | [], acc => rfl
  | y :: r, acc => by
    show (catS (acc ++ y) r).length = _
    rw [catS_len r, Str.length_append, List.map_cons, List.sum_cons]
    omega
theorem fitS_of : ∀ (ys : List Str) (acc : Str), acc.length + (ys.map (·.length)).sum ≤ sizeLine → fitS acc ys
  | [], _, _ => trivial
  | y :: r, acc, h => by
    rw [List.map_cons, List.sum_cons] at h
    refine ⟨by rw [Str.length_append]; omega, fitS_of r _ ?_⟩
    rw [Str.length_append]
    omega
end
section
variable {X : Cx} {Z : Res} {e : Expr} {es : List Expr} {f : EF Z} {fs : EFs Z} {pos : Pos}
def fmtT : T → Option T
  | .str x => if x.length ≤ sizeLine then some (.str x) else none
  | _ => none
theorem ex_fmt (h : EX X Z e f) : EX X Z (.FormattedValue e (-1) none pos) (x1 fmtT f) := by
  obtain ⟨t, p, h1⟩ := h
  refine ⟨_, pe_fmt p, fun G I H σ τ s a s' Q w h q => ?_⟩
  unfold x1 at h
  split at h
  · rename_i b s1 eb
    split at h
    · rename_i c ec
      cases h
      unfold fmtT at ec
      split at ec
      · rename_i x
        split at ec
        · rename_i hz
          cases ec
          refine h1 _ _ _ _ _ _ _ _ _ w eb fun I1 H1 v m1 w1 i1 => .inl ⟨x, i1, hz, q I1 H1 _ m1 w1 rfl⟩
        · cases ec
      · cases ec
    · cases h
  · cases h
/-- the parts of an f-string -/
def EJ (X : Cx) (Z : Res) (es : List Expr) (f : EFs Z) : Prop :=
  ∃ ts, PJ X es ts ∧ ∀ acc G I H σ τ s as s' ys Q, Rep X.K Z G I H σ τ s → f τ s = some (as, s') → strs? as = some ys → fitS acc ys → (∀ I' H', Same I I' → Rep X.K Z G I' H' σ τ s' → Q (catS acc ys) H') → tJs ts acc σ H Q
theorem ej_nil : EJ X Z [] xNil := ⟨[], .nil, fun acc G I H σ τ s as s' ys Q w h hs ft q => by
  cases h
  cases hs
  exact q I H (Same.refl _) w⟩
theorem ej_cons (h : EX X Z e f) (hr : EJ X Z es fs) : EJ X Z (e :: es) (xCons f fs) := by
  obtain ⟨t, p, h1⟩ := h
  obtain ⟨ts, ps, h2⟩ := hr
  refine ⟨t :: ts, .cons p ps, fun acc G I H σ τ s as s' ys Q w h hs ft q => ?_⟩
  unfold xCons at h
  split at h
  · rename_i a s1 ea
    split at h
    · rename_i bs s2 eb
      cases h
      have hs0 := strs?_eq hs
      cases ys with
      | nil => cases hs0
      | cons y r =>
        rw [List.map_cons] at hs0
        obtain ⟨rfl, rfl⟩ := List.cons.inj hs0
        refine h1 _ _ _ _ _ _ _ _ _ w ea fun I1 H1 v m1 w1 i1 => ⟨y, i1, ft.1, ?_⟩
        exact h2 _ _ _ _ _ _ _ _ _ _ _ w1 eb (strs?_map r) ft.2 fun I2 H2 m2 w2 => q I2 H2 (m1.trans m2) w2
    · cases h
  · cases h
def xJoin {Z : Res} (fs : EFs Z) : EF Z := fun τ s => match fs τ s with
  | some (as, s') => match strs? as with
    | some ys => if (ys.map (·.length)).sum ≤ sizeLine then some (.str (catS Str.empty ys), s') else none
    | none => none
  | none => none
theorem ex_joined {v1 v2 : Expr} {rest : List Expr} (h : EJ X Z (v1 :: v2 :: rest) fs) : EX X Z (.JoinedStr (v1 :: v2 :: rest) pos) (xJoin fs) := by
  obtain ⟨ts, p, h1⟩ := h
  refine ⟨_, pe_joined p, fun G I H σ τ s a s' Q w h q => ?_⟩
  unfold xJoin at h
  split at h
  · rename_i as s1 ea
    split at h
    · rename_i ys ey
      split at h
      · rename_i hz
        cases h
        refine h1 _ _ _ _ _ _ _ _ _ _ _ w ea ey (fitS_of ys Str.empty ?_) fun I1 H1 m1 w1 => q I1 H1 _ m1 w1 rfl
        have : Str.empty.length = 0 := rfl
        omega
      · cases h
    · cases h
  · cases h
end
end L2.TL
/-! TLg: a dict of one pair; recursion's ground. -/
namespace L2.TL
open PySem PySem.Spec
open PyProof.Rows
section
variable {X : Cx} {Z : Res} {k v : Expr} {fk fv : EF Z} {pos : Pos}
/-- {k: v} -/
def xDict1 {Z : Res} (fk fv : EF Z) : EF Z := fun τ s => match fk τ s with
  | some (a, s1) => match fv τ s1 with
    | some (b, s2) => match keyOf a with
      | some k => some (.dct [(k, b)], s2)
      | none => none
    | none => none
  | none => none
theorem en_dict1 (hk : EX X Z k fk) (hv : EX X Z v fv) : EN X Z (.Dict [some k] [v] pos) (xDict1 fk fv) := by
  obtain ⟨tk, pk, h1⟩ := hk
  obtain ⟨tv, pv, h2⟩ := hv
  refine ⟨_, pe_disp (pps_cons pk pv pps_nil) rfl rfl (by intro z; cases z) (Nat.le_of_ble_eq_true rfl), fun G I H σ τ s a s' Q w h q => ?_⟩
  unfold xDict1 at h
  split at h
  · rename_i a1 s1 e1
    split at h
    · rename_i b1 s2 e2
      split at h
      · rename_i kk ek
        cases h
        intro D hD
        obtain ⟨w1, u⟩ := w.made (o := .dK []) (a := .dct []) hD (show IsD X.K I [] [] from rfl)
        refine h1 _ _ _ _ _ _ _ _ _ (w1.guard u) e1 fun I1 H1 x m1 wa i1 => h2 _ _ _ _ _ _ _ _ _ wa e2 fun I2 H2 y m2 wb i2 => ?_
        obtain ⟨nI, atD⟩ := wb.fr D (.dK []) upd_same
        have nF : ¬ Z.F D := u.nf
        have ex := keyOf_is ek (i1.mono m2)
        subst ex
        refine ⟨atD, [(kk, y)], rfl, (by decide : 1 ≤ 15), ?_⟩
        have em : mergeK [] [(kk, y)] = [(kk, y)] := rfl
        rw [em]
        have w3 := wb.reguard (o' := .dK [(kk, y)]) nF
        have w4 := w3.frame (G' := G) fun p o e => by
          rw [upd_ne (ne_of_none e u.ng)]
          exact e
        exact q I2 _ D (.dK [(kk, y)]) (m1.trans m2) w4 ⟨nI, u.ng, nF, upd_same, ⟨y, [], rfl, i2, rfl⟩, fun i t e => w.notOwned hD i t e⟩
      · cases h
    · cases h
  · cases h
end
section
variable {P : Program} {w : World} {K : PySem.W.Frag} {mg : Str → Option Value} {base : Heap} {Z : Res} {k : Nat} {f : Addr} {fd : FuncData} {N ps : List Str} {x qual : Str} {st : Stmt}
theorem spS_none {vs : List V} {H : Hp} {Q : VK} {E : XK} (h : spS K Z (fun _ _ => none) vs H Q E) : False := by
  obtain ⟨_, _, _, _, _, _, _, _, _, e, _⟩ := h
  cases e
theorem spP_none {vs : List V} {H : Hp} {Q : VK} {E : XK} (h : spP K (fun _ => none) vs H Q E) : False := by
  obtain ⟨_, _, _, _, _, _, _, _, _, e, _⟩ := h
  cases e
/-- a def of which nothing is promised -/
theorem fn_vac (F : Fun K x qual st f fd) (S : FnScope N ps (defScope st)) : FnOk P w K mg base CX0 (k + 1) f fd ps (spS K Z fun _ _ => none) :=
  F.ok S (fun _ _ _ _ h => (spS_none h).elim) fun _ _ _ _ _ _ _ _ _ h => (spS_none h).elim
theorem fn_vacP (F : Fun K x qual st f fd) (S : FnScope N ps (defScope st)) : FnOk P w K mg base CX0 (k + 1) f fd ps (spP K fun _ => none) :=
  F.ok S (fun _ _ _ _ h => (spP_none h).elim) fun _ _ _ _ _ _ _ _ _ h => (spP_none h).elim
end
end L2.TL
namespace L2.TL
open PySem PySem.Spec
open PyProof.Rows
theorem Own1.newO {K : PySem.W.Frag} {Z : Res} {G I H : Hp} {σ : St} {τ : List SV} {p q : Addr} {o u : HO} {a : T} (w : Own1 K Z G I H σ τ p o a) (hq : H q = none) : Own1 K Z G I (upd H q u) σ τ p o a :=
  ⟨w.ni, w.ng, w.nf, by rw [upd_ne (ne_of_none w.at_ hq)]; exact w.at_, w.cn, w.no⟩
section
variable {X : Cx} {Z : Res} {a b : Expr} {f g : EF Z} {pos : Pos}
/-- .. where a name is a cell: a pair is made, and taken apart -/
theorem sx_asgN {i j : Nat} {x y : Str} {k l : Bool} {px py pt : Pos} {kt k2 : Nat} {pt2 : Pos} (hc : X.calm = true) (hN : X.N.Nodup) (hi : X.N[i]? = some x := by rfl) (hj : X.N[j]? = some y := by rfl) (ha : EA X Z k a f) (hb : EA X Z l b g) (hij : i ≠ j := by decide)
    (hx : Loc X.env.scope x := by first | exact Or.inl rfl | exact Or.inr rfl) (hfx : X.fn x = true ∨ X.env.scope.names.lookup x = some .local := by first | exact .inl rfl | exact .inr rfl | assumption)
    (hy : Loc X.env.scope y := by first | exact Or.inl rfl | exact Or.inr rfl) (hfy : X.fn y = true ∨ X.env.scope.names.lookup y = some .local := by first | exact .inl rfl | exact .inr rfl | assumption)
    (h1s : starEach [a, b] X.env = (false, eval a X.env) :: starEach [b] X.env := by rfl) (h2s : starEach [b] X.env = (false, eval b X.env) :: starEach [] X.env := by rfl)
    (hn : (assignEach [.Name x px, .Name y py] X.env).length = 2 := by rfl) (hst : (assignEach [.Name x px, .Name y py] X.env).findIdx? (·.1) = none := by rfl)
    (hc1 : (assignEach [.Name x px, .Name y py] X.env).map (·.2) = assign (.Name x px) X.env :: (assignEach [.Name y py] X.env).map (·.2) := by rfl) (hc2 : (assignEach [.Name y py] X.env).map (·.2) = assign (.Name y py) X.env :: (assignEach [] X.env).map (·.2) := by rfl)
    (hs : swapsWithSole [.Tuple [.Name x px, .Name y py] kt pt] (.Tuple [a, b] k2 pt2) pos.line X.env = pure false := by rfl) (hw : swappedStores [.Tuple [.Name x px, .Name y py] kt pt] (.Tuple [a, b] k2 pt2) X.env = pure none := by rfl)
    (hm : (assignEach [.Tuple [.Name x px, .Name y py] kt pt] X.env).map (·.2) = [assign (.Tuple [.Name x px, .Name y py] kt pt) X.env] := by rfl) :
    SX X Z (.Assign [.Tuple [.Name x px, .Name y py] kt pt] (.Tuple [a, b] k2 pt2) pos) (sParN i j k l f g) := by
  have key : ∀ {ta tb : TE}, PE X a ta → PE X b tb → PS X (.Assign [.Tuple [.Name x px, .Name y py] kt pt] (.Tuple [a, b] k2 pt2) pos) (tAsg (tTup (tCons ta (tCons tb tNil))) (gTup X.K 2 (gCons (gName i) (gCons (gName j) gNil)))) :=
    fun pa pb => ps_asg (pe_tup (pa_cons pa (pa_cons pb pa_nil h2s) h1s)) (pg_tup hc (pgs_cons (pg_name hN hi hx hfx) (pgs_cons (pg_name hN hj hy hfy) pgs_nil hc2) hc1) hn hst) hs hw hm
  have two : ([V.non, V.non] : List V).length ≤ sizeLine := by
    rw [sizeLine_eq]
    show 2 ≤ 16777216
    decide
  cases k with
  | false =>
    obtain ⟨ta, pa, h1⟩ := ha
    cases l with
    | false =>
      obtain ⟨tb, pb, h2⟩ := hb
      refine ⟨_, key pa pb, fun G I H σ τ s o D w h q => ?_⟩
      unfold sParN at h
      split at h
      · rename_i u s1 e1
        split at h
        · rename_i v s2 e2
          split at h
          · rename_i hl
            cases h
            refine h1 _ _ _ _ _ _ _ _ _ w e1 fun I1 H1 y1 m1 w1 i1 => h2 _ _ _ _ _ _ _ _ _ w1 e2 fun I2 H2 y2 m2 w2 i2 => ⟨two, fun p hp => ?_⟩
            have w3 := w2.newO (o := .tup [y1, y2]) hp
            exact ⟨p, _, rfl, SqT.of upd_same, rfl, y1, _, rfl, y2, _, rfl, rfl, q I2 _ _ (m1.trans m2) ((w3.setIm hl.1 (i1.mono m2)).setIm (by rw [List.length_set]; exact hl.2) i2)⟩
          · cases h
        · cases h
      · cases h
    | true =>
      obtain ⟨tb, pb, h2⟩ := hb
      refine ⟨_, key pa pb, fun G I H σ τ s o D w h q => ?_⟩
      unfold sParN at h
      split at h
      · rename_i u s1 e1
        split at h
        · rename_i v s2 e2
          split at h
          · rename_i hl
            cases h
            refine h1 _ _ _ _ _ _ _ _ _ w e1 fun I1 H1 y1 m1 w1 i1 => h2 _ _ _ _ _ _ _ _ _ w1 e2 fun I2 H2 p2 o2 m2 w2 u2 => ⟨two, fun p hp => ?_⟩
            have w3 := w2.newO (o := .tup [y1, .ref p2]) hp
            exact ⟨p, _, rfl, SqT.of upd_same, rfl, y1, _, rfl, _, _, rfl, rfl, q I2 _ _ (m1.trans m2) ((w3.setIm hl.1 (i1.mono m2)).setOw (by rw [List.length_set]; exact hl.2) ((u2.newO hp).setIm (s := s2) w3.len))⟩
          · cases h
        · cases h
      · cases h
  | true =>
    obtain ⟨ta, pa, h1⟩ := ha
    cases l with
    | false =>
      obtain ⟨tb, pb, h2⟩ := hb
      refine ⟨_, key pa pb, fun G I H σ τ s o D w h q => ?_⟩
      unfold sParN at h
      split at h
      · rename_i u s1 e1
        split at h
        · rename_i v s2 e2
          split at h
          · rename_i hl
            cases h
            refine h1 _ _ _ _ _ _ _ _ _ w e1 fun I1 H1 p1 o1 m1 w1 u1 => h2 _ _ _ _ _ _ _ _ _ (w1.guard u1) e2 fun I2 H2 y2 m2 w2 i2 => ⟨two, fun p hp => ?_⟩
            obtain ⟨w3, u3⟩ := u1.later m2 w2
            have w4 := w3.newO (o := .tup [.ref p1, y2]) hp
            exact ⟨p, _, rfl, SqT.of upd_same, rfl, _, _, rfl, y2, _, rfl, rfl, q I2 _ _ (m1.trans m2) ((w4.setOw hl.1 (u3.newO hp)).setIm (by rw [List.length_set]; exact hl.2) i2)⟩
          · cases h
        · cases h
      · cases h
    | true =>
      obtain ⟨tb, pb, h2⟩ := hb
      refine ⟨_, key pa pb, fun G I H σ τ s o D w h q => ?_⟩
      unfold sParN at h
      split at h
      · rename_i u s1 e1
        split at h
        · rename_i v s2 e2
          split at h
          · rename_i hl
            cases h
            refine h1 _ _ _ _ _ _ _ _ _ w e1 fun I1 H1 p1 o1 m1 w1 u1 => h2 _ _ _ _ _ _ _ _ _ (w1.guard u1) e2 fun I2 H2 p2 o2 m2 w2 u2 => ⟨two, fun p hp => ?_⟩
            obtain ⟨w3, u3⟩ := u1.later m2 w2
            have ne : p1 ≠ p2 := fun z => by
              have := u2.ng
              rw [← z, upd_same] at this
              cases this
            have u4 : Own1 X.K Z G I2 H2 σ τ p2 o2 v := ⟨u2.ni, by have := u2.ng; rw [upd_ne ne.symm] at this; exact this, u2.nf, u2.at_, u2.cn, u2.no⟩
            have w4 := w3.newO (o := .tup [.ref p1, .ref p2]) hp
            exact ⟨p, _, rfl, SqT.of upd_same, rfl, _, _, rfl, _, _, rfl, rfl, q I2 _ _ (m1.trans m2) ((w4.setOw hl.1 (u3.newO hp)).setOw (by rw [List.length_set]; exact hl.2) ((u4.newO hp).setOw (s := s2) w4.len hl.1 ne))⟩
          · cases h
        · cases h
      · cases h
end
end L2.TL
namespace L2.TL
open PySem PySem.Spec
open PyProof.Rows
section
variable {X : Cx} {Z : Res} {k : Nat} {f : Addr} {fd : FuncData} {fp : FP} {pos : Pos}
/-- a call without arguments -/
theorem ex_callP0 {x : Str} {p : Pos} (F : FnOk X.prog X.w X.K X.mg X.base CX0 k f fd [] (spP X.K fp)) (hr : Room k X.A) (hg : Gl X x) (hm : X.mg x = some (.ref f)) (hk : PySem.W.keepIn X.K (.ref f) = true) (hb : Binds X.K fd [] [])
    (hdb : (x == ("__debug__" : Str)) = false := by decide) : EX X Z (.Call (.Name x p) [] [] pos) (xCallP fp xNil) := by
  refine ⟨_, pe_call0 (E := fun _ _ _ => False) F hr hg hm hk hb .nil pass0 hdb, fun G I H σ τ s a s' Q w h q => ?_⟩
  unfold xCallP xNil at h
  dsimp only at h
  split at h
  · rename_i b eb
    cases h
    exact sp_useP (E := fun _ _ _ => False) w IsL.nil eb fun I' H' v m => q I' H' v m
  · cases h
end
end L2.TL
/-! TLn: reckoning with what slots own. -/
namespace L2.TL
open PySem PySem.Spec
open PyProof.Rows
section
variable {Z : Res} {f : EF Z} {fb : EFb Z} {g : EFo Z} {gs : EFos Z} {τ τ1 : List SV} {s s1 : Z.S} {a : T} {ts us : List T} {i : Nat}
theorem ev_pure (h : f τ s = some (a, s1)) : oPure f τ s = some (a, τ, s1) := by
  unfold oPure
  simp only [h]
theorem ev_pop (h : τ[i]? = some (.ow (.lst ts))) (h2 : ts.getLast? = some a) : oPop (Z := Z) i τ s = some (a, τ.set i (.ow (.lst ts.dropLast)), s) := by
  unfold oPop
  simp only [h, h2]
theorem ev_popAt {k : Nat} (h : τ[i]? = some (.ow (.lst ts))) (hf : f τ s = some (.int k, s1)) (h2 : ts[k]? = some a) (hk : k < 2 ^ 63) : oPopAt i f τ s = some (a, τ.set i (.ow (.lst (ts.eraseIdx k))), s1) := by
  unfold oPopAt
  simp only [h, hf]
  have e : ((k : Int)).toNat = k := Int.toNat_natCast k
  rw [e]
  simp only [h2]
  exact if_pos ⟨by omega, by omega⟩
theorem ev_app {ts0 : List T} (h : τ[i]? = some (.ow (.lst ts0))) (hg : g τ s = some (a, τ1, s1)) (h1 : τ1[i]? = some (.ow (.lst ts))) (hz : ts.length < sizeLine) : oApp i g τ s = some (.non, τ1.set i (.ow (.lst (ts ++ [a]))), s1) := by
  unfold oApp
  simp only [h, hg, h1]
  exact if_pos hz
theorem ev_extT (h : τ[i]? = some (.ow (.lst ts))) (hf : f τ s = some (.tup us, s1)) (hz : ts.length + us.length ≤ sizeLine) : oExt i f τ s = some (.non, τ.set i (.ow (.lst (ts ++ us))), s1) := by
  unfold oExt
  simp only [h, hf]
  exact if_pos hz
theorem ev_extL (h : τ[i]? = some (.ow (.lst ts))) (hf : f τ s = some (.lst us, s1)) (hz : ts.length + us.length ≤ sizeLine) : oExt i f τ s = some (.non, τ.set i (.ow (.lst (ts ++ us))), s1) := by
  unfold oExt
  simp only [h, hf]
  exact if_pos hz
theorem ev_setXO (h : g τ s = some (a, τ1, s1)) (hi : i < τ1.length) : sSetXO i g τ s = some (.nx (τ1.set i (.im a)) s1) := by
  unfold sSetXO
  simp only [h]
  exact if_pos hi
theorem ev_dropO (h : g τ s = some (a, τ1, s1)) : sDropO g τ s = some (.nx τ1 s1) := by
  unfold sDropO
  simp only [h]
theorem ev_setO (h : f τ s = some (a, s1)) (hi : i < τ.length) : sSetO i f τ s = some (.nx (τ.set i (.ow a)) s1) := by
  unfold sSetO
  simp only [h]
  exact if_pos hi
theorem ev_freeze {sf : SF Z} {o : Out Z.S} (h : τ[i]? = some (.ow a)) (h2 : sf (τ.set i (.im a)) s = some o) : sFreeze i sf τ s = some o := by
  unfold sFreeze
  simp only [h]
  exact h2
theorem ev_bread {b : Bool} (h : τ[i]? = some (.ow a)) (h2 : fb (readT τ i a) s = some (b, s1)) : bRead i fb τ s = some (b, s1) := by
  unfold bRead
  simp only [h]
  exact h2
theorem ev_read {b : T} (h : τ[i]? = some (.ow a)) (h2 : f (readT τ i a) s = some (b, s1)) (hp : plainS b = true) : xRead i f τ s = some (b, s1) := by
  unfold xRead
  simp only [h, h2]
  exact if_pos hp
theorem ev_while {c : EFb Z} {gb : SF Z} {n : Nat} {o : Out Z.S} (h : sWhileN c gb n τ s = some o) : sWhile c gb τ s = some o := by
  have hx : ∃ n o, sWhileN c gb n τ s = some o := ⟨n, o, h⟩
  unfold sWhile
  rw [dif_pos hx]
  obtain ⟨o', e⟩ := hx.choose_spec
  rcases Nat.le_total hx.choose n with q | q
  · have := sWhileN_le q e
    rw [h] at this
    rw [e, ← this]
  · exact sWhileN_le q h
theorem ev_wN_end {c : EFb Z} {gb : SF Z} {n : Nat} (h : c τ s = some (false, s1)) : sWhileN c gb (n + 1) τ s = some (.nx τ s1) := by
  unfold sWhileN
  simp only [h]
theorem ev_wN_step {c : EFb Z} {gb : SF Z} {n : Nat} {τ2 : List SV} {s2 : Z.S} {o : Out Z.S} (h : c τ s = some (true, s1)) (h2 : gb τ s1 = some (.nx τ2 s2)) (h3 : sWhileN c gb n τ2 s2 = some o) : sWhileN c gb (n + 1) τ s = some o := by
  unfold sWhileN
  simp only [h, h2]
  exact h3
end
end L2.TL
/-! TLk: that a reckoning comes to something, whatever is drawn (from K02e, K02g, K02h). -/
namespace L2.TL
open PySem PySem.Spec
open PyProof.Rows
def We {S α : Type} (r : Option (α × S)) (P : α → S → Prop) : Prop := ∃ a s, r = some (a, s) ∧ P a s
section
variable {Z : Res} {f fa fb : EF Z} {fs : EFs Z} {τ : List SV} {s : Z.S}
theorem we_imp {S α : Type} {r : Option (α × S)} {P Q : α → S → Prop} (h : We r P) (k : ∀ a s, P a s → Q a s) : We r Q := by
  obtain ⟨a, s, e, p⟩ := h
  exact ⟨a, s, e, k a s p⟩
theorem we_name {i : Nat} {t : T} {P : T → Z.S → Prop} (h : τ[i]? = some (.im t)) (p : P t s) : We (xName (Z := Z) i τ s) P := ⟨t, s, ev_name h, p⟩
theorem we_c {t : T} {P : T → Z.S → Prop} (p : P t s) : We (xC (Z := Z) t τ s) P := ⟨t, s, rfl, p⟩
theorem we_nil {P : List T → Z.S → Prop} (p : P [] s) : We (xNil (Z := Z) τ s) P := ⟨[], s, rfl, p⟩
theorem we_cons {P : List T → Z.S → Prop} (h : We (f τ s) fun a s1 => We (fs τ s1) fun as s2 => P (a :: as) s2) : We (xCons f fs τ s) P := by
  obtain ⟨a, s1, e1, as, s2, e2, p⟩ := h
  exact ⟨_, _, ev_cons e1 e2, p⟩
theorem we_x2 {op : T → T → Option T} {P : T → Z.S → Prop} (h : We (fa τ s) fun a s1 => We (fb τ s1) fun b s2 => ∃ c, op a b = some c ∧ P c s2) : We (x2 op fa fb τ s) P := by
  obtain ⟨a, s1, e1, b, s2, e2, c, e3, p⟩ := h
  exact ⟨_, _, ev_x2 e1 e2 e3, p⟩
theorem we_call {op : List T → Option T} {P : T → Z.S → Prop} (h : We (fs τ s) fun as s1 => ∃ c, op as = some c ∧ P c s1) : We (xCall op fs τ s) P := by
  obtain ⟨a, s1, e1, c, e3, p⟩ := h
  exact ⟨_, _, ev_call e1 e3, p⟩
theorem we_callP {fp : FP} {P : T → Z.S → Prop} (h : We (fs τ s) fun as s1 => ∃ c, fp as = some c ∧ P c s1) : We (xCallP fp fs τ s) P := by
  obtain ⟨a, s1, e1, c, e3, p⟩ := h
  exact ⟨_, _, ev_callP e1 e3, p⟩
theorem we_callF {ff : FF Z} {P : T → Z.S → Prop} (h : We (fs τ s) fun as s1 => We (ff as s1) P) : We (xCallF ff fs τ s) P := by
  obtain ⟨a, s1, e1, c, s2, e3, p⟩ := h
  exact ⟨_, _, ev_callF e1 e3, p⟩
theorem we_tup {P : T → Z.S → Prop} (h : We (fs τ s) fun as s1 => as.length ≤ 1000 ∧ P (.tup as) s1) : We (xTup fs τ s) P := by
  obtain ⟨a, s1, e1, z, p⟩ := h
  exact ⟨_, _, ev_tup e1 (Nat.le_trans z (by rw [sizeLine_eq]; decide)), p⟩
theorem we_lst {P : T → Z.S → Prop} (h : We (fs τ s) fun as s1 => as.length ≤ 1000 ∧ P (.lst as) s1) : We (xLst fs τ s) P := by
  obtain ⟨a, s1, e1, z, p⟩ := h
  exact ⟨_, _, ev_lst e1 (Nat.le_trans z (by rw [sizeLine_eq]; decide)), p⟩
theorem we_meth {ty : String} {op : T → List T → Option T} {P : T → Z.S → Prop} (h : We (f τ s) fun a s1 => tyName a = some ty ∧ We (fs τ s1) fun as s2 => ∃ c, op a as = some c ∧ P c s2) : We (xMeth ty op f fs τ s) P := by
  obtain ⟨a, s1, e1, ht, as, s2, e2, c, e3, p⟩ := h
  exact ⟨_, _, ev_meth e1 ht e2 e3, p⟩
/-- statements that go on -/
def Wn {Z : Res} (r : Option (Out Z.S)) (P : List SV → Z.S → Prop) : Prop := ∃ τ s, r = some (.nx τ s) ∧ P τ s
theorem wn_set {i : Nat} {P : List SV → Z.S → Prop} (h : We (f τ s) fun a s1 => i < τ.length ∧ P (τ.set i (.im a)) s1) : Wn (sSet i f τ s) P := by
  obtain ⟨a, s1, e, hi, p⟩ := h
  exact ⟨_, _, ev_set e hi, p⟩
theorem wn_seq {g g' : SF Z} {P : List SV → Z.S → Prop} (h : Wn (g τ s) fun τ1 s1 => Wn (g' τ1 s1) P) : Wn (sSeq g g' τ s) P := by
  obtain ⟨τ1, s1, e, τ2, s2, e2, p⟩ := h
  exact ⟨_, _, ev_seq e e2, p⟩
end
theorem of_we {S α : Type} {r : Option (α × S)} {P : α → S → Prop} (h : We r P) : ∃ a s, r = some (a, s) ∧ P a s := h
def Wr {Z : Res} (r : Option (Out Z.S)) (P : T → Z.S → Prop) : Prop := ∃ a s, r = some (.rt a s) ∧ P a s
section
variable {Z : Res} {f fa fb : EF Z} {fs : EFs Z} {τ : List SV} {s : Z.S}
theorem we_ff {g : SF Z} {n m : Nat} {ts : List T} {P : T → Z.S → Prop} (hn : ts.length = n) (h : Wr (g (ts.map SV.im ++ List.replicate (m - n) SV.un) s) P) : We (bodyF n m g ts s) P := by
  obtain ⟨a, s1, e, p⟩ := h
  exact ⟨a, s1, ev_ff hn e, p⟩
theorem wr_seq {g g' : SF Z} {P : T → Z.S → Prop} (h : Wn (g τ s) fun τ1 s1 => Wr (g' τ1 s1) P) : Wr (sSeq g g' τ s) P := by
  obtain ⟨τ1, s1, e, a, s2, e2, p⟩ := h
  exact ⟨_, _, ev_seq e e2, p⟩
theorem wr_ret {P : T → Z.S → Prop} (h : We (f τ s) P) : Wr (sRet f τ s) P := by
  obtain ⟨a, s1, e, p⟩ := h
  exact ⟨_, _, ev_ret e, p⟩
theorem wn_asg {gt : GF} {P : List SV → Z.S → Prop} (h : We (f τ s) fun a s1 => ∃ τ', gt a τ = some τ' ∧ P τ' s1) : Wn (sAsg f gt τ s) P := by
  obtain ⟨a, s1, e, τ', e2, p⟩ := h
  exact ⟨_, _, ev_asg e e2, p⟩
theorem wn_imp {r : Option (Out Z.S)} {P Q : List SV → Z.S → Prop} (h : Wn r P) (k : ∀ τ s, P τ s → Q τ s) : Wn r Q := by
  obtain ⟨τ, s, e, p⟩ := h
  exact ⟨τ, s, e, k τ s p⟩
theorem wn_if {ft : EFb Z} {g g' : SF Z} {P : List SV → Z.S → Prop} (b : Bool) (h : ft τ s = some (b, s)) (ht : b = true → Wn (g τ s) P) (hf : b = false → Wn (g' τ s) P) : Wn (sIf ft g g' τ s) P := by
  cases b with
  | true =>
    obtain ⟨τ1, s1, e, p⟩ := ht rfl
    exact ⟨τ1, s1, ev_if_t h e, p⟩
  | false =>
    obtain ⟨τ1, s1, e, p⟩ := hf rfl
    exact ⟨τ1, s1, ev_if_f h e, p⟩
theorem wn_skip {P : List SV → Z.S → Prop} (p : P τ s) : Wn (sSkip (Z := Z) τ s) P := ⟨τ, s, rfl, p⟩
end
theorem eq_int (neg : Bool) (x y : Int) : eqX neg (.int x) (.int y) = some (.bl (if neg then !decide (x = y) else decide (x = y))) := by
  unfold eqX orT eqS
  simp only [scV, scal, if_true]
  by_cases h : x = y
  · subst h
    simp
  · have : ¬ V.int x = V.int y := fun e => h (by injection e)
    simp [h]
theorem sFor_inv {Z : Res} {gt : GF} {gb : SF Z} (Inv : List SV → Prop) : ∀ (items : List T), (∀ a ∈ items, ∀ τ s, Inv τ → ∃ τ1, gt a τ = some τ1 ∧ Wn (gb τ1 s) fun τ2 _ => Inv τ2) → ∀ τ s, Inv τ → Wn (sFor gt gb items τ s) fun τ2 _ => Inv τ2
  | [], _, τ, s, i => ⟨τ, s, rfl, i⟩
  | a :: r, h, τ, s, i => by
    obtain ⟨τ1, e1, τ2, s2, e2, i2⟩ := h a (by simp) τ s i
    obtain ⟨τ3, s3, e3, i3⟩ := sFor_inv Inv r (fun b hb => h b (by simp [hb])) τ2 s2 i2
    refine ⟨τ3, s3, ?_, i3⟩
    unfold sFor
    simp only [e1, e2]
    exact e3
end L2.TL
/-! TXa: exceptions of classes of the program over Exception, as objects. -/
namespace L2.TL
open PySem PySem.Spec PyProof.Rows PySem.HandSPX
abbrev tlE : List Value := [.type "Exception", .type "BaseException", .type "object"]
/-- classes of the program, then Exception and what it comes from -/
def endsE : List Value → Bool
  | .ref _ :: r => endsE r
  | l => l == tlE
theorem endsE_two (l : List Value) (h : endsE l = true) : (∃ c r, l = .ref c :: r ∧ endsE r = true) ∨ l = tlE := by
  cases l with
  | nil => exact .inr (beq_iff_eq.mp h)
  | cons a r => cases a with
    | ref c => exact .inl ⟨c, r, rfl, h⟩
    | _ => exact .inr (beq_iff_eq.mp h)
theorem endsE_pass (self : Value) : ∀ l : List Value, endsE l = true → refuseLoop self "__setattr__" l = pure ()
  | [], h => absurd h (by decide)
  | a :: r, h => by
    rcases endsE_two (a :: r) h with ⟨c, m, q, k⟩ | q
    · injection q with q1 q2
      subst q1 q2
      rw [refuseLoop_ref, endsE_pass self r k]
    · rw [q, F.store_Exception.passes self]
theorem endsE_has (n : String) : ∀ l : List Value, endsE l = true → l.contains (.type n) = tlE.contains (.type n)
  | [], h => absurd h (by decide)
  | a :: r, h => by
    rcases endsE_two (a :: r) h with ⟨c, m, q, k⟩ | q
    · injection q with q1 q2
      subst q1 q2
      rw [List.contains_cons, endsE_has n r k]
      rfl
    · rw [q]
section
open PySem.W PySem.Calls Builtin Builtin.ObjectAttr
variable {prog : Program} {w : World} {A : Around} {R : Result → Shared → Prop} {hp : Heap} {g : Array GenState} {d : Drawn} {t : Nat} {os : OsState} {K : PySem.W.Frag}
/-- x.name = v, x an exception without a dict -/
theorem osa_first {name : Str} {tk : Tok} {v : Value} {x C : Addr} {fv : Array Value} {cd : ClassData} (X : K.In hp) (hx : hp.get? x = some { cls := .ref C, data := .fields fv }) (hcd : PySem.W.clsIn K C = some cd)
    (hm : endsE cd.mro = true) (hh : cd.hasDict = true) (ha : PySem.W.findIn K (.ref C) name = some none)
    (hq : ∀ h' tk' dx, (∀ p q, p ≠ x → hp.get? p = some q → h'.get? p = some q) → hp.objs.size ≤ dx → dx ≠ x → h'.get? x = some { cls := .ref C, dict := some dx, data := .fields fv } →
      h'.Ns1 dx (fun y => if y = name then some v else none) → R (.ok (.ret .none)) ⟨h', g, d, tk', os⟩) :
    codeAny (model prog w) A (.call (.builtin "object.__setattr__") ⟨[.ref x, .str name tk, v], []⟩) R ⟨hp, g, d, t, os⟩ := by
  have J : PySem.W.InstAt hp x { cls := .ref C, data := .fields fv } C none := ⟨hx, rfl, rfl, trivial⟩
  have S0 := F.store_object
  have nn : cd.mro.isEmpty = false := by
    cases e : cd.mro with
    | nil => rw [e] at hm; exact absurd hm (by decide)
    | cons _ _ => rfl
  have oo : cd.mro.contains (.type "object") = true := by
    rw [endsE_has "object" _ hm]
    decide +kernel
  have ne : x ≠ hp.objs.size := Nat.ne_of_lt (Heap.lt_size hx)
  have so : PySem.W.Looks (model prog w) hp (isInstance (.ref x) (.type "object")) true := by
    refine J.type.andThen (PySem.W.looks_mroIn X ?_)
    unfold PySem.W.mroIn
    rw [hcd, Option.bind_some, if_neg (by rw [nn]; decide), oo]
  refine codeAny_call_builtin S0.slot.plain S0.entry ?_
  refine @PySem.W.check_slot (model prog w) _ _ ⟨hp, g, d, t, os⟩ "object.__setattr__" "object" "__setattr__" (.ref x) [.str name tk, v] [] _ S0.kind S0.split so (S0.args (.ref x) (.str name tk) v) ?_
  have m1 : PySem.W.Looks (model prog w) hp (mroOf (.ref C)) cd.mro :=
    (PySem.W.looks_clsIn X hcd).andThen .now
  have m2 : PySem.W.Looks (model prog w) hp (storeTaker? none) none := .now
  have m3 : PySem.W.Looks (model prog w) hp (classData C) cd := PySem.W.looks_clsIn X hcd
  rw [PySem.W.osa_eq, refuse_eq]
  refine wpAny_bind (wpAny_bind (J.type.at ?_))
  refine wpAny_bind (m1.at ?_)
  rw [endsE_pass _ _ hm]
  refine wpAny_pure (wpAny_bind ?_)
  refine J.type.at (wpAny_bind ?_)
  refine (PySem.W.looks_findIn X ha).at ?_
  refine wpAny_bind (m2.at ?_)
  show wpAny _ _ (storeInOwnDict (.ref x) (.ref C) (.str name tk) name v false) _ _ _
  obtain ⟨c1, c2, c3, c4, c5, c6, c7, c8, c9, c10, c11⟩ := cd
  dsimp only at hh
  subst hh
  unfold storeInOwnDict ownDictForStores
  repeat (first
    | with_reducible refine store_in_new ?_ ?_
    | with_reducible refine wpAny_loadPart_at hx ?_
    | with_reducible refine m3.at ?_
    | wp_step)
  · exact ⟨_, #[], _,
      (Heap.get?_update_ne _ _ _ _ ne.symm).trans (Heap.get?_push_at rfl rfl),
      rfl, fun e he => absurd he (by simp), fun _ => rfl⟩
  · intro h2 tk2 n2 s2
    have x1 : (hp.push { cls := .type "dict", data := .dict #[] }).get? x = some { cls := .ref C, data := .fields fv } := Heap.get?_push_of_some _ hx
    refine hq h2 tk2 hp.objs.size (fun p q hb ho => ?_) (Nat.le_refl _) ne.symm ?_ n2
    · rw [s2.2 p (Nat.ne_of_lt (Heap.lt_size ho)), Heap.get?_update_ne _ _ _ _ hb]
      exact Heap.get?_push_of_some _ ho
    · rw [s2.2 x ne]
      exact Heap.get?_update_self _ x1 rfl
end
/-- what the written part says of an exception's class -/
structure XC (K : PySem.W.Frag) (C : Addr) : Prop where
  cls : ∃ nm q N bs bm sn sub ab col dd k0 k1 k2 k3 k5, K.lookup C = some (excClassObj nm q C N bs bm true sn sub ab col dd k0 k1 k2 k3 k5 "Exception.__new__") ∧ endsE bm = true
  sa : PySem.W.findIn K (.ref C) "__setattr__" = some (some (.builtin "object.__setattr__"))
  ga : PySem.W.findIn K (.ref C) "__getattribute__" = some (some (.builtin "BaseException.__getattribute__"))
  gg : PySem.W.findIn K (.ref C) "__getattr__" = some none
  exC : PySem.W.subIn K (.ref C) (.type "BaseException") = some true
  tyC : PySem.W.typeIn K (.ref C) = some (.type "type")
  kC : PySem.W.keepIn K (.ref C) = true
  hdC : PySem.W.hasDictIn K C = true
section
variable {X : Cx} {pins : List (Addr × Obj)} {σ : St} {H : Hp} {s : Shared} {a C dx : Addr} {f : Str} {y : V} {u : Value} {A : Around} {E : Value → Shared → Prop}
theorem xst_new {Q : Unit → Shared → Prop} (T : XC X.K C) (I : Inv X pins σ H s) (e : H a = some (exo a C none)) (hno : PySem.W.findIn X.K (.ref C) f = some none) (ry : RelV y u)
    (h : ∀ dx s', H dx = none → dx ≠ a → Inv X pins σ (upd (upd H dx (exd dx [(f, y)])) a (exo a C (some dx))) s' → Q () s') : wpAny (model X.prog X.w) A (setAttr (.ref a) f u) Q E s := by
  obtain ⟨nm, q, N, bs, bm, sn, sub, ab, col, dd, k0, k1, k2, k3, k5, hC, hbm⟩ := T.cls
  have hcl : ∃ cd, PySem.W.clsIn X.K C = some cd ∧ cd.mro = .ref C :: bm ∧ cd.hasDict = true := by
    refine ⟨⟨nm, bs, .ref C :: bm, N, q, true, sn, sub, ab, col, false⟩, ?_, rfl, rfl⟩
    unfold PySem.W.clsIn
    rw [hC]
  obtain ⟨cd, hcd, hmro, hdct⟩ := hcl
  obtain ⟨t1, ho⟩ := exo_at I.hok e
  obtain ⟨hp, g, d, t, os⟩ := s
  refine PySem.W.set_plain I.kIn (ox := { cls := .ref C, dict := none, data := .fields #[.ref t1, .none, .none, .none, .bool false, .none] }) (od := none) ⟨ho, rfl, rfl, trivial⟩ T.sa ?_
  refine osa_first I.kIn ho hcd (by rw [hmro]; exact hbm) hdct hno fun h' tk' dx k dn dne hx hn => ?_
  have z1 : H dx = none := I.hok.fresh dn
  have z2 : ∀ {p : Addr} {o : Obj}, hp.get? p = some o → p ≠ dx := fun q => Nat.ne_of_lt (Nat.lt_of_lt_of_le (Heap.lt_size q) dn)
  have z3 : ∀ {p : Addr}, H p = none → p ≠ a := fun n z => by
    rw [z, e] at n
    cases n
  have U : Un X.fs [] H (upd (upd H dx (exd dx [(f, y)])) a (exo a C (some dx))) hp h' := by
    refine ⟨?_, ?_, ?_, ?_, ?_, ?_, ?_⟩
    · intro p o q n _ _
      exact k p o (z3 n) q
    · intro p o q n _ _
      exact ⟨o.slots, k p o (z3 n) q⟩
    · intro p o q n _
      rw [upd_ne (z3 n), upd_ne (z2 q), n]
    · intro p o q _
      by_cases hb : p = a
      · subst hb
        exact ⟨_, hx⟩
      · exact ⟨o, k p o hb q⟩
    · intro p xs q
      rw [upd_ne (at_ne e q exo_tup), upd_ne (ne_of_none q z1), q]
    · intro p o v q
      rw [upd_ne (at_ne e q exo_frz), upd_ne (ne_of_none q z1), q]
    · intro p ps q
      refine ⟨#[], ?_⟩
      rw [upd_ne (at_ne e q exo_tbl), upd_ne (ne_of_none q z1), q]
      simp
  refine h dx _ z1 dne (I.un (t' := tk') U fun p o q => ?_)
  by_cases hb : p = a
  · subst hb
    rw [upd_same] at q
    cases q
    exact exo_ok hx
  rw [upd_ne hb] at q
  by_cases hd : p = dx
  · subst hd
    rw [upd_same] at q
    cases q
    exact exd_ok hn (relO_put (fs := []) ry fun _ => True.intro)
  rw [upd_ne hd] at q
  refine (I.hok p o q).stay (fun c v hc z => k c v ?_ z) (fun c hc => ?_) fun c xs hc => ?_
  · rcases hc with hc | hc
    · rw [hc]
      exact hb
    · exact at_ne e hc exo_own
  · rw [upd_ne (at_ne e hc exo_own), upd_ne (ne_of_none hc z1), hc]
  · rw [upd_ne (at_ne e hc exo_tup), upd_ne (ne_of_none hc z1), hc]
/-- the field of an exception that is no longer made nor raised yet -/
theorem xget {x : Addr} {fs : List (Str × V)} {v : V} {b : Bool} {Q : Value → Shared → Prop} (T : XC X.K C) (I : Inv X pins σ H s) (e : H a = some (exo a C (some dx))) (ed : H dx = some (exd dx fs)) (hno : PySem.W.findIn X.K (.ref C) f = some none) (l : fs.lookup f = some v)
    (h : ∀ u s', Inv X pins σ H s' → RelV v u → Q u s') : wpAny (model X.prog X.w) A (getAttr (.ref a) f b) Q E s := by
  obtain ⟨t1, ho⟩ := exo_at I.hok e
  obtain ⟨mA, hns, hr⟩ := exd_at I.hok ed
  obtain ⟨od, hod, hl⟩ := lookIn_ns hns
  obtain ⟨u, hu, ru⟩ := RelO.some_of (v := v) (o := mA f) (by rw [← l]; exact hr f)
  have J : PySem.W.InstAt s.heap a { cls := .ref C, dict := some dx, data := .fields #[.ref t1, .none, .none, .none, .bool false, .none] } C (some od) := ⟨ho, rfl, rfl, hod⟩
  exact exc_get I.kIn J T.ga T.gg T.exC (PySem.W.findObj_own T.hdC hno rfl (by rw [hl, hu])) (handed_of ru) (h u _ (I.tok _) ru)
end
end L2.TL
/-! TXb: raise C(e), C an exception's class of the program whose __init__ keeps its argument; isinstance of a caught one. -/
namespace L2.TL
open PySem PySem.Spec PyProof.Rows PySem.HandSPX
/-- self.f = e on an exception that is being made -/
def tXst (C : Addr) (f : Str) (to te : TE) : TS := fun D σ H => te σ H fun y H1 => to σ H1 fun x H2 => ∃ a : Addr, x = .ref a ∧ H2 a = some (exo a C none) ∧ ∀ dx, H2 dx = none → dx ≠ a → D.nx σ (upd (upd H2 dx (exd dx [(f, y)])) a (exo a C (some dx)))
section
variable {X : Cx} {C : Addr} {o e : Expr} {to te : TE} {f : Str} {p' pos : Pos}
theorem ps_xst (T : XC X.K C) (hno : PySem.W.findIn X.K (.ref C) f = some none) (ho : PE X o to) (he : PE X e te) (hs : swapsWith e (some (.Attribute o f p')) pos.line X.env = pure false := by rfl) :
    PS X (.Assign [.Attribute o f p'] e pos) (tXst C f to te) := by
  refine ⟨fun pins s σ H D I h => plainObj_wpAny_Assign_Attribute (thn (he.run pins s σ H _ I h) ?_) hs⟩
  rintro v s1 ⟨y, H1, I1, r1, q1⟩
  refine thn (ho.run pins s1 σ H1 _ I1 q1) ?_
  rintro u s2 ⟨x, H2, I2, r2, a, rfl, ea, q⟩
  obtain rfl : u = Value.ref a := r2
  exact xst_new T I2 ea hno r1 fun dx s' n ne J => ⟨σ, _, J, q dx n ne⟩
end
/-- def __init__(self, x): self.f = x -/
def spXI (C : Addr) (f : Str) : Sp := fun vs H Q _ => ∃ (a : Addr) (y : V), vs = [.ref a, y] ∧ H a = some (exo a C none) ∧ ∀ d, H d = none → d ≠ a → Q .non (upd (upd H d (exd d [(f, y)])) a (exo a C (some d)))
section
variable {P : Program} {w : World} {K : PySem.W.Frag} {mg : Str → Option Value} {base : Heap}
theorem ok_xinit {C fI : Addr} {fd : FuncData} {x f qual : Str} {st : Stmt} {p1 p2 p3 p4 : Pos} (T : XC K C) (hno : PySem.W.findIn K (.ref C) f = some none) (F : Fun K "__init__" qual st fI fd)
    (S : FnScope ["self", x] ["self", x] (defScope st)) (hb : defBody st = [.Assign [.Attribute (.Name "self" p1) f p2] (.Name x p3) p4])
    (v1 : Vis (defScope st) "self") (v2 : Vis (defScope st) x)
    (hxd : (x == ("__debug__" : Str)) = false) (hx : (x == ("__classdict__" : Str)) = false) : FnOk P w K mg base CX0 1 fI fd ["self", x] (spXI C f) := by
  refine F.ok S (fun vs H Q E h => ?_) fun cdv A out z H vs Q E hr h => ?_
  · obtain ⟨a, y, rfl, _⟩ := h
    rfl
  · obtain ⟨a, y, rfl, ha, q⟩ := h
    rw [hb]
    refine ⟨_, pss_one (ps_xst T hno (pe_var (i := 0) rfl v1) (pe_var (i := 1) rfl v2 hxd hx)), ?_⟩
    exact ⟨y, rfl, .ref a, rfl, a, rfl, ha, q⟩
end
/-- C(e), to be raised -/
def tXmk (C : Addr) (f : Str) (te : TE) : St → Hp → XK → Prop := fun σ H Q => te σ H fun y H1 => ∀ d, H1 d = none → Q (.ref C) (some d) (upd H1 d (.xd [(f, y)]))
section
variable {X : Cx} {C fI : Addr} {fd : FuncData} {e : Expr} {te : TE} {f x : Str} {p pos : Pos} {k : Nat}
theorem pmk_x {CX : CXT} (T : XC X.K C) (iC : PySem.W.findIn X.K (.ref C) "__init__" = some (some (.ref fI))) (tI : PySem.W.typeIn X.K (.ref fI) = some (.type "function")) {px : Str}
    (G : FnOk X.prog X.w X.K X.mg X.base CX k fI fd ["self", px] (spXI C f)) (hr : Room (k + 1) X.A) (hb : Binds X.K fd ["self", px] []) (hx : Passes CX X (fun _ _ _ => False)) (hg : Gl X x) (hm : X.mg x = some (.ref C)) (he : PE X e te)
    (hdb : (x == ("__debug__" : Str)) = false := by decide) (hs : starEach [e] X.env = (false, eval e X.env) :: starEach [] X.env := by rfl) (hpl : (backTo pos (starEach [] X.env)).any (·.1) = false := by rfl) :
    PMk X (.Call (.Name x p) [e] [] pos) (tXmk C f te) := by
  intro pins s σ H Q I h
  obtain ⟨c1, c2, c3, c4, c5, c6, c7, c8, c9, c10, c11, c12, c13, c14, c15, hC, hbm⟩ := T.cls
  have has : ∀ n : String, c5.contains (.type n) = tlE.contains (.type n) := fun n => endsE_has n c5 hbm
  refine wpAny_Call_Name_kw (ld_glob I hg hm ?_ hdb)
  have ha : PA X [e] (tCons te tNil) := pa_cons he pa_nil hs
  refine PySem.W.callWith_K (h₀ := X.base) I.ok.mod.kin T.kC ?_ hs hpl
  refine thn (ha.run pos pins s σ H (fun vs H1 => match vs with
    | [y] => ∀ d, H1 d = none → Q (.ref C) (some d) (upd H1 d (.xd [(f, y)]))
    | _ => False) I h) ?_
  rintro us s1 ⟨vs, H1, I1, r1, q⟩
  obtain ⟨y, rfl⟩ : ∃ y, vs = [y] := by
    match vs, q with
    | [y], _ => exact ⟨y, rfl⟩
  have q : ∀ d, H1 d = none → Q (.ref C) (some d) (upd H1 d (.xd [(f, y)])) := q
  refine ⟨I1.kIn, ?_⟩
  show wpAny _ _ (call (.ref C) us) _ _ _
  obtain ⟨hp, g, dr, tk, os⟩ := s1
  have z0 : hp.objs.size ≤ hp.objs.size + 1 := Nat.le_succ _
  have z1 : H1 (hp.objs.size + 1) = none := I1.hok.fresh z0
  have kp : ∀ b o, hp.get? b = some o → ((hp.push (PySem.W.kdv_tup us)).push (excO C hp.objs.size)).get? b = some o :=
    fun b o w => Heap.get?_push_of_some _ (Heap.get?_push_of_some _ w)
  have at1 : ((hp.push (PySem.W.kdv_tup us)).push (excO C hp.objs.size)).get? (hp.objs.size + 1) = some (excO C hp.objs.size) := by heap_get
  have J2 : Inv X pins σ (upd H1 (hp.objs.size + 1) (exo (hp.objs.size + 1) C none)) ⟨(hp.push (PySem.W.kdv_tup us)).push (excO C hp.objs.size), g, dr, tk, os⟩ :=
    I1.laid (t' := tk) (a := hp.objs.size + 1) kp z0 (exo_ok at1)
  have r2 : Vals [V.ref (hp.objs.size + 1), y] (Value.ref (hp.objs.size + 1) :: us) := .cons rfl r1
  have hus : us.length = 1 := by rw [← Paired.length r1]; rfl
  have hsp : spXI C f [V.ref (hp.objs.size + 1), y] (upd H1 (hp.objs.size + 1) (exo (hp.objs.size + 1) C none))
      (fun v H2 => v = .non ∧ ∃ d : Addr, H2 (hp.objs.size + 1) = some (exo (hp.objs.size + 1) C (some d)) ∧ H2 d = some (exd d [(f, y)]) ∧ H1 d = none ∧ Q (.ref C) (some d) (upd (del H2 (hp.objs.size + 1)) d (.xd [(f, y)]))) (fun _ _ _ => False) := by
    refine ⟨_, y, rfl, upd_same, fun d nd ne => ⟨rfl, d, upd_same, ?_, ?_, ?_⟩⟩
    · rw [upd_ne ne, upd_same]
    · rw [upd_ne ne] at nd
      exact nd
    · rw [upd_ne ne] at nd
      have e1 : upd (del (upd (upd (upd H1 (hp.objs.size + 1) (exo (hp.objs.size + 1) C none)) d (exd d [(f, y)])) (hp.objs.size + 1) (exo (hp.objs.size + 1) C (some d))) (hp.objs.size + 1)) d (.xd [(f, y)]) = upd H1 d (.xd [(f, y)]) := by
        funext b
        by_cases b1 : b = d
        · rw [b1, upd_same, upd_same]
        · rw [upd_ne b1, upd_ne b1]
          by_cases b2 : b = hp.objs.size + 1
          · rw [b2, del_same, z1]
          · rw [del_ne b2, upd_ne b2, upd_ne b1, upd_ne b2]
      rw [e1]
      exact q d nd
  have bd := hb _ (Value.ref (hp.objs.size + 1) :: us) J2.kIn (by simp [hus])
  rw [List.append_nil] at bd
  refine wpAny_call (call_own F.excBase_Exception has (I1.kIn _ _ hC) (PySem.W.looks_findIn I1.kIn iC) (fun self => PySem.W.bind_fn I1.kIn self tI) (by rw [hus, sizeLine_eq]; decide) ?_)
  refine codeAny_mono (G.run _ X.stack _ _ ⟨Value.ref (hp.objs.size + 1) :: us, []⟩ (Value.ref (hp.objs.size + 1) :: us) _ _ (fun _ _ _ => False) (hr.make C us []) (J2.env0.make C us []) bd r2 hsp) ?_
  intro r s2 hq
  rcases r with er | fl
  · exact hx pins σ _ _ er s2 J2 hq
  cases fl with
  | ret u =>
    obtain ⟨v, H2, os2, bare2, un2, hok2, rv, ev, d, ea, ed, hd1, q2⟩ := hq
    subst ev
    obtain ⟨h2, g2, d2, t2, os'⟩ := s2
    exact ⟨rv, mk_end (raises_own T.exC T.tyC) I1 z0 kp un2 hok2 os2 bare2 ea ed hd1 q2⟩
  | next => exact hq.elim
  | brk => exact hq.elim
  | cont => exact hq.elim
end
end L2.TL
/-! TXc: defs that raise, told by trees; their calls; try. -/
namespace L2.TL
open PySem PySem.Spec
open PyProof.Rows
/-- what a call comes to: a value, or an exception of a class with one field -/
inductive RsX (S : Type) where
  | ok (a : T) (s : S) | xc (C : Addr) (f : Str) (a : T) (s : S)
abbrev FX (Z : Res) := List T → Z.S → Option (RsX Z.S)
abbrev EFx (Z : Res) := List SV → Z.S → Option (RsX Z.S)
def spX (K : PySem.W.Frag) (Z : Res) (f : FX Z) : Sp := fun vs H Q E => ∃ (I : Hp) (ts : List T) (s : Z.S) (r : RsX Z.S), Same I H ∧ (∀ p, Z.F p → I p = none) ∧ Z.R s I H ∧ IsL K I ts vs ∧ f ts s = some r ∧ (match r with
  | .ok a s' => ∀ I' H' v, Ext Z.F I H I' H' → Z.R s' I' H' → Is K I' a v → Q v H'
  | .xc C g a s' => ∀ I' H' d y, Ext Z.F I H I' H' → Z.R s' I' H' → I' d = some (.xd [(g, y)]) → Is K I' a y → E (.ref C) (some d) H')
def bodyX {Z : Res} (n m : Nat) (g : SF Z) : FX Z := fun ts s => if ts.length = n then match g (ts.map SV.im ++ List.replicate (m - n) SV.un) s with
    | some (.rt a s') => some (.ok a s')
    | some (.nx _ s') => some (.ok .non s')
    | some (.xc C f a _ s') => some (.xc C f a s')
    | _ => none
  else none
section
variable {P : Program} {w : World} {K : PySem.W.Frag} {mg : Str → Option Value} {base : Heap} {Z : Res} {k : Nat} {f : Addr} {fd : FuncData} {N ps : List Str} {x qual : Str} {st : Stmt}
theorem bodyX_len {n m : Nat} {g : SF Z} : ∀ ts s r, bodyX n m g ts s = some r → ts.length = n := fun ts s r h => by
  unfold bodyX at h
  split at h
  · assumption
  · cases h
theorem spX_len {g : FX Z} {n : Nat} (h : ∀ ts s r, g ts s = some r → ts.length = n) {vs : List V} {H : Hp} {Q : VK} {E : XK} (q : spX K Z g vs H Q E) : vs.length = n := by
  obtain ⟨I, ts, s, r, _, _, _, il, hf, _⟩ := q
  rw [il.len]
  exact h ts s _ hf
theorem bodyX_ends {X : Cx} {sts : List Stmt} {g : SF Z} {vs : List V} {H : Hp} {Q : VK} {E : XK} (hK : X.K = K) (tk : Takes X (fun cls d _ H => E cls d H)) (hb : SS X Z sts g) (hn : ps.length ≤ N.length) (h : spX K Z (bodyX ps.length N.length g) vs H Q E) :
    ∃ t, PSs X sts t ∧ t { nx := fun _ H' => Q .non H', rt := Q } (start N vs) H := by
  subst hK
  obtain ⟨t, pt, h1⟩ := hb
  obtain ⟨I, ts, s, r, sub, rf, rr, il, hf, q⟩ := h
  refine ⟨t, pt, ?_⟩
  unfold bodyX at hf
  split at hf
  case isFalse => cases hf
  rename_i hl
  have hv : vs.length = ps.length := by rw [il.len]; exact hl
  have w := start_rep (N := N) sub rf rr il (by rw [hv]; exact hn)
  rw [hv] at w
  have ext : ∀ {I' H' : Hp} {s2 : Z.S}, Same I I' → Rep0 Z (foreign Z I H) I' H' s2 → Ext Z.F I H I' H' := fun m w' =>
    ⟨m, w'.sub, fun p o e1 e2 e3 => w'.fr p o (foreign_mk e1 e2 e3), fun p hp _ => (w'.rf p hp).1⟩
  split at hf
  · rename_i b s2 eg
    cases hf
    exact h1 _ _ _ _ _ _ _ _ w eg fun I' H' v m w' ia => q I' H' v (ext m w') w'.res ia
  · rename_i τ2 s2 eg
    cases hf
    exact h1 _ _ _ _ _ _ _ _ w eg fun I' H' σ' m w' => q I' H' .non (ext m w'.toRep0) w'.res rfl
  · rename_i C f a τ2 s2 eg
    cases hf
    exact h1 _ _ _ _ _ _ _ _ w eg ⟨_, tk, fun I' H' σ' d y m w' e ia => q I' H' d y (ext m w'.toRep0) w'.res e ia⟩
  · cases hf
/-- THE RULE, for a def that may raise -/
theorem fn_defX {g : SF Z} (F : Fun K x qual st f fd) (S : FnScope N ps (defScope st))
    (hb : ∀ (cdv : Value) (A : Around) (out : List Env) (z : Shared) (H : Hp) (E : XK), Room k (A.deeper (envOfC qual (defScope st) z.heap.objs.size f cdv)) → SS (cxOf (L2.CX P w) P w K mg base N qual (defScope st) f cdv A out z H E) Z (defBody st) g) :
    FnOk P w K mg base (L2.CX P w) (k + 1) f fd ps (spX K Z (bodyX ps.length N.length g)) :=
  F.okX S (fun vs H Q E h => spX_len bodyX_len h) fun cdv A out z H vs Q E hr h => bodyX_ends rfl (takes_of rfl rfl rfl rfl) (hb cdv A out z H E hr) (scope_le S) h
end
/-! ### raise -/
section
variable {X : Cx} {Z : Res} {e : Expr} {f : EF Z} {C fI : Addr} {fd : FuncData} {fn x px : Str} {p pos pos' : Pos} {k : Nat}
def sRaise {Z : Res} (C : Addr) (fn : Str) (f : EF Z) : SF Z := fun τ s => match f τ s with
  | some (a, s1) => some (.xc C fn a τ s1)
  | none => none
theorem sx_raise {CX : CXT} (hc : X.calm = true) (T : XC X.K C) (iC : PySem.W.findIn X.K (.ref C) "__init__" = some (some (.ref fI))) (tI : PySem.W.typeIn X.K (.ref fI) = some (.type "function"))
    (F : FnOk X.prog X.w X.K X.mg X.base CX k fI fd ["self", px] (spXI C fn)) (hr : Room (k + 1) X.A) (hb : Binds X.K fd ["self", px] []) (hx : Passes CX X (fun _ _ _ => False)) (hg : Gl X x) (hm : X.mg x = some (.ref C)) (he : EX X Z e f)
    (hdb : (x == ("__debug__" : Str)) = false := by decide) (hs : starEach [e] X.env = (false, eval e X.env) :: starEach [] X.env := by rfl) (hpl : (backTo pos (starEach [] X.env)).any (·.1) = false := by rfl) :
    SX X Z (.Raise (some (.Call (.Name x p) [e] [] pos)) none pos') (sRaise C fn f) := by
  obtain ⟨te, pe, h1⟩ := he
  have pm := pmk_x (p := p) (pos := pos) T iC tI F hr hb hx hg hm pe hdb hs hpl
  refine ⟨fun D σ H => ∃ W, Takes X W ∧ tXmk C fn te σ H (fun cls d H' => W cls d σ H'), ⟨fun pins s σ H D I ⟨W, tk, h⟩ => (ps_raise hc tk pm).run pins s σ H D I h⟩, fun G I H σ τ s o D w h q => ?_⟩
  unfold sRaise at h
  split at h
  · rename_i a s1 ea
    cases h
    obtain ⟨W, tk, q⟩ := q
    refine ⟨W, tk, h1 _ _ _ _ _ _ _ _ _ w ea fun I1 H1 v m1 w1 i1 => ?_⟩
    intro d nd
    obtain ⟨m2, w2⟩ := w1.new (o := .xd [(fn, v)]) nd
    exact q _ _ σ d v (m1.trans m2) w2 upd_same (i1.mono m2)
  · cases h
end
/-! ### expressions that may raise -/
def PostR (X : Cx) (Z : Res) (G I : Hp) (σ : St) (τ : List SV) (W : WX) (Q : VK) : RsX Z.S → Prop
  | .ok a s => Hand X Z G I σ τ s a Q
  | .xc C f a s => ∀ I' H' d y, Same I I' → Rep X.K Z G I' H' σ τ s → I' d = some (.xd [(f, y)]) → Is X.K I' a y → W (.ref C) (some d) σ H'
def ER (X : Cx) (Z : Res) (e : Expr) (f : EFx Z) : Prop :=
  ∃ t : WX → TE, (∀ W, Takes X W → PE X e (t W)) ∧ ∀ W G I H σ τ s r Q, Rep X.K Z G I H σ τ s → f τ s = some r → PostR X Z G I σ τ W Q r → t W σ H Q
section
variable {X : Cx} {Z : Res} {e c a b : Expr} {es : List Expr} {f : EF Z} {g g1 g2 : EFx Z} {fb : EFb Z} {fs : EFs Z} {pos : Pos} {k : Nat} {fa : Addr} {fd : FuncData} {ps : List Str} {ff : FX Z}
def rOf {Z : Res} (f : EF Z) : EFx Z := fun τ s => match f τ s with
  | some (a, s1) => some (.ok a s1)
  | none => none
theorem er_of (h : EX X Z e f) : ER X Z e (rOf f) := by
  obtain ⟨t, p, h1⟩ := h
  refine ⟨fun _ => t, fun _ _ => p, fun W G I H σ τ s r Q w h q => ?_⟩
  unfold rOf at h
  split at h
  · rename_i b s1 eb
    cases h
    exact h1 _ _ _ _ _ _ _ _ _ w eb q
  · cases h
def rIf {Z : Res} (c : EFb Z) (g1 g2 : EFx Z) : EFx Z := fun τ s => match c τ s with
  | some (true, s1) => g1 τ s1
  | some (false, s1) => g2 τ s1
  | none => none
theorem PostR.mono {G I I1 : Hp} {σ : St} {τ : List SV} {W : WX} {Q : VK} {r : RsX Z.S} (m : Same I I1) (h : PostR X Z G I σ τ W Q r) : PostR X Z G I1 σ τ W Q r := by
  cases r with
  | ok a s => exact fun I' H' v m' => h I' H' v (m.trans m')
  | xc C f a s => exact fun I' H' d y m' => h I' H' d y (m.trans m')
theorem er_if (hc : EB X Z c fb) (ha : ER X Z a g1) (hb : ER X Z b g2) : ER X Z (.IfExp c a b pos) (rIf fb g1 g2) := by
  obtain ⟨tc, pc, h0⟩ := hc
  obtain ⟨ta, pa, h1⟩ := ha
  obtain ⟨tb, pb, h2⟩ := hb
  refine ⟨fun W => _, fun W tk => pe_ifExp pc (pa W tk) (pb W tk), fun W G I H σ τ s r Q w h q => ?_⟩
  unfold rIf at h
  split at h
  · rename_i s1 ec
    exact h0 _ _ _ _ _ _ _ _ _ w ec fun I1 H1 m1 w1 => iteT (h1 W _ _ _ _ _ _ _ _ w1 h (q.mono m1))
  · rename_i s1 ec
    exact h0 _ _ _ _ _ _ _ _ _ w ec fun I1 H1 m1 w1 => iteF (h2 W _ _ _ _ _ _ _ _ w1 h (q.mono m1))
  · cases h
theorem sp_useX {G I H : Hp} {σ : St} {τ : List SV} {s : Z.S} {ts : List T} {vs : List V} {r : RsX Z.S} {W : WX} {Q : VK} (w : Rep X.K Z G I H σ τ s) (i : IsL X.K I ts vs) (h : ff ts s = some r) (q : PostR X Z G I σ τ W Q r) : spX X.K Z ff vs H Q (WE W σ) := by
  refine ⟨I, ts, s, r, w.sub, fun p hp => (w.rf p hp).1, w.res, i, h, ?_⟩
  cases r with
  | ok a s' => exact fun I' H' v e rr ia => q I' H' v e.im (w.ext e rr) ia
  | xc C g a s' => exact fun I' H' d y e rr ed ia => q I' H' d y e.im (w.ext e rr) ed ia
def rCall {Z : Res} (ff : FX Z) (fs : EFs Z) : EFx Z := fun τ s => match fs τ s with
  | some (as, s1) => ff as s1
  | none => none
theorem er_call {x : Str} {p : Pos} (F : FnOk X.prog X.w X.K X.mg X.base (L2.CX X.prog X.w) k fa fd ps (spX X.K Z ff)) (hr : Room k X.A) (hg : Gl X x) (hm : X.mg x = some (.ref fa)) (hk : PySem.W.keepIn X.K (.ref fa) = true) (hb : Binds X.K fd ps []) (ha : EL X Z (e :: es) fs)
    (hdb : (x == ("__debug__" : Str)) = false := by decide) (he : starEach (e :: es) X.env = (false, eval e X.env) :: starEach es X.env := by rfl) (hpl : (backTo pos (starEach es X.env)).any (·.1) = false := by rfl) : ER X Z (.Call (.Name x p) (e :: es) [] pos) (rCall ff fs) := by
  obtain ⟨t, pa, h1⟩ := ha
  refine ⟨fun W => _, fun W tk => pe_callS F hr hg hm hk hb (fun σ => passAt tk σ) pa hdb he hpl, fun W G I H σ τ s r Q w h q => ?_⟩
  unfold rCall at h
  split at h
  · rename_i as s1 ea
    exact h1 _ _ _ _ _ _ _ _ _ w ea fun I1 H1 vs m1 w1 i1 => sp_useX w1 i1 h (q.mono m1)
  · cases h
/-! ### statements around them -/
def sSetR {Z : Res} (i : Nat) (g : EFx Z) : SF Z := fun τ s => match g τ s with
  | some (.ok a s1) => if i < τ.length then some (.nx (τ.set i (.im a)) s1) else none
  | some (.xc C f a s1) => some (.xc C f a τ s1)
  | none => none
theorem sx_setR {i : Nat} {x : Str} {pos' : Pos} (hN : X.N.Nodup) (hi : X.N[i]? = some x := by rfl) (he : ER X Z e g) (hx : Loc X.env.scope x := by first | exact Or.inl rfl | exact Or.inr rfl) (hs : swapsWith e (some (.Name x pos')) pos.line X.env = pure false := by rfl)
    (hf : X.fn x = true ∨ X.env.scope.names.lookup x = some .local := by first | exact .inl rfl | exact .inr rfl | assumption) : SX X Z (.Assign [.Name x pos'] e pos) (sSetR i g) := by
  obtain ⟨t, p, h1⟩ := he
  refine ⟨fun D σ H => ∃ W, Takes X W ∧ tAsg (t W) (gName i) D σ H, ⟨fun pins s σ H D I ⟨W, tk, h⟩ => (ps_set hN hi hx (p W tk) hs hf).run pins s σ H D I h⟩, fun G I H σ τ s o D w h q => ?_⟩
  unfold sSetR at h
  split at h
  · rename_i a s1 ea
    split at h
    · rename_i hl
      cases h
      exact ⟨_, takes0, h1 _ _ _ _ _ _ _ _ _ w ea fun I' H' v m w' i' => q I' H' _ m (w'.setIm hl i')⟩
    · cases h
  · rename_i C f a s1 ea
    cases h
    obtain ⟨W, tk, q⟩ := q
    exact ⟨W, tk, h1 W _ _ _ _ _ _ _ _ w ea fun I' H' d y m w' ed ia => q I' H' σ d y m w' ed ia⟩
  · cases h
def sRetR {Z : Res} (g : EFx Z) : SF Z := fun τ s => match g τ s with
  | some (.ok a s1) => some (.rt a s1)
  | some (.xc C f a s1) => some (.xc C f a τ s1)
  | none => none
theorem sx_retR (he : ER X Z e g) : SX X Z (.Return (some e) pos) (sRetR g) := by
  obtain ⟨t, p, h1⟩ := he
  refine ⟨fun D σ H => ∃ W, Takes X W ∧ tRet (t W) D σ H, ⟨fun pins s σ H D I ⟨W, tk, h⟩ => (ps_ret (p W tk)).run pins s σ H D I h⟩, fun G I H σ τ s o D w h q => ?_⟩
  unfold sRetR at h
  split at h
  · rename_i a s1 ea
    cases h
    exact ⟨_, takes0, h1 _ _ _ _ _ _ _ _ _ w ea fun I' H' v m w' i' => q I' H' v m w'.toRep0 i'⟩
  · rename_i C f a s1 ea
    cases h
    obtain ⟨W, tk, q⟩ := q
    exact ⟨W, tk, h1 W _ _ _ _ _ _ _ _ w ea fun I' H' d y m w' ed ia => q I' H' σ d y m w' ed ia⟩
  · cases h
def sAsgR {Z : Res} (g : EFx Z) (gt : GF) : SF Z := fun τ s => match g τ s with
  | some (.ok a s1) => match gt a τ with
    | some τ1 => some (.nx τ1 s1)
    | none => none
  | some (.xc C f a s1) => some (.xc C f a τ s1)
  | none => none
theorem sx_asgR {tg : Expr} {gt : GF} (he : ER X Z e g) (hg : GX X Z tg gt) (hs : swapsWithSole [tg] e pos.line X.env = pure false := by rfl) (hw : swappedStores [tg] e X.env = pure none := by rfl)
    (h1 : (assignEach [tg] X.env).map (·.2) = [assign tg X.env] := by rfl) : SX X Z (.Assign [tg] e pos) (sAsgR g gt) := by
  obtain ⟨t, p, q1⟩ := he
  obtain ⟨u, p', q2⟩ := hg
  refine ⟨fun D σ H => ∃ W, Takes X W ∧ tAsg (t W) u D σ H, ⟨fun pins s σ H D I ⟨W, tk, h⟩ => (ps_asg (p W tk) p' hs hw h1).run pins s σ H D I h⟩, fun G I H σ τ s o D w h q => ?_⟩
  unfold sAsgR at h
  split at h
  · rename_i a s1 ea
    split at h
    · rename_i τ1 et
      cases h
      exact ⟨_, takes0, q1 _ _ _ _ _ _ _ _ _ w ea fun I' H' v m w' i' => q2 _ _ _ _ _ s1 _ _ _ _ w' i' et fun σ' w2 => q I' H' σ' m w2⟩
    · cases h
  · rename_i C f a s1 ea
    cases h
    obtain ⟨W, tk, q⟩ := q
    exact ⟨W, tk, q1 W _ _ _ _ _ _ _ _ w ea fun I' H' d y m w' ed ia => q I' H' σ d y m w' ed ia⟩
  · cases h
end
/-! ### try: .. except C as n: .. -/
/-- a slot of which nothing is known any more -/
theorem Rep.unset {K : PySem.W.Frag} {Z : Res} {G I H : Hp} {σ : St} {τ : List SV} {s : Z.S} {i : Nat} (r : Rep K Z G I H σ τ s) : Rep K Z G I H (σ.set i none) (τ.set i .un) s := by
  refine ⟨r.toRep0, by rw [List.length_set, List.length_set]; exact r.len, fun j t h => ?_, fun j t h => ?_, fun j k t u p hjk h1 h2 h3 => ?_⟩
  · by_cases hj : i = j
    · subst hj
      by_cases hl : i < τ.length
      · rw [List.getElem?_set_self hl] at h
        cases h
      · rw [List.set_eq_of_length_le (by omega)] at h
        exact absurd (List.getElem?_eq_some_iff.mp h).1 hl
    · rw [List.getElem?_set_ne hj] at h ⊢
      exact r.im j t h
  · by_cases hj : i = j
    · subst hj
      by_cases hl : i < τ.length
      · rw [List.getElem?_set_self hl] at h
        cases h
      · rw [List.set_eq_of_length_le (by omega)] at h
        exact absurd (List.getElem?_eq_some_iff.mp h).1 hl
    · rw [List.getElem?_set_ne hj] at h ⊢
      exact r.ow j t h
  · have nj : ∀ {m : Nat} {t : T}, (τ.set i SV.un)[m]? = some (.ow t) → i ≠ m ∧ τ[m]? = some (.ow t) := fun {m t} h => by
      by_cases hm : i = m
      · subst hm
        by_cases hl : i < τ.length
        · rw [List.getElem?_set_self hl] at h
          cases h
        · rw [List.set_eq_of_length_le (by omega)] at h
          exact absurd (List.getElem?_eq_some_iff.mp h).1 hl
      · rw [List.getElem?_set_ne hm] at h
        exact ⟨hm, h⟩
    obtain ⟨a1, b1⟩ := nj h1
    obtain ⟨a2, b2⟩ := nj h2
    rw [List.getElem?_set_ne a1] at h3
    rw [List.getElem?_set_ne a2]
    exact r.inj j k t u p hjk b1 b2 h3
def clr {S : Type} (i : Nat) : Out S → Out S
  | .nx τ s => .nx (τ.set i .un) s
  | .bk τ s => .bk (τ.set i .un) s
  | .ct τ s => .ct (τ.set i .un) s
  | .rt a s => .rt a s
  | .xc C f a τ s => .xc C f a τ s
def isXc {S : Type} : Out S → Bool
  | .xc _ _ _ _ _ => true
  | _ => false
open Classical in
/-- gh b d: the suite, the exception at b, its dict at d -/
noncomputable def sTryAs {Z : Res} (i : Nat) (Cx : Addr) (gh : Addr → Addr → SF Z) (g : SF Z) : SF Z := fun τ s => match g τ s with
  | some (.xc C f a τ1 s1) => if h : C = Cx ∧ i < τ1.length ∧ ∃ o, isXc o = false ∧ ∀ b d, ∃ o', gh b d (τ1.set i (.im (.exc b d C f a))) s1 = some o' ∧ isXc o' = false ∧ clr i o' = o then some h.2.2.choose else none
  | o => o
theorem ev_try_n {Z : Res} {i : Nat} {Cx : Addr} {gh : Addr → Addr → SF Z} {g : SF Z} {τ : List SV} {s : Z.S} {o : Out Z.S} (h : g τ s = some o) (hn : isXc o = false) : sTryAs i Cx gh g τ s = some o := by
  unfold sTryAs
  rw [h]
  cases o <;> first | rfl | cases hn
theorem ev_try_x {Z : Res} {i : Nat} {Cx : Addr} {gh : Addr → Addr → SF Z} {g : SF Z} {τ τ1 : List SV} {s s1 : Z.S} {f : Str} {a : T} {o : Out Z.S} (h : g τ s = some (.xc Cx f a τ1 s1)) (hi : i < τ1.length) (hn : isXc o = false)
    (hh : ∀ b d, ∃ o', gh b d (τ1.set i (.im (.exc b d Cx f a))) s1 = some o' ∧ isXc o' = false ∧ clr i o' = o) : sTryAs i Cx gh g τ s = some o := by
  unfold sTryAs
  simp only [h]
  have hx : Cx = Cx ∧ i < τ1.length ∧ ∃ o, isXc o = false ∧ ∀ b d, ∃ o', gh b d (τ1.set i (.im (.exc b d Cx f a))) s1 = some o' ∧ isXc o' = false ∧ clr i o' = o := ⟨rfl, hi, o, hn, hh⟩
  rw [dif_pos hx]
  obtain ⟨_, hc⟩ := hx.2.2.choose_spec
  obtain ⟨o1, e1, _, c1⟩ := hc 0 0
  obtain ⟨o2, e2, _, c2⟩ := hh 0 0
  rw [e1] at e2
  cases e2
  rw [← c1, c2]
/-- told with a wish for exceptions -/
def tSW (K : PySem.W.Frag) (Z : Res) (g : SF Z) (W : WX) : TS := fun D σ H => ∃ G I τ s o, Rep K Z G I H σ τ s ∧ g τ s = some o ∧ (match o with
  | .nx τ s => ∀ I' H' σ', Same I I' → Rep K Z G I' H' σ' τ s → D.nx σ' H'
  | .bk τ s => ∀ I' H' σ', Same I I' → Rep K Z G I' H' σ' τ s → D.bk σ' H'
  | .ct τ s => ∀ I' H' σ', Same I I' → Rep K Z G I' H' σ' τ s → D.ct σ' H'
  | .rt a s => ∀ I' H' v, Same I I' → Rep0 Z G I' H' s → Is K I' a v → D.rt v H'
  | .xc C f a τ s => ∀ I' H' σ' d y, Same I I' → Rep K Z G I' H' σ' τ s → I' d = some (.xd [(f, y)]) → Is K I' a y → W (.ref C) (some d) σ' H')
theorem SS.pssW {X : Cx} {Z : Res} {W : WX} {sts : List Stmt} {g : SF Z} (tk : Takes X W) (h : SS X Z sts g) : PSs X sts (tSW X.K Z g W) := by
  obtain ⟨t, p, h1⟩ := h
  refine ⟨fun pins s σ H D J ⟨G, I, τ, z, o, w, e, q⟩ => p.run pins s σ H D J (h1 _ _ _ _ _ _ o _ w e ?_)⟩
  cases o with
  | nx τ s => exact q
  | bk τ s => exact q
  | ct τ s => exact q
  | rt a s => exact q
  | xc C f a τ s => exact ⟨W, tk, q⟩
section
variable {X : Cx} {Z : Res} {x n : Str} {Cx : Addr} {i : Nat} {body suite : List Stmt} {b₀ : Stmt} {np pos pos' : Pos} {g : SF Z} {gh : Addr → Addr → SF Z}
theorem sx_tryAs (hs : X.stack = X.env :: X.outer) (hf : X.env.frame = some X.env.locals) (hN : X.N.Nodup) (hi : X.N[i]? = some n) (hln : X.env.kindOf n = some .local) (hc : Names X x (.ref Cx)) (hex : PySem.W.exmOne X.K (.ref Cx) (.ref Cx) = some true)
    (hb : ∀ (pn : List (Addr × Obj)) (xe : Value → Shared → Prop), PassesOwn (model X.prog X.w) X.A X.env xe → SS (X.tr pn xe) Z body g)
    (hsu : ∀ (a : Addr) (oe : Obj) (d : Addr) (pn : List (Addr × Obj)), Zc (.ref Cx) (some d) oe → (∃ vs, oe.data = .fields vs) → SS (X.suite a ((a, oe) :: pn)) Z (b₀ :: suite) (gh a d)) :
    SX X Z (.Try body [.ExceptHandler (some (.Name x np)) (some n) (b₀ :: suite) pos'] [] [] pos) (sTryAs i Cx gh g) := by
  refine ⟨_, ps_try_as (i := i) (tb := fun W => tSW X.K Z g W) (ts := fun a cls d D σ H => ∃ d', cls = .ref Cx ∧ d = some d' ∧ tS X.K Z (gh a d') D σ H) (Wout := fun _ _ _ _ => False) hs hf hN hi hln hc takes0
    (fun W pn xe tk pw => (hb pn xe pw).pssW tk)
    (fun a oe cls d pn hz hd => ⟨fun pins s σ H D J ⟨d', e1, e2, q⟩ => by
      subst e1 e2
      exact (hsu a oe d' pn hz hd).pss.run pins s σ H D J q⟩), fun G I H σ τ s o D w h q => ?_⟩
  show tSW X.K Z g _ D σ H
  unfold sTryAs at h
  split at h
  · rename_i C f a τ1 s1 eg
    split at h
    · rename_i hh
      obtain ⟨rfl, hl, hx⟩ := hh
      cases h
      obtain ⟨hn, hc⟩ := hx.choose_spec
      refine ⟨G, I, τ, s, _, w, eg, fun I' H' σ' d y m w' ed ia => ⟨true, hex, fun _ b nb => ⟨d, rfl, rfl, ?_⟩, fun z => by cases z⟩⟩
      obtain ⟨o', e1, n1, c1⟩ := hc b d
      have w2 := w'.setIm (i := i) (v := .ref b) (a := .exc b d C f a) hl ⟨rfl, y, ed, ia⟩
      refine ⟨G, I', _, s1, o', w2, e1, ?_⟩
      rw [← c1] at q
      cases o' with
      | nx τ2 s2 => exact fun I2 H2 σ2 m2 w3 => q I2 H2 _ (m.trans m2) w3.unset
      | bk τ2 s2 => exact fun I2 H2 σ2 m2 w3 => q I2 H2 _ (m.trans m2) w3.unset
      | ct τ2 s2 => exact fun I2 H2 σ2 m2 w3 => q I2 H2 _ (m.trans m2) w3.unset
      | rt a2 s2 => exact fun I2 H2 v m2 w3 iv => q I2 H2 v (m.trans m2) w3 iv
      | xc C2 f2 a2 τ2 s2 => cases n1
    · cases h
  · rename_i hn
    refine ⟨G, I, τ, s, o, w, h, ?_⟩
    cases o with
    | nx τ2 s2 => exact q
    | bk τ2 s2 => exact q
    | ct τ2 s2 => exact q
    | rt a2 s2 => exact q
    | xc C2 f2 a2 τ2 s2 => exact absurd h (hn _ _ _ _ _)
end
end L2.TL
/-! TXd: what a suite asks of the exception it holds; isinstance with a class of the program. -/
namespace L2.TL
open PySem PySem.Spec
open PyProof.Rows
/-- for isinstance: where the class's instances get __class__ from -/
structure XI (K : PySem.W.Frag) (C : Addr) : Prop where
  ha : PySem.W.findIn K (.ref C) "__class__" = some (some (.builtin "object.__class__"))
  hn : PySem.W.specialIn K (.builtin "object.__class__") "__get__" = some (some (.builtin "getset_descriptor.__get__"))
  ht : PySem.W.takesIn K (.builtin "object.__class__") = some true
  hm : PySem.W.mroIn K C (.type "object") = some true
theorem XC.isCls {K : PySem.W.Frag} {C : Addr} (T : XC K C) : (PySem.W.clsIn K C).isSome = true := by
  obtain ⟨c1, c2, c3, c4, c5, c6, c7, c8, c9, c10, c11, c12, c13, c14, c15, hC, _⟩ := T.cls
  unfold PySem.W.clsIn
  rw [hC]
  rfl
section
variable {X : Cx} {Z : Res} {e : Expr} {f : EF Z} {a d C : Addr} {oe : Obj} {pn : List (Addr × Obj)} {pos : Pos} {fn : Str}
def xXf {Z : Res} (a d C : Addr) (fn : Str) (f : EF Z) : EF Z := fun τ s => match f τ s with
  | some (.exc b d' C' g t, s1) => if b = a ∧ d' = d ∧ C' = C ∧ g = fn then some (t, s1) else none
  | _ => none
theorem ex_xf (T : XC X.K C) (hno : PySem.W.findIn X.K (.ref C) fn = some none) (hz : Zc (.ref C) (some d) oe) (hf : ∃ vs, oe.data = .fields vs) (he : EX (X.suite a ((a, oe) :: pn)) Z e f)
    (hb : attributeBase e fn X.env (eval e X.env) = eval e X.env := by rfl) : EX (X.suite a ((a, oe) :: pn)) Z (.Attribute e fn pos) (xXf a d C fn f) := by
  obtain ⟨t, p, h1⟩ := he
  refine ⟨_, pe_xf (cls := .ref C) (d := some d) ⟨T.ga, T.gg, T.exC, T.hdC⟩ hno hz hf p hb, fun G I H σ τ s b s' Q w h q => ?_⟩
  unfold xXf at h
  split at h
  · rename_i b d' C' g t s1 ea
    split at h
    · rename_i hh
      obtain ⟨rfl, rfl, rfl, rfl⟩ := hh
      cases h
      refine h1 _ _ _ _ _ _ _ _ _ w ea fun I1 H1 v m1 w1 i1 => ?_
      obtain ⟨rfl, y, ed, iy⟩ := i1
      exact ⟨rfl, rfl, d', _, y, rfl, w1.sub _ _ ed, by simp [List.lookup], q I1 H1 y m1 w1 iy⟩
    · cases h
  · cases h
def rIsX (K : PySem.W.Frag) (D a d : Addr) : List V → Hp → VK → Prop := fun xs H Q => ∃ (c : V) (cv : Value) (b : Bool) (fs : List (Str × V)), xs = [.ref a, c] ∧ ClsV c cv ∧ PySem.W.kitOne K (.ref D) cv = some b ∧ H d = some (.xd fs) ∧ Q (.bl b) H
theorem call_isX (T : XC X.K C) (TI : XI X.K C) (hz : Zc (.ref C) (some d) oe) (hf : ∃ vs, oe.data = .fields vs) : CallR (X.suite a ((a, oe) :: pn)) (.builtin "isinstance") (rIsX X.K C a d) := by
  intro pins s σ H xs us Q I r h
  obtain ⟨c, cv, b, fs, rfl, k, e, ed, q⟩ := h
  obtain ⟨u1, u2, rfl, r1, r2⟩ := vals2 r
  have e2 := k.eq r2
  subst e2
  cases (show u1 = Value.ref a from r1)
  obtain ⟨hget, _⟩ := I.pin (a, oe) (List.mem_append.mpr (.inl List.mem_cons_self))
  obtain ⟨vs, hv⟩ := hf
  have ox : ObjOk X.prog X.w H s.heap d (.xd fs) := I.hok d _ ed
  obtain ⟨mA, ⟨od, _, _, ho, _⟩, _⟩ := ox
  have J : PySem.W.InstAt s.heap a oe C (some od) := by
    refine ⟨hget, hz.1, ?_, ?_⟩
    · unfold PySem.W.notCls
      rw [hv] <;> rfl
    · rw [hz.2]
      exact ho
  exact PySem.W.kia_one (PySem.W.kitx_exc T.isCls T.ga T.gg T.exC TI.ha TI.hn TI.ht TI.hm) I.kIn J e (fun z => nomatch z) fun tk => ⟨.bl b, H, I.kept (t' := tk) fun _ _ z => z, rfl, q⟩
/-- isinstance(e, D), e the exception of the class at C that the suite holds: b -/
def xIsX {Z : Res} (a d C : Addr) (b : Bool) (f : EF Z) : EF Z := fun τ s => match f τ s with
  | some (.exc a' d' C' _ _, s1) => if a' = a ∧ d' = d ∧ C' = C then some (.bl b, s1) else none
  | _ => none
theorem ex_isX {x y : Str} {p p' : Pos} {D : Addr} {b : Bool} (T : XC X.K C) (TI : XI X.K C) (hz : Zc (.ref C) (some d) oe) (hf : ∃ vs, oe.data = .fields vs) (hk : PySem.W.kitOne X.K (.ref C) (.ref D) = some b)
    (hg : Gl X x) (hm : X.mg x = none) (he : EX (X.suite a ((a, oe) :: pn)) Z e f) (hgy : Gl X y) (hmy : X.mg y = some (.ref D)) (hv : bootBuiltins x = some (.builtin "isinstance") := by decide +kernel) (hnn : x ≠ "__name__" := by decide) (hdb : (x == ("__debug__" : Str)) = false := by decide)
    (hdby : (y == ("__debug__" : Str)) = false := by decide) (hst : starEach (e :: [.Name y p']) X.env = (false, eval e X.env) :: starEach [.Name y p'] X.env := by rfl) (hpl : (backTo pos (starEach [.Name y p'] X.env)).any (·.1) = false := by rfl) :
    EX (X.suite a ((a, oe) :: pn)) Z (.Call (.Name x p) [e, .Name y p'] [] pos) (xIsX a d C b f) := by
  obtain ⟨t, pe, h1⟩ := he
  refine ⟨_, pe_callB (call_isX T TI hz hf) hg hm hv (pa_cons pe (pa_cons (pe_glob hgy hmy (v := .ref D) rfl hdby) pa_nil) hst) hnn hdb hst hpl, fun G I H σ τ s c s' Q w h q => ?_⟩
  unfold xIsX at h
  split at h
  · rename_i a' d' C' g t s1 ea
    split at h
    · rename_i hh
      obtain ⟨rfl, rfl, rfl⟩ := hh
      cases h
      refine h1 _ _ _ _ _ _ _ _ _ w ea fun I1 H1 v m1 w1 i1 => ?_
      obtain ⟨rfl, y, ed, iy⟩ := i1
      exact ⟨.ref D, .ref D, b, _, rfl, .own D, hk, w1.sub _ _ ed, q I1 H1 _ m1 w1 rfl⟩
    · cases h
  · cases h
end
/-! ### isinstance(x, C), C a class of the program -/
/-- what the classes say of isinstance with the class at C: no value of the built-in ones is one; of those at Ds, b -/
structure KitC (K : PySem.W.Frag) (C : Addr) (Ds : List (Addr × Bool)) : Prop where
  non : PySem.W.kitOne K (.type "NoneType") (.ref C) = some false
  bl : PySem.W.kitOne K (.type "bool") (.ref C) = some false
  int : PySem.W.kitOne K (.type "int") (.ref C) = some false
  str : PySem.W.kitOne K (.type "str") (.ref C) = some false
  tup : PySem.W.kitOne K (.type "tuple") (.ref C) = some false
  lst : PySem.W.kitOne K (.type "list") (.ref C) = some false
  dct : PySem.W.kitOne K (.type "dict") (.ref C) = some false
  own : ∀ p ∈ Ds, PySem.W.kitOne K (.ref p.1) (.ref C) = some p.2 ∧ Cls K p.1 ∧ XI K p.1
def isC (Ds : List (Addr × Bool)) : T → Option Bool
  | .ins C _ => (Ds.find? fun p => decide (p.1 = C)).map (·.2)
  | t => match tyName t with
    | some _ => some false
    | none => none
def xIsC {Z : Res} (Ds : List (Addr × Bool)) (f : EF Z) : EF Z := fun τ s => match f τ s with
  | some (a, s1) => match isC Ds a with
    | some b => some (.bl b, s1)
    | none => none
  | none => none
section
variable {X : Cx} {Z : Res} {e : Expr} {f : EF Z} {C : Addr} {pos : Pos}
theorem ex_isC {x y : Str} {p p' : Pos} {Ds : List (Addr × Bool)} (Kc : KitC X.K C Ds) (hg : Gl X x) (hm : X.mg x = none) (he : EX X Z e f) (hgy : Gl X y) (hmy : X.mg y = some (.ref C)) (hv : bootBuiltins x = some (.builtin "isinstance") := by decide +kernel) (hnn : x ≠ "__name__" := by decide) (hdb : (x == ("__debug__" : Str)) = false := by decide)
    (hdby : (y == ("__debug__" : Str)) = false := by decide) (hst : starEach (e :: [.Name y p']) X.env = (false, eval e X.env) :: starEach [.Name y p'] X.env := by rfl) (hpl : (backTo pos (starEach [.Name y p'] X.env)).any (·.1) = false := by rfl) :
    EX X Z (.Call (.Name x p) [e, .Name y p'] [] pos) (xIsC Ds f) := by
  obtain ⟨t, pe, h1⟩ := he
  refine ⟨_, pe_callB call_isi hg hm hv (pa_cons pe (pa_cons (pe_glob hgy hmy (v := .ref C) rfl hdby) pa_nil) hst) hnn hdb hst hpl, fun G I H σ τ s c s' Q w h q => ?_⟩
  unfold xIsC at h
  split at h
  · rename_i a s2 ea
    split at h
    · rename_i b eb
      cases h
      refine h1 _ _ _ _ _ _ _ _ _ w ea fun I1 H1 v m1 w1 i1 => ?_
      have fin : ∀ (t : Value), TyX X.K H1 v t → PySem.W.kitOne X.K t (.ref C) = some b → rIsi X.K [v, .ref C] H1 Q := fun t ty k => ⟨v, .ref C, t, .ref C, b, rfl, .own C, ty, k, q I1 H1 _ m1 w1 rfl⟩
      cases a with
      | ins D fs =>
        obtain ⟨p, hp, eb⟩ := Option.map_eq_some_iff.mp eb
        have pd : p.1 = D := by simpa using List.find?_some hp
        obtain ⟨k1, k2, k3⟩ := Kc.own p (List.mem_of_find?_eq_some hp)
        rw [pd] at k1 k2 k3
        rw [eb] at k1
        obtain ⟨r, dx, xs, rfl, er, _⟩ := i1
        exact fin _ (.base (.ins (w1.sub _ _ er) k2 k3.ha k3.hn k3.ht k3.hm)) k1
      | non => cases eb; exact fin _ (tyX_of (t := .non) w1 i1 rfl) Kc.non
      | bl k => cases eb; exact fin _ (tyX_of (t := .bl k) w1 i1 rfl) Kc.bl
      | int k => cases eb; exact fin _ (tyX_of (t := .int k) w1 i1 rfl) Kc.int
      | str k => cases eb; exact fin _ (tyX_of (t := .str k) w1 i1 rfl) Kc.str
      | tup k => cases eb; exact fin _ (tyX_of (t := .tup k) w1 i1 rfl) Kc.tup
      | lst k => cases eb; exact fin _ (tyX_of (t := .lst k) w1 i1 rfl) Kc.lst
      | dct k => cases eb; exact fin _ (tyX_of (t := .dct k) w1 i1 rfl) Kc.dct
      | adr k => cases eb
      | exc _ _ _ _ _ => cases eb
      | ltp _ => cases eb
      | exv _ _ => cases eb
    · cases h
  · cases h
end
end L2.TL
/-! TXo: objects of classes of the program: fields, __init__, making them. -/
namespace L2.TL
open PySem PySem.Spec
open PyProof.Rows
theorem IsF.get {K : PySem.W.Frag} {I : Hp} {fn : Str} {t : T} : ∀ {fs : List (Str × T)} {xs : List (Str × V)}, IsF K I fs xs → fs.lookup fn = some t → ∃ v, xs.lookup fn = some v ∧ Is K I t v
  | [], _, _, h => by cases h
  | (g, u) :: r, _, i, h => by
    obtain ⟨y, ys, rfl, iy, ir⟩ := i
    rw [List.lookup_cons] at h ⊢
    by_cases e : (fn == g) = true
    · rw [e] at h ⊢
      cases h
      exact ⟨y, rfl, iy⟩
    · rw [Bool.eq_false_iff.mpr e] at h ⊢
      exact IsF.get ir h
theorem IsF.getN {K : PySem.W.Frag} {I : Hp} {fn : Str} : ∀ {fs : List (Str × T)} {xs : List (Str × V)}, IsF K I fs xs → fs.lookup fn = none → xs.lookup fn = none
  | [], _, i, _ => by
    have i : _ = [] := i
    subst i
    rfl
  | (g, u) :: r, _, i, h => by
    obtain ⟨y, ys, rfl, iy, ir⟩ := i
    rw [List.lookup_cons] at h ⊢
    by_cases e : (fn == g) = true
    · rw [e] at h
      cases h
    · rw [Bool.eq_false_iff.mpr e] at h ⊢
      exact IsF.getN ir h
/-- store in a tree's fields -/
def putFT (f : Str) (t : T) : List (Str × T) → List (Str × T)
  | [] => [(f, t)]
  | (g, x) :: r => if g = f then (g, t) :: r else (g, x) :: putFT f t r
theorem IsF.put {K : PySem.W.Frag} {I : Hp} {fn : Str} {t : T} {v : V} (it : Is K I t v) : ∀ {fs : List (Str × T)} {xs : List (Str × V)}, IsF K I fs xs → IsF K I (putFT fn t fs) (putF fn v xs)
  | [], _, i => by
    have i : _ = [] := i
    subst i
    exact ⟨v, [], rfl, it, rfl⟩
  | (g, u) :: r, _, i => by
    obtain ⟨y, ys, rfl, iy, ir⟩ := i
    simp only [putFT, putF]
    split
    · exact ⟨v, ys, rfl, it, ir⟩
    · exact ⟨y, _, rfl, iy, IsF.put it ir⟩
theorem IsF.len {K : PySem.W.Frag} {I : Hp} : ∀ {fs : List (Str × T)} {xs : List (Str × V)}, IsF K I fs xs → xs.length = fs.length
  | [], _, i => by
    have i : _ = [] := i
    subst i
    rfl
  | (g, u) :: r, _, i => by
    obtain ⟨y, ys, rfl, iy, ir⟩ := i
    simp [IsF.len ir]
section
variable {X : Cx} {Z : Res} {e o : Expr} {f : EF Z} {pos pos' : Pos} {fn : Str}
/-! ### e.fn -/
def xFld {Z : Res} (Cs : List Addr) (fn : Str) (f : EF Z) : EF Z := fun τ s => match f τ s with
  | some (.ins C fs, s1) => if C ∈ Cs then match fs.lookup fn with
    | some t => some (t, s1)
    | none => none
    else none
  | _ => none
theorem ex_fld {Cs : List Addr} (hC : ∀ C ∈ Cs, Cls X.K C ∧ NoAttr X.K C fn) (he : EX X Z e f) (hb : attributeBase e fn X.env (eval e X.env) = eval e X.env := by rfl) : EX X Z (.Attribute e fn pos) (xFld Cs fn f) := by
  obtain ⟨t, p, h1⟩ := he
  refine ⟨_, pe_fld p hb, fun G I H σ τ s a s' Q w h q => ?_⟩
  unfold xFld at h
  split at h
  · rename_i C fs s1 ea
    split at h
    · rename_i hm
      split at h
      · rename_i t' et
        cases h
        refine h1 _ _ _ _ _ _ _ _ _ w ea fun I1 H1 v m1 w1 i1 => ?_
        obtain ⟨r, dx, xs, rfl, er, ix⟩ := i1
        obtain ⟨y, ey, iy⟩ := ix.get et
        obtain ⟨c1, c2⟩ := hC C hm
        exact ⟨r, C, dx, xs, y, rfl, w1.sub _ _ er, c1, c2, ey, q I1 H1 y m1 w1 iy⟩
      · cases h
    · cases h
  · cases h
end
/-! ### the object that is being made, as a resource -/
abbrev selfZ (K : PySem.W.Frag) (C self : Addr) : Res where
  S := List (Str × T)
  F := fun p => p = self
  R := fun fs I H => ∃ dx xs, H self = some (.ins C dx xs) ∧ IsF K I fs xs
  dom := fun fs I H p ⟨dx, xs, h, _⟩ e => ⟨.ins C dx xs, by subst e; exact h⟩
  loc := fun fs I H I' H' ⟨dx, xs, h, i⟩ m e => ⟨dx, xs, by rw [e self rfl]; exact h, i.mono m⟩
section
variable {C self : Addr} {X : Cx} {e : Expr} {pos pos' : Pos} {fn : Str}
/-- self.fn = e -/
def sFldZ (K : PySem.W.Frag) (C self : Addr) (i : Nat) (fn : Str) (f : EF (selfZ K C self)) : SF (selfZ K C self) := fun τ s => match τ[i]? with
  | some (.im (.adr a)) => if a = self then match f τ s with
    | some (b, fs) => if List.length fs < 900 then some (.nx τ (putFT fn b fs)) else none
    | none => none
    else none
  | _ => none
theorem sx_fldZ (i : Nat) {x : Str} {p : Pos} {f : EF (selfZ X.K C self)} (c : Cls X.K C) (n : NoAttr X.K C fn) (he : EX X (selfZ X.K C self) e f) (hN : X.N[i]? = some x := by rfl) (hv : Vis X.env.scope x := by first | exact Or.inl rfl | exact Or.inr (Or.inl rfl) | exact Or.inr (Or.inr rfl))
    (hd : (x == ("__debug__" : Str)) = false := by decide) (hcd : (x == ("__classdict__" : Str)) = false := by decide) (hs : swapsWith e (some (.Attribute (.Name x p) fn pos')) pos.line X.env = pure false := by rfl) :
    SX X (selfZ X.K C self) (.Assign [.Attribute (.Name x p) fn pos'] e pos) (sFldZ X.K C self i fn f) := by
  obtain ⟨t, pe, h1⟩ := he
  refine ⟨_, ps_fld (pe_var hN hv hd hcd) pe hs, fun G I H σ τ s o D w h q => ?_⟩
  unfold sFldZ at h
  split at h
  case h_2 => cases h
  rename_i a hi
  split at h
  case isFalse => cases h
  rename_i ha
  subst ha
  split at h
  case h_2 => cases h
  rename_i b fs eb
  split at h
  case isFalse => cases h
  rename_i hl
  cases h
  refine h1 _ _ _ _ _ _ _ _ _ w eb fun I1 H1 v m1 w1 i1 => ?_
  obtain ⟨y, hy, iy⟩ := w1.im i _ hi
  have iy : y = .ref a := iy
  subst iy
  obtain ⟨dx, xs, hx, ix⟩ := w1.res
  refine ⟨.ref a, hy, a, C, dx, xs, rfl, hx, c, n, by rw [ix.len]; omega, ?_⟩
  have na := w1.rf a rfl
  refine q I1 _ σ m1 ?_
  refine ⟨⟨fun p o e => ?_, ⟨dx, putF fn v xs, upd_same, ix.put i1⟩, w1.rf, fun p o e => ?_⟩, w1.len, w1.im, fun j u e => ?_, w1.inj⟩
  · rw [upd_ne (ne_of_none e na.1)]
    exact w1.sub p o e
  · rw [upd_ne (ne_of_none e na.2)]
    exact w1.fr p o e
  · obtain ⟨p, ob, g1, g2, g3, g4, g5, g6⟩ := w1.ow j u e
    exact ⟨p, ob, g1, g2, g3, g4, by rw [upd_ne (show p ≠ a from g4)]; exact g5, g6⟩
end
/-! ### a class's __init__, and making -/
section
variable {P : Program} {w : World} {K : PySem.W.Frag} {mg : Str → Option Value} {base : Heap} {k : Nat} {fI C : Addr} {fd : FuncData} {N ps : List Str} {qual : Str} {st : Stmt}
/-- the promise of an __init__ -/
def spN (K : PySem.W.Frag) (C : Addr) (F : ∀ self : Addr, FX (selfZ K C self)) : Sp := fun vs H Q E => ∃ self, spX K (selfZ K C self) (F self) vs H Q E
theorem fn_init {g : ∀ self : Addr, SF (selfZ K C self)} (F : Fun K "__init__" qual st fI fd) (S : FnScope N ps (defScope st))
    (hb : ∀ (self : Addr) (cdv : Value) (A : Around) (out : List Env) (z : Shared) (H : Hp) (E : XK), Room k (A.deeper (envOfC qual (defScope st) z.heap.objs.size fI cdv)) → SS (cxOf (L2.CX P w) P w K mg base N qual (defScope st) fI cdv A out z H E) (selfZ K C self) (defBody st) (g self)) :
    FnOk P w K mg base (L2.CX P w) (k + 1) fI fd ps (spN K C fun self => bodyX ps.length N.length (g self)) := by
  have h : ∀ self, FnOk P w K mg base (L2.CX P w) (k + 1) fI fd ps (spX K (selfZ K C self) (bodyX ps.length N.length (g self))) := fun self => fn_defX F S (hb self)
  exact ⟨fun vs H Q E ⟨self, q⟩ => (h self).len vs H Q E q, fun A out s H ar us vs Q E hr e0 bd r ⟨self, q⟩ => (h self).run A out s H ar us vs Q E hr e0 bd r q⟩
end
def mkOut (C : Addr) : RsX (List (Str × T)) → Option (RsX Unit)
  | .ok .non fs => some (.ok (.ins C fs) ())
  | .ok _ _ => none
  | .xc D g a _ => some (.xc D g a ())
/-- .. in a state -/
def liftR {S : Type} (s : S) : RsX Unit → RsX S
  | .ok a _ => .ok a s
  | .xc D g a _ => .xc D g a s
open Classical in
/-- what C(..) comes to -/
noncomputable def mkF (C : Addr) (F : Addr → List T → List (Str × T) → Option (RsX (List (Str × T)))) : List T → Option (RsX Unit) := fun ts => if h : ∃ r, ∀ self, ∃ q, F self (.adr self :: ts) [] = some q ∧ mkOut C q = some r then some h.choose else none
theorem ev_mk {C : Addr} {F : Addr → List T → List (Str × T) → Option (RsX (List (Str × T)))} {ts : List T} {r : RsX Unit} (h : ∀ self, ∃ q, F self (.adr self :: ts) [] = some q ∧ mkOut C q = some r) : mkF C F ts = some r := by
  have hx : ∃ r, ∀ self, ∃ q, F self (.adr self :: ts) [] = some q ∧ mkOut C q = some r := ⟨r, h⟩
  unfold mkF
  rw [dif_pos hx]
  obtain ⟨q1, e1, c1⟩ := hx.choose_spec 0
  obtain ⟨q2, e2, c2⟩ := h 0
  rw [e1] at e2
  cases e2
  rw [← c1, c2]
theorem mkF_at {C : Addr} {F : Addr → List T → List (Str × T) → Option (RsX (List (Str × T)))} {ts : List T} {r : RsX Unit} (h : mkF C F ts = some r) (self : Addr) : ∃ q, F self (.adr self :: ts) [] = some q ∧ mkOut C q = some r := by
  unfold mkF at h
  split at h
  · rename_i hx
    cases h
    exact hx.choose_spec self
  · cases h
def rMake {Z : Res} (m : List T → Option (RsX Unit)) (fs : EFs Z) : EFx Z := fun τ s => match fs τ s with
  | some (as, s1) => match m as with
    | some r => some (liftR s1 r)
    | none => none
  | none => none
section
variable {X : Cx} {Z : Res} {e : Expr} {es : List Expr} {fs : EFs Z} {pos : Pos} {k : Nat} {fI C : Addr} {fd : FuncData} {ps ks : List Str} {kws : List Keyword}
/-- C(..) runs: the arguments bound by ar -/
theorem run_mk {pins : List (Addr × Obj)} {σ : St} {H : Hp} {s : Shared} {Q : VK} {us : List Value} {kw : List (Str × Value)} {ws : List Value} {vs : List V} {sp : Sp} {E : XK} (M : Mk X.K C fI) (F : FnOk X.prog X.w X.K X.mg X.base (L2.CX X.prog X.w) k fI fd ps sp) (hr : Room (k + 1) X.A)
    (hb : ∀ x s, X.K.In s.heap → (Value.ref x :: ws).length = ps.length → BindsTo s fd ⟨.ref x :: us, kw⟩ (ps.zip (.ref x :: ws))) (hx : PassesAt (L2.CX X.prog X.w) X σ E) (I : Inv X pins σ H s) (r : Vals vs ws)
    (h : ∀ x dx, H x = none → H dx = none → dx ≠ x → sp (.ref x :: vs) (upd (upd H dx (.own x)) x (.ins C dx [])) (fun v H2 => v = .non ∧ Q (.ref x) H2) E) : wpAny (model X.prog X.w) X.A (call (.ref C) us kw) (EP X pins σ Q) X.xe s := by
  have hq := h (s.heap.objs.size + 1) s.heap.objs.size (I.hok.fresh (Nat.le_succ _)) (I.hok.fresh (Nat.le_refl _)) (Nat.ne_of_lt (Nat.lt_succ_self _))
  have J := Inv.made (C := C) I
  have rr : Vals (V.ref (s.heap.objs.size + 1) :: vs) (Value.ref (s.heap.objs.size + 1) :: ws) := .cons rfl r
  have hl : (Value.ref (s.heap.objs.size + 1) :: ws).length = ps.length := by
    rw [← rr.length]
    exact F.len _ _ _ _ hq
  refine wpAny_call (make_map (f := fI) I.kIn M.makes M.init (beq_iff_eq.mp M.fn) ?_)
  refine codeAny_mono (F.run _ X.stack _ _ ⟨Value.ref (s.heap.objs.size + 1) :: us, kw⟩ _ _ _ E (hr.make C us kw) (J.env0.make C us kw) (hb _ _ J.kIn hl) rr hq) ?_
  intro res z hz
  rcases res with er | fl
  · exact hx pins _ _ er z J hz
  cases fl with
  | ret u =>
    obtain ⟨v, H', J3, rv, ev, q3⟩ := J.after hz
    subst ev
    exact ⟨rv, .ref (s.heap.objs.size + 1), H', J3, rfl, q3⟩
  | next => exact hz.elim
  | brk => exact hz.elim
  | cont => exact hz.elim
/-- what the caller knows behind it -/
theorem mk_use {F : ∀ self : Addr, FX (selfZ X.K C self)} {G I H : Hp} {σ : St} {τ : List SV} {s : Z.S} {as : List T} {vs : List V} {r : RsX Z.S} {r0 : RsX Unit} {W : WX} {Q : VK} (w : Rep X.K Z G I H σ τ s) (i : IsL X.K I as vs) (h : mkF C F as = some r0)
    (hr : liftR s r0 = r) (q : PostR X Z G I σ τ W Q r) (x dx : Addr) (nx : H x = none) (nd : H dx = none) (ne : dx ≠ x) :
    spN X.K C F (.ref x :: vs) (upd (upd H dx (.own x)) x (.ins C dx [])) (fun v H2 => v = .non ∧ Q (.ref x) H2) (WE W σ) := by
  obtain ⟨q0, e0, c0⟩ := mkF_at h x
  have ix : I x = none := w.sub.free nx
  have idx : I dx = none := w.sub.free nd
  have sub : Same I (upd (upd H dx (.own x)) x (.ins C dx [])) := fun b o e => by
    rw [upd_ne (ne_of_none e ix), upd_ne (ne_of_none e idx)]
    exact w.sub b o e
  have ext : ∀ {I' H' : Hp}, Ext (selfZ X.K C x).F I (upd (upd H dx (.own x)) x (.ins C dx [])) I' H' → Ext (fun _ => False) I H I' H' := fun {I' H'} e =>
    ⟨e.im, e.sub, fun p o h1 _ h3 => by
      have p1 : p ≠ x := ne_of_none h3 nx
      have p2 : p ≠ dx := ne_of_none h3 nd
      exact e.own p o h1 p1 (by rw [upd_ne p1, upd_ne p2]; exact h3), fun _ h _ => h.elim⟩
  refine ⟨x, I, .adr x :: as, [], q0, sub, fun p hp => by rw [show p = x from hp]; exact ix, ⟨dx, [], upd_same, rfl⟩, IsL.cons rfl i, e0, ?_⟩
  subst hr
  cases q0 with
  | ok a fs =>
    cases a <;> first | (cases c0; done) | skip
    cases c0
    intro I' H' v ee ⟨dx', xs', hx', if'⟩ iv
    have w1 := w.extN (ext ee)
    have iv : v = .non := iv
    refine ⟨iv, ?_⟩
    have u : Own1 X.K Z G I' H' σ τ x (.ins C dx' xs') (.ins C fs) := ⟨ee.nof x rfl ix, w.nG nx, w.nF nx, hx', ⟨rfl, if'⟩, w.notOwned nx⟩
    obtain ⟨m2, w2⟩ := w1.freeze1 u
    exact q _ _ _ (ee.im.trans m2) w2 (u.cn.mono m2 |>.is upd_same)
  | xc D g a fs =>
    cases c0
    intro I' H' d y ee _ ed ia
    exact q I' H' d y ee.im (w.extN (ext ee)) ed ia
theorem rMake_of {m : List T → Option (RsX Unit)} {τ : List SV} {s : Z.S} {r : RsX Z.S} (h : rMake m fs τ s = some r) : ∃ as s1 r0, fs τ s = some (as, s1) ∧ m as = some r0 ∧ liftR s1 r0 = r := by
  unfold rMake at h
  split at h
  · rename_i as s1 ea
    split at h
    · rename_i r0 em
      cases h
      exact ⟨as, s1, _, ea, em, rfl⟩
    · cases h
  · cases h
/-- C(e, ..) -/
theorem er_make {x : Str} {p : Pos} {F : ∀ self : Addr, FX (selfZ X.K C self)} (M : Mk X.K C fI) (O : FnOk X.prog X.w X.K X.mg X.base (L2.CX X.prog X.w) k fI fd ps (spN X.K C F)) (hr : Room (k + 1) X.A) (hg : Gl X x) (hm : X.mg x = some (.ref C)) (hb : Binds X.K fd ps []) (ha : EL X Z (e :: es) fs)
    (hdb : (x == ("__debug__" : Str)) = false := by decide) (he : starEach (e :: es) X.env = (false, eval e X.env) :: starEach es X.env := by rfl) (hpl : (backTo pos (starEach es X.env)).any (·.1) = false := by rfl) :
    ER X Z (.Call (.Name x p) (e :: es) [] pos) (rMake (mkF C F) fs) := by
  obtain ⟨t, pa, h1⟩ := ha
  refine ⟨fun W σ H Q => t σ H fun vs H1 => ∀ y dx, H1 y = none → H1 dx = none → dx ≠ y → spN X.K C F (.ref y :: vs) (upd (upd H1 dx (.own y)) y (.ins C dx [])) (fun v H2 => v = .non ∧ Q (.ref y) H2) (WE W σ), fun W tk => ?_, fun W G I H σ τ s r Q w h q => ?_⟩
  · refine ⟨fun pins s σ H Q I h => ?_⟩
    refine wpAny_Call_Name_kw (ld_glob I hg hm ?_ hdb)
    refine PySem.W.callWith_K (h₀ := X.base) I.ok.mod.kin M.kp (thn (pa.run pos pins s σ H _ I h) fun us s1 ⟨vs, H1, I1, r, q⟩ => ⟨I1.kIn, ?_⟩) he hpl
    exact run_mk (us := us) (kw := []) M O hr (fun y s2 kin hl => by
      have := hb s2 (.ref y :: us) kin (by rw [List.append_nil]; exact hl)
      rwa [List.append_nil] at this) (passAt tk σ) I1 r q
  · obtain ⟨as, s1, r0, ea, em, er⟩ := rMake_of h
    exact h1 _ _ _ _ _ _ _ _ _ w ea fun I1 H1 vs m1 w1 i1 => fun y dx ny nd ne => mk_use w1 i1 em er (q.mono m1) y dx ny nd ne
/-- how keywords behind self are bound -/
def KOrdM (fd : FuncData) (ps ks : List Str) (ix : List Nat) : Prop := ∀ (u : Value) (ws : List Value), ws.length = ks.length → bindArgs fd ⟨[u], ks.zip ws⟩ = pure (ps.zip (u :: ord ix ws))
/-- C(k = e, ..) -/
theorem er_makeK {x : Str} {p : Pos} {ix : List Nat} {n : Nat} {F : ∀ self : Addr, FX (selfZ X.K C self)} (M : Mk X.K C fI) (O : FnOk X.prog X.w X.K X.mg X.base (L2.CX X.prog X.w) k fI fd ps (spN X.K C F)) (hr : Room (k + 1) X.A) (hg : Gl X x) (hm : X.mg x = some (.ref C)) (hb : KOrdM fd ps ks ix) (ha : ELk X Z kws fs)
    (hn : ks.length = n := by rfl) (hall : (backToKw pos (keywordEach kws X.env)).all (·.1.isSome) = true := by rfl) (hks : (backToKw pos (keywordEach kws X.env)).filterMap (·.1) = ks := by rfl) (hdb : (x == ("__debug__" : Str)) = false := by decide)
    (hpl : ((backTo pos (starEach [] X.env)).any (·.1) || (backToKw pos (keywordEach kws X.env)).any (·.1.isNone)) = false := by rfl) :
    ER X Z (.Call (.Name x p) [] kws pos) (rMake (mkF C F) (xOrd n ix fs)) := by
  obtain ⟨t, pk, h1⟩ := ha
  refine ⟨fun W σ H Q => t σ H fun vs H1 => vs.length = ks.length ∧ ∀ y dx, H1 y = none → H1 dx = none → dx ≠ y → spN X.K C F (.ref y :: ord ix vs) (upd (upd H1 dx (.own y)) y (.ins C dx [])) (fun v H2 => v = .non ∧ Q (.ref y) H2) (WE W σ), fun W tk => ?_, fun W G I H σ τ s r Q w h q => ?_⟩
  · refine ⟨fun pins s σ H Q I h => ?_⟩
    refine wpAny_Call_Name_kw (ld_glob I hg hm ?_ hdb)
    refine PySem.W.callWith_KW0 (h₀ := X.base) I.ok.mod.kin M.kp hall (thn (pk.run pos pins s σ H _ I h) fun us s1 ⟨vs, H1, I1, r, hl, q⟩ => ⟨I1.kIn, ?_⟩) hpl
    rw [hks]
    exact run_mk (us := []) (kw := ks.zip us) M O hr (fun y s2 kin _ => .of_eq (hb _ us (by rw [← r.length]; exact hl))) (passAt tk σ) I1 (ord_vals r ix) q
  · obtain ⟨as, s1, r0, ea, em, er⟩ := rMake_of h
    unfold xOrd at ea
    split at ea
    · rename_i bs s2 eb
      split at ea
      · rename_i hl
        cases ea
        exact h1 _ _ _ _ _ _ _ _ _ w eb fun I1 H1 vs m1 w1 i1 => ⟨by rw [i1.len, hl, hn], fun y dx ny nd ne => mk_use w1 (ord_rel i1 ix) em er (q.mono m1) y dx ny nd ne⟩
      · cases ea
    · cases ea
/-- where it doesn't raise -/
def xGood {Z : Res} (g : EFx Z) : EF Z := fun τ s => match g τ s with
  | some (.ok a s1) => some (a, s1)
  | _ => none
theorem ex_good {g : EFx Z} (h : ER X Z e g) : EX X Z e (xGood g) := by
  obtain ⟨t, p, h1⟩ := h
  refine ⟨t fun _ _ _ _ => False, p _ takes0, fun G I H σ τ s a s' Q w h q => ?_⟩
  unfold xGood at h
  split at h
  · rename_i b s1 eb
    cases h
    exact h1 _ _ _ _ _ _ _ _ _ w eb q
  · cases h
end
end L2.TL
/-! TXe: all, d.get(k), list, dict of a tuple, == by an own __eq__, == of dicts, tuples that stand in the text, enumerate. -/
namespace L2.TL
open PySem PySem.Spec
open PyProof.Rows
section
variable {X : Cx} {Z : Res} {e o : Expr} {f fo fi : EF Z} {pos apos cpos : Pos}
/-! ### all -/
def bools? : List T → Option (List Bool)
  | [] => some []
  | .bl b :: r => match bools? r with
    | some bs => some (b :: bs)
    | none => none
  | _ => none
theorem bools?_eq : ∀ {ts : List T} {bs : List Bool}, bools? ts = some bs → ts = bs.map T.bl
  | [], _, h => by
    cases h
    rfl
  | t :: r, bs, h => by
    cases t <;> first | (cases h; done) | skip
    simp only [bools?] at h
    split at h
    · rename_i cs ec
      cases h
      rw [bools?_eq ec]
      rfl
    · cases h
theorem IsL.bools {K : PySem.W.Frag} {I : Hp} : ∀ {bs : List Bool} {xs : List V}, IsL K I (bs.map T.bl) xs → xs = bs.map V.bl
  | [], _, h => h
  | _ :: _, _, h => by
    obtain ⟨x, r, rfl, q, z⟩ := h
    have q : x = _ := q
    subst q
    rw [IsL.bools z]
    rfl
def allT : List T → Option T
  | [.lst ts] => match bools? ts with
    | some bs => some (.bl (bs.all id))
    | none => none
  | _ => none
theorem op1_all : Op1 X (rAll X.K) allT := by
  intro Z G I H σ τ s as c xs Q w il e q
  unfold allT at e
  split at e
  · rename_i ts
    split at e
    · rename_i bs eb
      cases e
      obtain ⟨x, rfl, ix⟩ := il.one
      obtain ⟨a, vs, rfl, ha, iv⟩ := ix
      rw [bools?_eq eb] at iv
      have := iv.bools
      subst this
      exact ⟨a, bs, rfl, .of (w.sub _ _ ha), q.here w rfl⟩
    · cases e
  · cases e
/-! ### d.get(k) -/
def xGet1 {Z : Res} (fo fi : EF Z) : EF Z := fun τ s => match fo τ s with
  | some (.dct ps, s1) => match fi τ s1 with
    | some (k, s2) => match keyOf k with
      | some k => some ((getT ps k).getD .non, s2)
      | none => none
    | none => none
  | _ => none
theorem ex_get1 (hu : X.A.units + 1 < cLine) (ho : EX X Z o fo) (he : EX X Z e fi) (m : M1 X o "get" apos e cpos) : EX X Z (.Call (.Attribute o "get" apos) [e] [] cpos) (xGet1 fo fi) := by
  obtain ⟨to, po, h1⟩ := ho
  obtain ⟨ti, pi, h2⟩ := he
  refine ⟨_, pe_dget1 hu po pi m, fun G I H σ τ s a s' Q w h q => ?_⟩
  unfold xGet1 at h
  split at h
  · rename_i ps s1 e1
    split at h
    · rename_i k s2 e2
      split at h
      · rename_i kk ek
        cases h
        refine h1 _ _ _ _ _ _ _ _ _ w e1 fun I1 H1 v m1 w1 i1 => ?_
        obtain ⟨ad, xs, rfl, ha, hd⟩ := i1
        refine ⟨ad, rfl, .inl ⟨xs, .inl (w1.sub _ _ ha)⟩, h2 _ _ _ _ _ _ _ _ _ w1 e2 fun I2 H2 y m2 w2 i2 => ?_⟩
        have ey := keyOf_is ek i2
        have hd2 := hd.mono m2
        refine ⟨valV xs kk, .inl ⟨xs, kk, .inl (w2.sub _ _ (m2 _ _ ha)), ey, rfl⟩, q I2 H2 _ (m1.trans m2) w2 ?_⟩
        cases eg : getT ps kk with
        | none =>
          rw [hd2.getN eg]
          exact rfl
        | some t =>
          obtain ⟨x, hx, ix⟩ := hd2.get eg
          rw [hx]
          exact ix
      · cases h
    · cases h
  · cases h
/-! ### list(x), x a list or a tuple; dict(t), t a tuple of pairs -/
def listT : List T → Option T
  | [.lst ts] => some (.lst ts)
  | [.tup ts] => some (.lst ts)
  | _ => none
def rListOf (K : PySem.W.Frag) : List V → Hp → VK → Prop := fun xs H Q => ∃ p ys, xs = [.ref p] ∧ (SqL K H p ys ∨ SqT K H p ys) ∧ ∀ l, H l = none → Q (.ref l) (upd H l (.lst ys))
theorem op_listT : Op1N X (rListOf X.K) listT := by
  intro Z G I H σ τ s as c xs Q w il e q
  unfold listT at e
  split at e
  · cases e
    obtain ⟨x, rfl, ix⟩ := il.one
    obtain ⟨p, ys, rfl, h1, h2⟩ := ix
    exact ⟨p, ys, rfl, .inl (.of (w.sub _ _ h1)), fun l hl => q.new w hl h2⟩
  · cases e
    obtain ⟨x, rfl, ix⟩ := il.one
    obtain ⟨p, ys, rfl, h1, h2⟩ := ix
    exact ⟨p, ys, rfl, .inr (sqt_mono w.sub h1.1), fun l hl => q.new w hl h2⟩
  · cases e
def listX : List T → Option T := opOr listT listDT
theorem call_listX (hc : X.calm = true) : CallR X (.type "list") (fun xs H Q => rListOf X.K xs H Q ∨ rListDk xs H Q) := CallR.either call_list_of (call_listD hc)
theorem op_listX : Op1N X (fun xs H Q => rListOf X.K xs H Q ∨ rListDk xs H Q) listX := Op1N.or op_listT op_listDT
def dictTT : List T → Option T
  | [.tup ts] => match pairsT ts with
    | some ps => some (.dct (mergeT [] ps))
    | none => none
  | _ => none
theorem op_dictTT : Op1N X (rDictT X.K) dictTT := by
  intro Z G I H σ τ s as c xs Q w il e q
  unfold dictTT at e
  split at e
  · rename_i ts
    split at e
    · rename_i ps ep
      cases e
      obtain ⟨x, rfl, ix⟩ := il.one
      obtain ⟨a, vs, rfl, ha, iv⟩ := ix
      obtain ⟨as, kvs, rfl, pr, id⟩ := pairsT_is w.sub ep iv
      exact ⟨a, as, kvs, rfl, sqp_mono w.sub ha, pr, fun p hp => q.new w hp (IsD.merge (ps := []) (xs := []) rfl id)⟩
    · cases e
  · cases e
def dictX : List T → Option T := opOr dictPT dictTT
theorem call_dictX (hc : X.calm = true) : CallR X (.type "dict") (fun xs H Q => rDictP X.K xs H Q ∨ rDictT X.K xs H Q) := CallR.either (call_dictP hc) (call_dictT hc)
theorem op_dictX : Op1N X (fun xs H Q => rDictP X.K xs H Q ∨ rDictT X.K xs H Q) dictX := Op1N.or op_dictPT op_dictTT
/-! ### a tuple of the written part, by its name -/
theorem ex_globT {x : Str} {t : T} {a : Addr} (hg : Gl X x) (hm : X.mg x = some (.ref a)) (hi : Is X.K (fun _ => none) t (.ref a)) (hdb : (x == ("__debug__" : Str)) = false := by decide) : EX X Z (.Name x pos) (xC t) :=
  ⟨_, pe_glob hg hm (v := .ref a) rfl hdb, fun G I H σ τ s b s' Q w h q => by
    cases h
    exact q I H _ (Same.refl _) w (hi.mono fun _ _ z => by cases z)⟩
/-! ### enumerate of a list, for a target of two -/
def pairUp : Nat → List T → List T
  | _, [] => []
  | n, t :: r => .ltp [.int (n : Int), t] :: pairUp (n + 1) r
theorem pairUp_len : ∀ (n : Nat) (ts : List T), (pairUp n ts).length = ts.length
  | _, [] => rfl
  | n, t :: r => by rw [pairUp, List.length_cons, List.length_cons, pairUp_len]
theorem pairUp_at : ∀ (n : Nat) (ts : List T) (i : Nat) (t : T), (pairUp n ts)[i]? = some t → ∃ u, ts[i]? = some u ∧ t = .ltp [.int ((n + i : Nat) : Int), u]
  | _, [], i, t, h => by simp [pairUp] at h
  | n, u :: r, 0, t, h => by
    simp [pairUp] at h
    exact ⟨u, rfl, h.symm⟩
  | n, u :: r, i + 1, t, h => by
    have h : (pairUp (n + 1) r)[i]? = some t := by simpa [pairUp] using h
    obtain ⟨v, h1, h2⟩ := pairUp_at (n + 1) r i t h
    exact ⟨v, by simpa using h1, by rw [h2, show n + 1 + i = n + (i + 1) by omega]⟩
def iEnumT {Z : Res} (f : EF Z) : EFs Z := fun τ s => match f τ s with
  | some (.lst ts, s') => some (pairUp 0 ts, s')
  | _ => none
theorem ix_enum {p tpos : Pos} {elts : List Expr} {kk : Nat} (hg : Gl X "enumerate") (hm : X.mg "enumerate" = none) (he : EX X Z e f) (hs : starEach [e] X.env = [(false, eval e X.env)] := by rfl) (hs2 : starEach (e :: []) X.env = (false, eval e X.env) :: starEach [] X.env := by rfl) :
    IX X Z (.Tuple elts kk tpos) (.Call (.Name "enumerate" p) [e] [] pos) (iEnumT f) := by
  obtain ⟨t, pe, h1⟩ := he
  refine ⟨_, pi_enum hg hm (pa_cons pe pa_nil hs2) hs, fun G I H σ τ s items s' R w h q => ?_⟩
  unfold iEnumT at h
  split at h
  · rename_i ts s2 ea
    cases h
    refine h1 _ _ _ _ _ _ _ _ _ w ea fun I1 H1 v m1 w1 i1 => ?_
    obtain ⟨a, xs, rfl, ha, j⟩ := i1
    refine ⟨a, xs, rfl, .of (w1.sub _ _ ha), q I1 H1 _ m1 w1 fun I2 H2 m2 s2 => ?_⟩
    have hs : SqL X.K H2 a xs := .of (s2 _ _ (m2 _ _ ha))
    refine ⟨⟨xs, hs, by rw [pairUp_len, j.len]; exact Nat.le_refl _⟩, fun i t e => ?_⟩
    obtain ⟨u, e1, rfl⟩ := pairUp_at 0 ts i t e
    obtain ⟨x, e2, e3⟩ := j.at e1
    refine ⟨⟨xs, x, hs, e2⟩, fun y H3 hy => ?_⟩
    obtain ⟨p3, x3, rfl, n3, rfl, hy⟩ := hy
    have := hy xs hs
    rw [e2] at this
    cases this
    have i2 : I2 p3 = none := s2.free n3
    have m3 : Same I2 (upd I2 p3 (.tup [.int (i : Nat), x])) := fun b u z => by
      rw [upd_ne (ne_of_none z i2)]
      exact z
    refine ⟨upd I2 p3 (.tup [.int (i : Nat), x]), ext_new s2 n3 (fun z => z), p3, _, rfl, .of upd_same, ?_⟩
    rw [Nat.zero_add]
    exact IsL.cons rfl (IsL.cons (e3.mono (m2.trans m3)) IsL.nil)
  · cases h
/-! ### == by an own __eq__ -/
def rEqO (K : PySem.W.Frag) (C : Addr) (sp : Sp) : R2 := fun x y H Q => ∃ (a dx : Addr) (fs : List (Str × V)) (t : Value), x = .ref a ∧ H a = some (.ins C dx fs) ∧ TyX K H y t ∧ PySem.W.notFirst K C t = true ∧ sp [x, y] H (fun v H' => (∃ b, v = .bl b) ∧ Q v H') E0
theorem op_eqO {k : Nat} {C g : Addr} {fd : FuncData} {ps : List Str} {sp : Sp} (F : FnOk X.prog X.w X.K X.mg X.base CX0 k g fd ps sp) (hr : Room k X.A) (hs : PySem.W.findIn X.K (.ref C) "__eq__" = some (some (.ref g))) (hf : PySem.W.isFn X.K (.ref g) = true) (hb : Binds X.K fd ps []) :
    OpR X (compareOp .Eq) (rEqO X.K C sp) := by
  rintro pins s σ H x y u v Q I rx ry ⟨a, dx, fs, t, rfl, ha, ty, nf, hsp⟩
  obtain rfl : u = Value.ref a := rx
  obtain ⟨mA, J, _⟩ := ins_get I.hok ha
  obtain ⟨od, J, _⟩ := J.look
  obtain ⟨m, hF⟩ := I.fr
  obtain ⟨P, kx, px, _⟩ := kit_of I ry ty
  show wpAny _ _ (richCompare .Eq (.ref a) v) _ _ _
  refine PySem.W.cmp_K (op := .Eq) (tb := t) hr.units0 hF I.ok.mod.kin J (kx.ty _ _ I.kIn px) nf hs hf ?_
  have rr : Vals [V.ref a, y] [Value.ref a, v] := .cons rfl (.cons ry .nil)
  refine thn (run_fn (us := [Value.ref a, v]) (vs := [V.ref a, y]) (dvs := []) F hr hb .nil pass0 I rr (by rw [List.append_nil]; exact hsp)) ?_
  rintro r s2 ⟨z, H2, I2, rz, ⟨b, rfl⟩, q⟩
  obtain rfl : r = Value.bool b := rz
  exact ⟨.bl b, H2, I2, rfl, q⟩
def insOf (C : Addr) : T → Bool
  | .ins C' _ => decide (C' = C)
  | _ => false
/-- a == b, a of the class at C -/
def eqO (C : Addr) (fp : FP) : T → T → Option T := fun a b => match a with
  | .ins C' fs => if C' = C ∧ ((tyName b).isSome = true ∨ insOf C b = true) then match fp [.ins C fs, b] with
    | some (.bl k) => some (.bl k)
    | _ => none
    else none
  | _ => none
theorem kit_sub {K : PySem.W.Frag} {C : Addr} {n : String} {b : Bool} (h : PySem.W.kitOne K (.type n) (.ref C) = some b) : PySem.W.subIn K (.type n) (.ref C) = some b := by
  have h : (if ((Value.type n) == (Value.ref C)) = true then some true else PySem.W.kitCls K (.type n) (.ref C)) = some b := h
  have hn : ¬ (Value.type n == Value.ref C) = true := fun z => by
    have z2 : Value.type n = Value.ref C := beq_iff_eq.mp z
    cases z2
  rw [if_neg hn] at h
  have h : (if ((PySem.W.clsIn K C).isSome && PySem.W.typeIn K (.ref C) == some (.type "type")) = true then PySem.W.subIn K (.type n) (.ref C) else none) = some b := h
  split at h
  · exact h
  · cases h
theorem op2_eqO {C : Addr} {fp : FP} {Ds : List (Addr × Bool)} (Kc : KitC X.K C Ds) (cC : Cls X.K C) (xC : XI X.K C) : Op2 X (rEqO X.K C (spP X.K fp)) (eqO C fp) := by
  intro Z G I H σ τ s a b c x y Q w i1 i2 e q
  unfold eqO at e
  split at e
  · rename_i C' fs
    split at e
    · rename_i hc
      obtain ⟨rfl, ht⟩ := hc
      split at e
      · rename_i k ek
        cases e
        obtain ⟨r, dx, xs, rfl, er, ix⟩ := id i1
        have ty : ∃ t, TyX X.K H y t ∧ PySem.W.notFirst X.K C' t = true := by
          have ht : (tyName b).isSome = true ∨ ∃ gs, b = .ins C' gs := by
            rcases ht with ht | ht
            · exact .inl ht
            · cases b <;> first | (cases ht; done) | skip
              rename_i D gs
              have hd : D = C' := of_decide_eq_true ht
              exact .inr ⟨gs, by rw [hd]⟩
          rcases ht with ht | ⟨gs, rfl⟩
          · obtain ⟨n, hn⟩ := Option.isSome_iff_exists.mp ht
            have nf : ∀ {m : String}, PySem.W.kitOne X.K (.type m) (.ref C') = some false → PySem.W.notFirst X.K C' (.type m) = true := fun {m} h => by
              unfold PySem.W.notFirst
              rw [kit_sub h]
              simp
            refine ⟨.type n, tyX_of w i2 hn, ?_⟩
            cases b <;> cases hn
            · exact nf Kc.non
            · exact nf Kc.bl
            · exact nf Kc.int
            · exact nf Kc.str
            · exact nf Kc.tup
            · exact nf Kc.lst
            · exact nf Kc.dct
          · obtain ⟨r2, dx2, xs2, rfl, er2, _⟩ := i2
            refine ⟨.ref C', .base (.ins (w.sub _ _ er2) cC xC.ha xC.hn xC.ht xC.hm), ?_⟩
            unfold PySem.W.notFirst
            simp
        obtain ⟨t, ty, nf⟩ := ty
        refine ⟨r, dx, xs, t, rfl, w.sub _ _ er, ty, nf, ?_⟩
        exact sp_useP w (IsL.cons i1 (IsL.cons i2 IsL.nil)) ek fun I' H' v m' w' iv => ⟨⟨k, iv⟩, q I' H' v m' w' iv⟩
      · cases e
    · cases e
  · cases e
end
end L2.TL
/-! TXf: dict comprehensions; == of dicts. -/
namespace L2.TL
open PySem PySem.Spec
open PyProof.Rows
theorem putT_len (ps : List (Key × T)) (k : Key) (t : T) : (putT ps k t).length ≤ ps.length + 1 := by
  unfold putT
  split
  · rw [List.length_map]
    omega
  · simp
theorem IsD.lenD {K : PySem.W.Frag} {I : Hp} : ∀ {ps : List (Key × T)} {xs : List (Key × V)}, IsD K I ps xs → xs.length = ps.length
  | [], _, h => by
    have h : _ = [] := h
    subst h
    rfl
  | (k, t) :: r, _, h => by
    obtain ⟨y, ys, rfl, _, ir⟩ := h
    simp [IsD.lenD ir]
section
variable {X : Cx} {Z : Res} {e : Expr} {pos : Pos}
def dcGo {Z : Res} (gt : GF) (ft : EFb Z) (fk fv : EF Z) (τ : List SV) : List T → Z.S → List (Key × T) → Option (List (Key × T) × Z.S)
  | [], s, acc => some (acc, s)
  | a :: r, s, acc => match gt a τ with
    | some τ1 => match ft τ1 s with
      | some (true, s1) => match fk τ1 s1 with
        | some (kt, s2) => match keyOf kt with
          | some k => match fv τ1 s2 with
            | some (v, s3) => dcGo gt ft fk fv τ r s3 (putT acc k v)
            | none => none
          | none => none
        | none => none
      | some (false, s1) => dcGo gt ft fk fv τ r s1 acc
      | none => none
    | none => none
def xDc {Z : Res} (vs : List Nat) (fi : EFs Z) (gt : GF) (ft : EFb Z) (fk fv : EF Z) : EF Z := fun τ s => match fi τ s with
  | some (items, s1) => if items.length ≤ sizeLine ∧ (vs.all fun v => match τ[v]? with
        | some x => !isOw x
        | none => true) = true then match dcGo gt ft fk fv (wipeT τ vs) items s1 [] with
      | some (ps, s2) => some (.dct ps, s2)
      | none => none
    else none
  | none => none
theorem dc_read {vs : List Nat} {G I1 H1 : Hp} {σ : St} {τ : List SV} {s1 s' : Z.S} {items : List T} {res : List (Key × T)} {gt : GF} {ft : EFb Z} {fk fv : EF Z} {J : It} {Q : VK} {gg : TG}
    (hgg : ∀ (G I H : Hp) (σ : St) (τ : List SV) (s : Z.S) (a : T) (v : V) (τ2 : List SV) (Q : St → Hp → Prop), Rep X.K Z G I H σ τ s → Is X.K I a v → gt a τ = some τ2 → (∀ σ2, L2.wipe σ2 vs = L2.wipe σ vs → Rep X.K Z G I H σ2 τ2 s → Q σ2 H) → gg v σ H Q)
    (hgt : ∀ a τ τ2, gt a τ = some τ2 → ∀ i, i ∉ vs → τ2[i]? = τ[i]?)
    (w1 : Rep X.K Z G I1 H1 σ τ s1) (wk : Walks' X.K J I1 items) (hz : items.length ≤ sizeLine) (hv : ∀ (i : Nat) (t : T), τ[i]? = some (.ow t) → i ∉ vs)
    (h : dcGo gt ft fk fv (wipeT τ vs) items s1 [] = some (res, s')) (q : HandF X Z G I1 σ τ s' (.dct res) Q) (D : Addr) (hD : H1 D = none) :
    ∃ W : Nat → Nat → Hp → Prop, (∃ m, W 0 m (upd H1 D (.dK []))) ∧ ∀ i m H, W i m H →
      (J.stop i H ∧ Q (.ref D) H) ∨ (J.go i H ∧ ∃ Nx : Hp → Prop, (∀ H', Nx H' → ∃ m', m' < m ∧ W (i + 1) m' H') ∧ ∀ x H', J.yld i H x H' → gg x (L2.wipe σ vs) H' fun σ2 H2 => L2.wipe σ2 vs = L2.wipe σ vs ∧ tXb X.K Z ft σ2 H2 fun b H3 =>
        if b = true then tX X.K Z fk σ2 H3 fun y H4 => tX X.K Z fv σ2 H4 fun z H5 => ∃ kvs k, y = kV k ∧ H5 D = some (.dK kvs) ∧ kvs.length < sizeLine ∧ Nx (upd H5 D (.dK (putK kvs k z))) else Nx H3) := by
  have nG : G D = none := w1.toRep0.nG hD
  have nF : ¬ Z.F D := w1.toRep0.nF hD
  let St' : List T → Hp → Prop := fun r H => ∃ (I : Hp) (s : Z.S) (kvs : List (Key × V)) (acc : List (Key × T)), Same I1 I ∧ Rep X.K Z (upd G D (.dK kvs)) I H (L2.wipe σ vs) (wipeT τ vs) s ∧ IsD X.K I acc kvs ∧
    dcGo gt ft fk fv (wipeT τ vs) r s acc = some (res, s') ∧ acc.length + r.length ≤ items.length
  have start : St' items (upd H1 D (.dK [])) := by
    have c0 : Cn X.K I1 (.dct []) (.dK []) := (rfl : ([] : List (Key × V)) = [])
    obtain ⟨w2, u⟩ := (w1.wipe (vs := vs)).made hD c0
    exact ⟨I1, s1, [], [], Same.refl _, w2.guard u, rfl, h, by simp⟩
  refine ⟨fun i m H => m = items.length - i ∧ i ≤ items.length ∧ St' (items.drop i) H, ⟨_, rfl, Nat.zero_le _, by rw [List.drop_zero]; exact start⟩, ?_⟩
  rintro i m H ⟨rfl, hle, I, s, kvs, acc, mI, w, il, hgo, hlen⟩
  obtain ⟨st, gy⟩ := wk I H mI w.sub
  cases ed : items.drop i with
  | nil =>
    have hi : i = items.length := by
      have := congrArg List.length ed
      rw [List.length_drop, List.length_nil] at this
      omega
    subst hi
    rw [ed] at hgo
    cases hgo
    refine .inl ⟨st, ?_⟩
    obtain ⟨nI, atH⟩ := w.fr D (.dK kvs) upd_same
    have wf := w.frame (G' := G) fun p o e => by
      rw [upd_ne (ne_of_none e nG)]
      exact e
    have wr : Rep X.K Z G I H σ τ s' := w1.unwipe mI wf.toRep0 hv wf.ow fun i t hi e => by rw [wipeT_out hi]; exact e
    exact q I H D (.dK kvs) mI wr ⟨nI, nG, nF, atH, il, fun i t e => w1.notOwned hD i t e⟩
  | cons a r =>
    obtain ⟨ea, er⟩ := drop_at ed
    have hi : i < items.length := (List.getElem?_eq_some_iff.mp ea).1
    obtain ⟨go, yl⟩ := gy i a ea
    rw [ed] at hgo hlen
    simp only [List.length_cons] at hlen
    refine .inr ⟨go, St' r, fun H' hN => ⟨items.length - (i + 1), by omega, rfl, hi, by rw [er]; exact hN⟩, fun x H3 hy => ?_⟩
    obtain ⟨I3, ex, ix⟩ := yl x H3 hy
    have w3 := w.extN ex
    have m3 := mI.trans ex.im
    unfold dcGo at hgo
    split at hgo
    case h_2 => cases hgo
    rename_i τ2 et
    refine hgg _ _ _ _ _ s _ _ _ _ w3 ix et fun σ2 hw2 w4 => ?_
    rw [wipe_wipe] at hw2
    refine ⟨hw2, ?_⟩
    have hτ : ∀ i, i ∉ vs → τ2[i]? = (wipeT τ vs)[i]? := hgt _ _ _ et
    split at hgo
    · rename_i s4 ec
      refine ⟨_, _, _, _, _, _, w4, ec, fun I5 H5 m5 w5 => iteT ?_⟩
      split at hgo
      case h_2 => cases hgo
      rename_i kt s6 ek
      refine ⟨_, _, _, _, _, _, w5, ek, fun I6 H6 y m6 w6 iy => ?_⟩
      split at hgo
      case h_2 => cases hgo
      rename_i k hk
      split at hgo
      case h_2 => cases hgo
      rename_i b s7 eb
      refine ⟨_, _, _, _, _, _, w6, eb, fun I7 H7 z m7 w7 iz => ?_⟩
      obtain ⟨nI7, at7⟩ := w7.fr D (.dK kvs) upd_same
      have ha : kvs.length = acc.length := by
        exact il.lenD
      refine ⟨kvs, k, keyOf_is hk iy, at7, by have : sizeLine = 16777216 := sizeLine_eq; omega, ?_⟩
      have m8 := ((m3.trans m5).trans m6).trans m7
      refine ⟨I7, s7, putK kvs k z, putT acc k b, m8, (w7.reguard nF).back hw2 hτ w1.len, ?_, hgo, ?_⟩
      · exact (il.mono (((ex.im.trans m5).trans m6).trans m7)).put iz
      · have := putT_len acc k b
        omega
    · rename_i s4 ec
      refine ⟨_, _, _, _, _, _, w4, ec, fun I5 H5 m5 w5 => iteF ?_⟩
      exact ⟨I5, s4, kvs, acc, m3.trans m5, w5.back hw2 hτ w1.len, il.mono (ex.im.trans m5), hgo, by omega⟩
    · cases hgo
variable {tg' it kx vx : Expr} {ifs : List Expr} {scope : Scope} {own : List (Str × Nat)} {fi : EFs Z} {gt : GF} {ft : EFb Z} {fk fv : EF Z}
theorem en_dc {vs : List Nat} (hc : X.calm = true) (hN : X.N.Nodup) (hi : IX X Z tg' it fi) (ok : BlkOk X.N X.env.scope scope own) (hg : GB X Z scope vs tg' gt) (hvs : vs = own.map (·.2) := by rfl)
    (ht : ∀ (s : Shared) (H : Hp) (C : Addr) (cl : List (Str × Addr)) (fp : List Addr), ETs (X.blk s H scope (compEnvC scope cl C X.env) fp) Z ifs ft) (hk : ∀ (s : Shared) (H : Hp) (C : Addr) (cl : List (Str × Addr)) (fp : List Addr), EX (X.blk s H scope (compEnvC scope cl C X.env) fp) Z kx fk)
    (he : ∀ (s : Shared) (H : Hp) (C : Addr) (cl : List (Str × Addr)) (fp : List Addr), EX (X.blk s H scope (compEnvC scope cl C X.env) fp) Z vx fv) (hs : ∀ x, foldedSetIterable it X.env x = pure x := by intro _; rfl) : EN X Z (.DictComp kx vx [⟨tg', it, ifs, 0⟩] scope pos) (xDc vs fi gt ft fk fv) := by
  subst hvs
  obtain ⟨wi, pi, hwi⟩ := hi
  obtain ⟨gg, pg, hgg, hgt⟩ := hg
  refine ⟨_, pe_dc (tt := tXb X.K Z ft) (tk := tX X.K Z fk) (tv := tX X.K Z fv) hc hN pi ok pg ht (fun s H C cl fp => (hk s H C cl fp).pe) (fun s H C cl fp => (he s H C cl fp).pe) hs, fun G I H σ τ s a s' Q w h q => ?_⟩
  unfold xDc at h
  split at h
  · rename_i items s1 ei
    split at h
    · rename_i hc
      split at h
      · rename_i ps s2 eg
        cases h
        refine hwi _ _ _ _ _ _ _ _ _ w ei fun I1 H1 J m1 w1 wk => ?_
        intro D hD
        refine dc_read hgg hgt w1 wk hc.1 (fun i t e hi => ?_) eg (fun I' H' p o m => q I' H' p o (m1.trans m)) D hD
        have := List.all_eq_true.mp hc.2 i hi
        rw [e] at this
        cases this
      · cases h
    · cases h
  · cases h
end
/-! ### == of dicts -/
def fitV (t : T) : Bool := t.plain && SeqAt.shaped t.d
def eqPs (ps qs : List (Key × T)) : Bool := ps.length == qs.length && ps.all fun p => match getT qs p.1 with
  | some u => PyData.eqv p.2.d u.d
  | none => false
def fitD (ps : List (Key × T)) : Prop := (ps.map (·.1)).Nodup ∧ (ps.all fun p => fitV p.2) = true
instance (ps : List (Key × T)) : Decidable (fitD ps) := by
  unfold fitD
  exact inferInstance
def eqD (neg : Bool) : T → T → Option T := fun a b => match a, b with
  | .dct ps, .dct qs => if fitD ps ∧ fitD qs then some (.bl (if neg then !eqPs ps qs else eqPs ps qs)) else none
  | _, _ => none
def rEqD (K : PySem.W.Frag) : R2 := fun x y H Q => ∃ I ps qs, Same I H ∧ Is K I (.dct ps) x ∧ Is K I (.dct qs) y ∧ fitD ps ∧ fitD qs ∧ Q (.bl (eqPs ps qs)) H
theorem fitD_val {ps : List (Key × T)} {k : Key} {t : T} (h : fitD ps) (e : getT ps k = some t) : t.plain = true ∧ SeqAt.shaped t.d = true := by
  unfold getT at e
  obtain ⟨p, hp, rfl⟩ := Option.map_eq_some_iff.mp e
  have := List.all_eq_true.mp h.2 p (List.mem_of_find?_eq_some hp)
  exact Bool.and_eq_true_iff.mp this
theorem IsD.val {K : PySem.W.Frag} {I : Hp} {ps : List (Key × T)} {xs : List (Key × V)} (h : IsD K I ps xs) {k : Key} {v : V} (e : valV xs k = some v) : ∃ t, getT ps k = some t ∧ Is K I t v := by
  cases eg : getT ps k with
  | none =>
    rw [h.getN eg] at e
    cases e
  | some t =>
    obtain ⟨x, hx, ix⟩ := h.get eg
    rw [e] at hx
    cases hx
    exact ⟨t, rfl, ix⟩
theorem getT_at {ps : List (Key × T)} (h : (ps.map (·.1)).Nodup) {i : Nat} {p : Key × T} (e : ps[i]? = some p) : getT ps p.1 = some p.2 := by
  induction ps generalizing i with
  | nil => simp at e
  | cons q r ih =>
    rw [List.map_cons, List.nodup_cons] at h
    cases i with
    | zero =>
      simp at e
      subst e
      simp [getT]
    | succ i =>
      have e : r[i]? = some p := by simpa using e
      have hne : ¬ q.1 = p.1 := fun z => h.1 (by rw [z]; exact List.mem_map_of_mem (List.mem_of_getElem? e))
      have := ih h.2 e
      unfold getT at this ⊢
      rw [List.find?_cons, decide_eq_false hne]
      exact this
theorem eqPs_of {K : PySem.W.Frag} {I : Hp} {e : Key → Bool} {qs : List (Key × T)} {vt : List (Key × Value)} (hq : ∀ k, (valueAt vt k).isSome = (getT qs k).isSome) : ∀ {ps : List (Key × T)} {xs : List (Key × V)} {vs : List (Key × Value)}, IsD K I ps xs → KV xs vs →
    (∀ p ∈ ps, e p.1 = match getT qs p.1 with
      | some u => PyData.eqv p.2.d u.d
      | none => false) →
    (vs.all fun p => (valueAt vt p.1).isSome && e p.1) = ps.all fun p => match getT qs p.1 with
      | some u => PyData.eqv p.2.d u.d
      | none => false
  | [], _, _, h, kv, _ => by
    have h : _ = [] := h
    subst h
    cases kv
    rfl
  | (k, t) :: r, _, _, h, kv, he => by
    obtain ⟨y, ys, rfl, _, ir⟩ := h
    cases kv with
    | cons h1 h2 =>
      rename_i v vr
      obtain ⟨e1, _⟩ := h1
      have e1 : k = v.1 := e1
      have ih := eqPs_of (e := e) hq ir h2 fun p hp => he p (List.mem_cons_of_mem _ hp)
      rw [List.all_cons, List.all_cons, ih, ← e1, hq k, he (k, t) List.mem_cons_self]
      cases eg : getT qs k with
      | none => simp [eg]
      | some u => simp [eg]
section
variable {X : Cx}
theorem op_eqD (hu : X.A.units + 70 < cLine) : OpR X (compareOp .Eq) (rEqD X.K) := by
  rintro pins s σ H x y v u Q J rx ry ⟨I, ps, qs, sub, ia, ib, fa, fb, q⟩
  obtain ⟨a, xs, rfl, ha, da⟩ := ia
  obtain ⟨b, ys, rfl, hb, db⟩ := ib
  obtain rfl : v = Value.ref a := rx
  obtain rfl : u = Value.ref b := ry
  obtain ⟨_, m1, vs, k1, d1⟩ := (show ObjOk X.prog X.w H s.heap a (.dK xs) from J.hok a _ (sub _ _ ha))
  obtain ⟨_, m2, ws, k2, d2⟩ := (show ObjOk X.prog X.w H s.heap b (.dK ys) from J.hok b _ (sub _ _ hb))
  let e : Key → Bool := fun k => match getT ps k, getT qs k with
    | some t, some u => PyData.eqv t.d u.d
    | _, _ => false
  refine PySem.W.eq_dictsT (n := 65) (e := e) m1 m2 d1 d2 (fun k v y hm hv => .leaf fun A hA => ?_) (by omega) ?_
  · have hx : ∃ x, valV xs k = some x ∧ RelV x v ∨ True := ⟨.non, .inr trivial⟩
    have c1 := k1.val k
    have c2 := k2.val k
    rw [hv] at c2
    obtain ⟨y', hy', ry'⟩ : ∃ y', valV ys k = some y' ∧ RelV y' y := by
      cases ev : valV ys k with
      | none => rw [ev] at c2; exact c2.elim
      | some z => rw [ev] at c2; exact ⟨z, rfl, c2⟩
    obtain ⟨u, eu, iu⟩ := db.val hy'
    have nd : (vs.map (·.1)).Nodup := by
      have : ∀ {xs : List (Key × V)} {vs : List (Key × Value)}, KV xs vs → vs.map (·.1) = xs.map (·.1) := fun h => by
        induction h with
        | nil => rfl
        | cons h _ ih => rw [List.map_cons, List.map_cons, ih, h.1]
      rw [this k1]
      have : ∀ {ps : List (Key × T)} {xs : List (Key × V)}, IsD X.K I ps xs → xs.map (·.1) = ps.map (·.1) := fun {ps} => by
        induction ps with
        | nil =>
          intro xs h
          have h : xs = [] := h
          rw [h]
          rfl
        | cons p r ih =>
          intro xs h
          obtain ⟨y, ys, rfl, _, ir⟩ := h
          rw [List.map_cons, List.map_cons, ih ir]
      rw [this da]
      exact fa.1
    have hvk : valueAt vs k = some v := by
      have : ∀ {l : List (Key × Value)}, (l.map (·.1)).Nodup → (k, v) ∈ l → valueAt l k = some v := fun {l} => by
        induction l with
        | nil => intro _ h; cases h
        | cons p r ih =>
          intro hn hm
          rw [List.map_cons, List.nodup_cons] at hn
          unfold valueAt
          rw [List.find?_cons]
          rcases List.mem_cons.mp hm with rfl | hm
          · simp
          · have : ¬ p.1 = k := fun z => hn.1 (by rw [z]; exact List.mem_map_of_mem (f := (·.1)) hm)
            rw [decide_eq_false this]
            exact ih hn.2 hm
      exact this nd hm
    rw [hvk] at c1
    obtain ⟨x', hx', rx'⟩ : ∃ x', valV xs k = some x' ∧ RelV x' v := by
      cases ev : valV xs k with
      | none => rw [ev] at c1; exact c1.elim
      | some z => rw [ev] at c1; exact ⟨z, rfl, c1⟩
    obtain ⟨t, et, it⟩ := da.val hx'
    obtain ⟨p1, s1⟩ := fitD_val fa et
    obtain ⟨p2, s2⟩ := fitD_val fb eu
    obtain ⟨as, r1, _⟩ := Is.reads J sub t x' v p1 it rx'
    obtain ⟨bs, r2, _⟩ := Is.reads J sub u y' y p2 iu ry'
    have z1 := SeqAt.depth_of_shaped s1
    have := SeqAt.eqAt_reads t.d u.d A s v y as bs r1 r2 (SeqAt.canLay_of_shaped s1) (SeqAt.canLay_of_shaped s2) (by omega)
    have ee : e k = PyData.eqv t.d u.d := by
      show (match getT ps k, getT qs k with
        | some t, some u => PyData.eqv t.d u.d
        | _, _ => false) = _
      rw [et, eu]
    rw [ee]
    exact this
  · have l1 : vs.length = ps.length := by rw [← Paired.length k1, da.lenD]
    have l2 : ws.length = qs.length := by rw [← Paired.length k2, db.lenD]
    have hq : ∀ k, (valueAt ws k).isSome = (getT qs k).isSome := fun k => by
      have c := k2.val k
      cases eg : getT qs k with
      | none =>
        rw [db.getN eg] at c
        cases ev : valueAt ws k with
        | none => rfl
        | some z => rw [ev] at c; exact c.elim
      | some u =>
        obtain ⟨x, hx, _⟩ := db.get eg
        rw [hx] at c
        cases ev : valueAt ws k with
        | none => rw [ev] at c; exact c.elim
        | some z => rfl
    have := eqPs_of (e := e) hq da k1 fun p hp => by
      obtain ⟨i, hi⟩ := List.mem_iff_getElem?.mp hp
      show (match getT ps p.1, getT qs p.1 with
        | some t, some u => PyData.eqv t.d u.d
        | _, _ => false) = _
      rw [getT_at fa.1 hi]
      cases getT qs p.1 <;> rfl
    rw [l1, l2, this]
    exact ⟨.bl (eqPs ps qs), H, J, rfl, q⟩
theorem op2_eqD : Op2 X (rEqD X.K) (eqD false) := by
  intro Z G I H σ τ s a b c x y Q w i1 i2 e q
  unfold eqD at e
  split at e
  · split at e
    · rename_i ps qs h
      cases e
      exact ⟨I, ps, qs, w.sub, i1, i2, h.1, h.2, q.here w rfl⟩
    · cases e
  · cases e
end
end L2.TL
/-! TXk: C(..), with keywords or without, C an exception's class of the program with an own __init__. -/
namespace L2.TL
open PySem PySem.Spec PyProof.Rows PySem.HandSPX
section
variable {pr : Program} {w : World} {A : Around} {E : Value → Shared → Prop} {R : Result → Shared → Prop} {h : Heap} {g : Array GenState} {d : Drawn} {t : Nat} {os : OsState}
variable {nm qn : Str} {C N : Addr} {bs bm bB : List Value} {hd : Bool} {sn : List Str} {sub : List Value} {ab : Bool} {col : Option Bool} {dd : Option Addr} {k0 k1 k2 k3 k5 : Option Value} {B nid iid : String} {us : List Value} {kw : List (Str × Value)}
abbrev hMade (h : Heap) (C : Addr) (us : List Value) : Heap := (h.push (PySem.W.kdv_tup us)).push (excO C h.objs.size)
theorem kw_check {M : Model} {Q : Unit → Shared → Prop} (F : ExcBaseFacts B nid iid bB) (hT : ∀ n : String, bm.contains (.type n) = bB.contains (.type n)) (hC : h.get? C = some (excClassObj nm qn C N bs bm hd sn sub ab col dd k0 k1 k2 k3 k5 nid)) (q : Q () ⟨h, g, d, t, os⟩) :
    wpAny M A (checkBuiltinCall nid ⟨.ref C :: us, kw⟩) Q E ⟨h, g, d, t, os⟩ := by
  have inB : (Value.ref C :: bm).contains (.type B) = true := by
    rw [List.contains_cons, hT, F.hasB, Bool.or_true]
  have ns := F.noStar
  simp only [checkBuiltinCall, F.newKind, F.newSplit, F.newRow]
  repeat (first | refine wpAny_loadPart_at hC ?_ | (refine wpAny_isSubtype_exc hC ?_; rw [inB]) | refine wpAny_staticBase_exc hC ?_ | refine wpAny_madeBy_exc hC ?_ | simp only [bne_self_eq_false, Bool.false_eq_true, if_false] | wp_step)
  exact q
theorem kw_new (F : ExcBaseFacts B nid iid bB) (hT : ∀ n : String, bm.contains (.type n) = bB.contains (.type n)) (hC : h.get? C = some (excClassObj nm qn C N bs bm hd sn sub ab col dd k0 k1 k2 k3 k5 nid)) (hl : us.length ≤ sizeLine)
    (q : R (.ok (.ret (.ref (h.objs.size + 1)))) ⟨hMade h C us, g, d, t, os⟩) : codeAny (model pr w) A (.builtin nid ⟨.ref C :: us, kw⟩) R ⟨h, g, d, t, os⟩ := by
  have e0 := F.ends
  have inB : (Value.ref C :: bm).contains (.type B) = true := by
    rw [List.contains_cons, hT, F.hasB, Bool.or_true]
  have inA : (Value.ref C :: bm).contains (.type "AttributeError") = false := by
    rw [List.contains_cons, hT, F.noAttr]
    rfl
  have inN : (Value.ref C :: bm).contains (.type "NameError") = false := by
    rw [List.contains_cons, hT, F.noName]
    rfl
  refine codeAny_builtinAt F.entry ?_
  unfold Builtin.«BaseException.__new__»
  refine _root_.PySem.wpAt_bind ?_
  show _root_.PySem.wpAt _ _ _ (stack >>= _) _ _ _
  refine _root_.PySem.wpAt_bind (_root_.PySem.wpAt_stack fun p below => _root_.PySem.wpAt_of_wpAny ?_)
  wp_walk
  refine _root_.PySem.wpAt_of_wpAny ?_
  rw [F.owner]
  repeat (first | with_reducible refine wpAny_madeHere_exc F.canon hC ?_ | with_reducible refine wpAny_loadPart_at hC ?_ | (with_reducible refine wpAny_isSubtype_exc hC ?_; first | rw [inB] | rw [inA] | rw [inN]) | wp_step)
  show R _ _
  rw [Heap.size_push]
  exact q
theorem kw_type {fI : Addr} {Q : Fin → Shared → Prop} (F : ExcBaseFacts B nid iid bB) (hT : ∀ n : String, bm.contains (.type n) = bB.contains (.type n)) (hC : h.get? C = some (excClassObj nm qn C N bs bm hd sn sub ab col dd k0 k1 k2 k3 k5 nid)) (hl : us.length ≤ sizeLine)
    (hi : PySem.W.Looks (model pr w) h (typeLookup (.ref C) "__init__") (some (.ref fI))) (hb : ∀ self, PySem.W.Looks (model pr w) h (bindSpecial (.ref fI) self) (.ref fI, [self]))
    (q : codeAny (model pr w) A (.call (.ref fI) ⟨.ref (h.objs.size + 1) :: us, kw⟩) (fun r s' => match r with | .ok (.ret v) => v = .none ∧ Q (.done (.ret (.ref (h.objs.size + 1)))) s' | .ok _ => False | .error e => E e s') ⟨hMade h C us, g, d, t, os⟩) :
    wpAny (model pr w) A (Builtin.«type.__call__» ⟨.ref C :: us, kw⟩) Q E ⟨h, g, d, t, os⟩ := by
  repeat (first | with_reducible refine wpAny_loadPart_at hC ?_ | with_reducible refine wpAny_madeBy_exc hC ?_ | wp_step)
  refine codeAny_call_builtin_code (Code.quiet_builtin _ F.quiet) (kw_check F hT hC (kw_new F hT hC hl ?_))
  show wpAny _ _ _ _ _ _
  have kp : ∀ b o, h.get? b = some o → (hMade h C us).get? b = some o := fun b o e => Heap.get?_push_of_some _ (Heap.get?_push_of_some _ e)
  have hC2 := kp _ _ hC
  have hx : (hMade h C us).get? (h.objs.size + 1) = some (excO C h.objs.size) := by heap_get
  have inC : (Value.ref C :: bm).contains (.ref C) = true := by simp
  have hi2 := hi.keeps kp
  have hb2 := (hb (.ref (h.objs.size + 1))).keeps kp
  unfold isInstance
  repeat (first | with_reducible refine wpAny_loadPart_at hx ?_ | (with_reducible refine wpAny_isSubtype_exc hC2 ?_; rw [inC]) | wp_step)
  show wpAny _ _ (typeLookup (.ref C) _) _ _ _
  refine hi2.at (wpAny_holding (wpAny_bind (hb2.at (wpAny_bind (wpAny_call (codeAny_mono q fun r s' z => ?_))))))
  rcases r with e | (v | _ | _ | _) <;> first | exact z | exact z.elim | skip
  obtain ⟨rfl, z⟩ := z
  first
    | exact wpAny_pure (wpAny_pure z)
    | (wp_walk; exact z)
theorem kw_own {fI : Addr} (F : ExcBaseFacts B nid iid bB) (hT : ∀ n : String, bm.contains (.type n) = bB.contains (.type n)) (hC : h.get? C = some (excClassObj nm qn C N bs bm hd sn sub ab col dd k0 k1 k2 k3 k5 nid)) (hl : us.length ≤ sizeLine)
    (hi : PySem.W.Looks (model pr w) h (typeLookup (.ref C) "__init__") (some (.ref fI))) (hb : ∀ self, PySem.W.Looks (model pr w) h (bindSpecial (.ref fI) self) (.ref fI, [self]))
    (q : codeAny (model pr w) (A.under (.builtin "type.__call__" ⟨.ref C :: us, kw⟩)) (.call (.ref fI) ⟨.ref (h.objs.size + 1) :: us, kw⟩) (PySem.W.InitBack (h.objs.size + 1) R) ⟨hMade h C us, g, d, t, os⟩) :
    codeAny (model pr w) A (.call (.ref C) ⟨us, kw⟩) R ⟨h, g, d, t, os⟩ := by
  have f1 := tc_lookup
  have f2 := tc_bind (.ref C)
  have f3 := tc_sub
  have hTy : (⟨h, g, d, t, os⟩ : Shared).TypeIs (.ref C) "type" := ⟨_, hC, rfl⟩
  refine codeAny_of_tree ?_
  show wpAny _ _ (callAny (.ref C) _) _ _ _
  repeat (any_goals (first | assumption | with_reducible refine wpAny_loadPart_at hC ?_ | wp_step))
  refine ⟨rfl, codeAny_call_builtin_at (Code.quiet_builtin _ (by decide +kernel)) entry_typeCall ?_⟩
  have body := kw_type (A := A.under (.builtin "type.__call__" ⟨.ref C :: us, kw⟩)) (Q := fun fin s' => match fin with | .done f => R (.ok f) s' | .again c' => c'.quiet = true ∧ codeAny (model pr w) A c' R s') (E := fun e s' => R (.error e) s') (g := g) (d := d) (t := t) (os := os) F hT hC hl hi hb (codeAny_mono q fun r s' z => by
    rcases r with e | (v | _ | _ | _) <;> exact z)
  simp only [checkBuiltinCall, PySem.tc_kind, PySem.tc_split]
  repeat (any_goals (first | assumption | with_reducible refine wpAny_loadPart_at hC ?_ | with_reducible refine wpAny_onRaise ?_ | with_reducible refine wpAny_map ?_ | wp_step))
end
end L2.TL
/-! TXl: exceptions of classes of the program held as values: making, fields, isinstance. -/
namespace L2.TL
open PySem PySem.Spec PyProof.Rows PySem.HandSPX
section
variable {X : Cx} {pins : List (Addr × Obj)} {σ : St} {H : Hp} {s : Shared}
/-- C(..): the one argument y bound by position or by name -/
theorem run_xmk {CX : CXT} {C fI : Addr} {fd : FuncData} {f px : Str} {k : Nat} {us : List Value} {kw : List (Str × Value)} {y : V} {u : Value} {Q : VK} (T : XC X.K C) (iC : PySem.W.findIn X.K (.ref C) "__init__" = some (some (.ref fI))) (tI : PySem.W.typeIn X.K (.ref fI) = some (.type "function"))
    (G : FnOk X.prog X.w X.K X.mg X.base CX k fI fd ["self", px] (spXI C f)) (hr : Room (k + 1) X.A) (hx : Passes CX X (fun _ _ _ => False)) (hl : us.length ≤ 1)
    (hb : ∀ (x : Addr) (s : Shared), X.K.In s.heap → BindsTo s fd ⟨.ref x :: us, kw⟩ ((["self", px] : List Str).zip [.ref x, u])) (I : Inv X pins σ H s) (r : RelV y u)
    (h : ∀ a d, H a = none → H d = none → d ≠ a → Q (.ref a) (upd (upd H d (exd d [(f, y)])) a (exo a C (some d)))) : wpAny (model X.prog X.w) X.A (call (.ref C) us kw) (EP X pins σ Q) X.xe s := by
  obtain ⟨c1, c2, c3, c4, c5, c6, c7, c8, c9, c10, c11, c12, c13, c14, c15, hC, hbm⟩ := T.cls
  have has : ∀ n : String, c5.contains (.type n) = tlE.contains (.type n) := fun n => endsE_has n c5 hbm
  obtain ⟨hp, g, dr, tk, os⟩ := s
  have z0 : hp.objs.size ≤ hp.objs.size + 1 := Nat.le_succ _
  have z1 : H (hp.objs.size + 1) = none := I.hok.fresh z0
  have kp : ∀ b o, hp.get? b = some o → (hMade hp C us).get? b = some o :=
    fun b o w => Heap.get?_push_of_some _ (Heap.get?_push_of_some _ w)
  have at1 : (hMade hp C us).get? (hp.objs.size + 1) = some (excO C hp.objs.size) := by heap_get
  have J : Inv X pins σ (upd H (hp.objs.size + 1) (exo (hp.objs.size + 1) C none)) ⟨hMade hp C us, g, dr, tk, os⟩ :=
    I.laid (t' := tk) (a := hp.objs.size + 1) kp z0 (exo_ok at1)
  have rr : Vals [V.ref (hp.objs.size + 1), y] [Value.ref (hp.objs.size + 1), u] := .cons rfl (.cons r .nil)
  have hsp : spXI C f [V.ref (hp.objs.size + 1), y] (upd H (hp.objs.size + 1) (exo (hp.objs.size + 1) C none)) (fun v H2 => v = .non ∧ Q (.ref (hp.objs.size + 1)) H2) (fun _ _ _ => False) := by
    refine ⟨_, y, rfl, upd_same, fun d nd ne => ⟨rfl, ?_⟩⟩
    rw [upd_ne ne] at nd
    have e1 : upd (upd (upd H (hp.objs.size + 1) (exo (hp.objs.size + 1) C none)) d (exd d [(f, y)])) (hp.objs.size + 1) (exo (hp.objs.size + 1) C (some d)) = upd (upd H d (exd d [(f, y)])) (hp.objs.size + 1) (exo (hp.objs.size + 1) C (some d)) := by
      funext b
      by_cases b1 : b = hp.objs.size + 1
      · rw [b1, upd_same, upd_same]
      · rw [upd_ne b1, upd_ne b1]
        by_cases b2 : b = d
        · rw [b2, upd_same, upd_same]
        · rw [upd_ne b2, upd_ne b2, upd_ne b1]
    rw [e1]
    exact h _ _ z1 nd ne
  refine wpAny_call (kw_own F.excBase_Exception has (I.kIn _ _ hC) (by rw [sizeLine_eq]; omega) (PySem.W.looks_findIn I.kIn iC) (fun self => PySem.W.bind_fn I.kIn self tI) ?_)
  refine codeAny_mono (G.run _ X.stack _ _ ⟨Value.ref (hp.objs.size + 1) :: us, kw⟩ _ _ _ (fun _ _ _ => False) (hr.make C us kw) (J.env0.make C us kw) (hb _ _ J.kIn) rr hsp) ?_
  intro res z hz
  rcases res with er | fl
  · exact hx pins σ _ _ er z J hz
  cases fl with
  | ret v0 =>
    obtain ⟨v, H', J3, rv, ev, q3⟩ := J.after hz
    subst ev
    exact ⟨rv, .ref (hp.objs.size + 1), H', J3, rfl, q3⟩
  | next => exact hz.elim
  | brk => exact hz.elim
  | cont => exact hz.elim
end
theorem exo_has {a C : Addr} {d : Option Addr} (h : Heap) : (∃ t1 : Addr, h.get? a = some ({ cls := .ref C, dict := d, data := .fields #[.ref t1, .none, .none, .none, .bool false, .none] } : Obj)) → ∃ oe vs, h.get? a = some oe ∧ oe.cls = .ref C ∧ oe.dict = d ∧ oe.data = .fields vs := fun ⟨t, e⟩ => ⟨_, _, e, rfl, rfl, rfl⟩
section
variable {X : Cx} {Z : Res} {e : Expr} {f : EF Z} {fs : EFs Z} {pos : Pos} {C fI : Addr} {fd : FuncData} {fn px x : Str} {p : Pos} {k : Nat} {kpos : Pos}
/-- C(e) | C(n = e) -/
def xMkE {Z : Res} (C : Addr) (fn : Str) (f : EF Z) : EF Z := fun τ s => match f τ s with
  | some (a, s1) => some (.exv C [(fn, a)], s1)
  | none => none
theorem mk_hand {G I H : Hp} {σ : St} {τ : List SV} {s : Z.S} {t : T} {v : V} {Q : VK} (w : Rep X.K Z G I H σ τ s) (i : Is X.K I t v) (q : Hand X Z G I σ τ s (.exv C [(fn, t)]) Q) (a d : Addr) (na : H a = none) (nd : H d = none) (ne : d ≠ a) :
    Q (.ref a) (upd (upd H d (exd d [(fn, v)])) a (exo a C (some d))) := by
  obtain ⟨m1, w1⟩ := w.new (o := exd d [(fn, v)]) nd
  have na1 : upd H d (exd d [(fn, v)]) a = none := by rw [upd_ne (Ne.symm ne)]; exact na
  obtain ⟨m2, w2⟩ := w1.new (o := exo a C (some d)) na1
  refine q _ _ _ (m1.trans m2) w2 ⟨a, [(fn, v)], rfl, ⟨_, some d, upd_same, fun h z => exo_has h z, .inr ⟨d, rfl, .inr ?_⟩⟩, v, [], rfl, i.mono (m1.trans m2), rfl⟩
  rw [upd_ne ne, upd_same]
theorem ex_mkE {CX : CXT} (T : XC X.K C) (iC : PySem.W.findIn X.K (.ref C) "__init__" = some (some (.ref fI))) (tI : PySem.W.typeIn X.K (.ref fI) = some (.type "function")) (F : FnOk X.prog X.w X.K X.mg X.base CX k fI fd ["self", px] (spXI C fn)) (hr : Room (k + 1) X.A) (hb : Binds X.K fd ["self", px] [])
    (hx : Passes CX X (fun _ _ _ => False)) (hg : Gl X x) (hm : X.mg x = some (.ref C)) (he : EX X Z e f)
    (hdb : (x == ("__debug__" : Str)) = false := by decide) (hs : starEach [e] X.env = (false, eval e X.env) :: starEach [] X.env := by rfl) (hpl : (backTo pos (starEach [] X.env)).any (·.1) = false := by rfl) : EX X Z (.Call (.Name x p) [e] [] pos) (xMkE C fn f) := by
  obtain ⟨t, pe, h1⟩ := he
  refine ⟨fun σ H Q => t σ H fun v H1 => ∀ a d, H1 a = none → H1 d = none → d ≠ a → Q (.ref a) (upd (upd H1 d (exd d [(fn, v)])) a (exo a C (some d))), ⟨fun pins s σ H Q I h => ?_⟩, fun G I H σ τ s b s' Q w h q => ?_⟩
  · refine wpAny_Call_Name_kw (ld_glob I hg hm ?_ hdb)
    have pa : PA X [e] (tCons t tNil) := pa_cons pe pa_nil hs
    refine PySem.W.callWith_K (h₀ := X.base) I.ok.mod.kin T.kC (thn (pa.run pos pins s σ H (fun vs H1 => match vs with
      | [v] => ∀ a d, H1 a = none → H1 d = none → d ≠ a → Q (.ref a) (upd (upd H1 d (exd d [(fn, v)])) a (exo a C (some d)))
      | _ => False) I h) fun us s1 ⟨vs, H1, I1, r, q⟩ => ⟨I1.kIn, ?_⟩) hs hpl
    obtain ⟨v, rfl⟩ : ∃ v, vs = [v] := by
      match vs, q with
      | [v], _ => exact ⟨v, rfl⟩
    obtain ⟨u, rfl, ru⟩ := vals1 r
    exact run_xmk (us := [u]) (kw := []) T iC tI F hr hx (by simp) (fun y s2 kin => by
      have := hb s2 [.ref y, u] kin (by simp)
      rwa [List.append_nil] at this) I1 ru q
  · unfold xMkE at h
    split at h
    · rename_i b1 s1 eb
      cases h
      exact h1 _ _ _ _ _ _ _ _ _ w eb fun I1 H1 v m1 w1 i1 => mk_hand w1 i1 fun I2 H2 v2 m2 => q I2 H2 v2 (m1.trans m2)
    · cases h
/-- C(n = e) -/
theorem ex_mkEK {CX : CXT} {np : Str} (T : XC X.K C) (iC : PySem.W.findIn X.K (.ref C) "__init__" = some (some (.ref fI))) (tI : PySem.W.typeIn X.K (.ref fI) = some (.type "function")) (F : FnOk X.prog X.w X.K X.mg X.base CX k fI fd ["self", px] (spXI C fn)) (hr : Room (k + 1) X.A)
    (hb : ∀ u v : Value, bindArgs fd ⟨[u], [(np, v)]⟩ = pure (([("self", u), (px, v)] : List (Str × Value))))
    (hx : Passes CX X (fun _ _ _ => False)) (hg : Gl X x) (hm : X.mg x = some (.ref C)) (he : EX X Z e f)
    (hall : (backToKw pos (keywordEach [⟨some np, e, kpos⟩] X.env)).all (·.1.isSome) = true := by rfl) (hks : (backToKw pos (keywordEach [⟨some np, e, kpos⟩] X.env)).filterMap (·.1) = [np] := by rfl) (hdb : (x == ("__debug__" : Str)) = false := by decide)
    (hpl : ((backTo pos (starEach [] X.env)).any (·.1) || (backToKw pos (keywordEach [⟨some np, e, kpos⟩] X.env)).any (·.1.isNone)) = false := by rfl) : EX X Z (.Call (.Name x p) [] [⟨some np, e, kpos⟩] pos) (xMkE C fn f) := by
  obtain ⟨t, pe, h1⟩ := he
  refine ⟨fun σ H Q => t σ H fun v H1 => ∀ a d, H1 a = none → H1 d = none → d ≠ a → Q (.ref a) (upd (upd H1 d (exd d [(fn, v)])) a (exo a C (some d))), ⟨fun pins s σ H Q I h => ?_⟩, fun G I H σ τ s b s' Q w h q => ?_⟩
  · refine wpAny_Call_Name_kw (ld_glob I hg hm ?_ hdb)
    have pk : PK X [⟨some np, e, kpos⟩] (tCons t tNil) := pk_cons pe pk_nil
    refine PySem.W.callWith_KW0 (h₀ := X.base) I.ok.mod.kin T.kC hall (thn (pk.run pos pins s σ H (fun vs H1 => match vs with
      | [v] => ∀ a d, H1 a = none → H1 d = none → d ≠ a → Q (.ref a) (upd (upd H1 d (exd d [(fn, v)])) a (exo a C (some d)))
      | _ => False) I h) fun us s1 ⟨vs, H1, I1, r, q⟩ => ⟨I1.kIn, ?_⟩) hpl
    obtain ⟨v, rfl⟩ : ∃ v, vs = [v] := by
      match vs, q with
      | [v], _ => exact ⟨v, rfl⟩
    obtain ⟨u, rfl, ru⟩ := vals1 r
    rw [hks]
    exact run_xmk (us := []) (kw := [(np, u)]) T iC tI F hr hx (by simp) (fun y s2 kin => .of_eq (hb _ _)) I1 ru q
  · unfold xMkE at h
    split at h
    · rename_i b1 s1 eb
      cases h
      exact h1 _ _ _ _ _ _ _ _ _ w eb fun I1 H1 v m1 w1 i1 => mk_hand w1 i1 fun I2 H2 v2 m2 => q I2 H2 v2 (m1.trans m2)
    · cases h
/-- C(), C without an own __init__ -/
def xMkB {Z : Res} (C : Addr) : EF Z := fun _ s => some (.exv C [], s)
theorem ex_mkB (q : PySem.W.excIn X.K C tlE "Exception.__new__" = true) (kC : PySem.W.keepIn X.K (.ref C) = true) (hg : Gl X x) (hm : X.mg x = some (.ref C)) (hdb : (x == ("__debug__" : Str)) = false := by decide) : EX X Z (.Call (.Name x p) [] [] pos) (xMkB C) := by
  refine ⟨fun σ H Q => ∀ a, H a = none → Q (.ref a) (upd H a (ExO (.ref C) a)), ⟨fun pins s σ H Q I h => ?_⟩, fun G I H σ τ s b s' Q w h q => ?_⟩
  · refine wpAny_Call_Name_kw (ld_glob I hg hm ?_ hdb)
    refine PySem.W.callWith_K0 I.kIn kC ?_
    obtain ⟨bm, N, nm, qn, bs, hdct, sn, sub, ab, col, dd, k0, k1, k2, k3, k5, mN, hC, hN, hni, L⟩ := exc_obj I.kIn q
    refine wpAny_call_exc_subT F.excBase_Exception L hC hN hni (fun h' a hm => ?_)
    have hn : H a = none := I.hok.gone hm.new
    obtain ⟨t, ht, _, _⟩ := hm.there
    exact ⟨.ref a, upd H a (ExO (.ref C) a), I.laidN hm.keeps hm.new hn (exO_ok ht ⟨rfl, rfl⟩ rfl rfl rfl (show 4 < 6 by decide)), rfl, h a hn⟩
  · cases h
    intro a na
    obtain ⟨m1, w1⟩ := w.new (o := ExO (.ref C) a) na
    exact q _ _ _ m1 w1 ⟨a, [], rfl, ⟨_, none, upd_same, fun h ⟨oe, vs, e, z, dt, _⟩ => ⟨oe, vs, e, z.1, z.2, dt⟩, .inl ⟨rfl, rfl⟩⟩, rfl⟩
/-! ### e.f, isinstance -/
theorem exa_at {I H : Hp} {a : Addr} {xs : List (Str × V)} {pins : List (Addr × Obj)} {σ : St} {s : Shared} (J : Inv X pins σ H s) (sub : Same I H) (h : ExA I a C xs) :
    ∃ oe vs od, s.heap.get? a = some oe ∧ oe.cls = .ref C ∧ oe.dict = od ∧ oe.data = .fields vs ∧ ((od = none ∧ xs = []) ∨ ∃ d, od = some d ∧ ∃ mA, s.heap.Ns1 d mA ∧ ∀ f, RelO (xs.lookup f) (mA f)) := by
  obtain ⟨φ, od, e, k, r⟩ := h
  have ox : ObjOk X.prog X.w H s.heap a (.ext φ) := J.hok a _ (sub _ _ e)
  obtain ⟨oe, vs, g1, g2, g3, g4⟩ := k _ ox.1
  refine ⟨oe, vs, od, g1, g2, g3, g4, r.imp id fun ⟨d, ed, r⟩ => ⟨d, ed, ?_⟩⟩
  rcases r with r | r
  · have x : ObjOk X.prog X.w H s.heap d (.xd xs) := J.hok d _ (sub _ _ r)
    exact x
  · exact exd_at J.hok (sub _ _ r)
/-- where the table has C's fields' names free -/
def xFldE {Z : Res} (Cs : List Addr) (fn : Str) (f : EF Z) : EF Z := fun τ s => match f τ s with
  | some (.exv C fs, s1) => if C ∈ Cs then match fs.lookup fn with
    | some t => some (t, s1)
    | none => none
    else none
  | _ => none
theorem ex_fldE {Cs : List Addr} (hC : ∀ C ∈ Cs, XC X.K C ∧ PySem.W.findIn X.K (.ref C) fn = some none) (he : EX X Z e f) (hb : attributeBase e fn X.env (eval e X.env) = eval e X.env := by rfl) : EX X Z (.Attribute e fn pos) (xFldE Cs fn f) := by
  obtain ⟨t, p, h1⟩ := he
  refine ⟨fun σ H Q => t σ H fun x H1 => ∃ a C I1 xs v, x = .ref a ∧ Same I1 H1 ∧ ExA I1 a C xs ∧ XC X.K C ∧ PySem.W.findIn X.K (.ref C) fn = some none ∧ xs.lookup fn = some v ∧ Q v H1, ⟨fun pins s σ H Q I h => ?_⟩, fun G I H σ τ s b s' Q w h q => ?_⟩
  · refine attr_of hb (thn (p.run pins s σ H _ I h) fun u s1 hh => ?_)
    obtain ⟨x, H1, J, rx, a, C, I1, xs, v, rfl, sub, ea, T, hno, l, q⟩ := hh
    obtain rfl : u = Value.ref a := rx
    obtain ⟨oe, vs, od, g1, g2, g3, g4, (⟨_, rfl⟩ | ⟨d, rfl, mA, hns, hr⟩)⟩ := exa_at J sub ea
    · cases l
    obtain ⟨o2, ho, hl⟩ := lookIn_ns hns
    obtain ⟨u, hu, ru⟩ := RelO.some_of (v := v) (o := mA fn) (by rw [← l]; exact hr fn)
    have K1 : PySem.W.InstAt s1.heap a oe C (some o2) := ⟨g1, g2, by unfold PySem.W.notCls; rw [g4] <;> rfl, by rw [g3]; exact ho⟩
    exact exc_get J.kIn K1 T.ga T.gg T.exC (PySem.W.findObj_own T.hdC hno rfl (by rw [hl, hu])) (handed_of ru) ⟨v, H1, J.tok _, ru, q⟩
  · unfold xFldE at h
    split at h
    · rename_i C fs s1 ea
      split at h
      · rename_i hm
        split at h
        · rename_i t' et
          cases h
          refine h1 _ _ _ _ _ _ _ _ _ w ea fun I1 H1 v m1 w1 i1 => ?_
          obtain ⟨a, xs, rfl, ex, ix⟩ := i1
          obtain ⟨y, ey, iy⟩ := ix.get et
          obtain ⟨c1, c2⟩ := hC C hm
          exact ⟨a, C, I1, xs, y, rfl, w1.sub, ex, c1, c2, ey, q I1 H1 y m1 w1 iy⟩
        · cases h
      · cases h
    · cases h
def rIsE (K : PySem.W.Frag) : List V → Hp → VK → Prop := fun xs H Q => ∃ a C I1 fs c cv b, xs = [.ref a, c] ∧ Same I1 H ∧ ExA I1 a C fs ∧ XC K C ∧ XI K C ∧ ClsV c cv ∧ PySem.W.kitOne K (.ref C) cv = some b ∧ Q (.bl b) H
theorem call_isE : CallR X (.builtin "isinstance") (rIsE X.K) := by
  intro pins s σ H xs us Q J r h
  obtain ⟨a, C, I1, fs, c, cv, b, rfl, sub, ea, T, TI, k, e, q⟩ := h
  obtain ⟨u1, u2, rfl, r1, r2⟩ := vals2 r
  have e2 := k.eq r2
  subst e2
  cases (show u1 = Value.ref a from r1)
  obtain ⟨oe, vs, od, g1, g2, g3, g4, hd⟩ := exa_at J sub ea
  obtain ⟨o2, ho⟩ : ∃ o2, PySem.W.InstAt s.heap a oe C o2 := by
    rcases hd with ⟨rfl, _⟩ | ⟨d, rfl, mA, hns, _⟩
    · exact ⟨none, g1, g2, by unfold PySem.W.notCls; rw [g4] <;> rfl, by rw [g3]; trivial⟩
    · obtain ⟨o2, ho, _⟩ := lookIn_ns hns
      exact ⟨some o2, g1, g2, by unfold PySem.W.notCls; rw [g4] <;> rfl, by rw [g3]; exact ho⟩
  have fin : ∀ tk, EP X pins σ Q (.bool b) { s with toks := tk } := fun tk => ⟨.bl b, H, J.kept (t' := tk) fun _ _ z => z, rfl, q⟩
  cases o2 with
  | none => exact PySem.W.kia_one (PySem.W.handS_kitx_exc T.ga T.gg T.exC T.hdC TI.ha TI.hn TI.ht TI.hm) J.kIn ho e (fun z => nomatch z) fin
  | some o2 => exact PySem.W.kia_one (PySem.W.kitx_exc T.isCls T.ga T.gg T.exC TI.ha TI.hn TI.ht TI.hm) J.kIn ho e (fun z => nomatch z) fin
/-- which classes are sons of the asked one -/
structure KitE (K : PySem.W.Frag) (cv : Value) (Ds : List (Addr × Bool)) : Prop where
  own : ∀ p ∈ Ds, PySem.W.kitOne K (.ref p.1) cv = some p.2 ∧ XC K p.1 ∧ XI K p.1
def isE (Ds : List (Addr × Bool)) : T → Option Bool
  | .exv C _ => (Ds.find? fun p => decide (p.1 = C)).map (·.2)
  | _ => none
def xIsE {Z : Res} (Ds : List (Addr × Bool)) (f : EF Z) : EF Z := fun τ s => match f τ s with
  | some (a, s1) => match isE Ds a with
    | some b => some (.bl b, s1)
    | none => none
  | none => none
theorem isE_use {cv : Value} {c : V} {Ds : List (Addr × Bool)} (Kc : KitE X.K cv Ds) (k : ClsV c cv) {G I : Hp} {σ : St} {τ : List SV} {s s' : Z.S} {b : T} {Q : VK} (q : Hand X Z G I σ τ s' b Q) :
    xIsE Ds f τ s = some (b, s') → ∃ a s1, f τ s = some (a, s1) ∧ ∀ I1 H1 v, Same I I1 → Rep X.K Z G I1 H1 σ τ s1 → Is X.K I1 a v → rIsE X.K [v, c] H1 Q := by
  intro h
  unfold xIsE at h
  split at h
  · rename_i a s2 ea
    split at h
    · rename_i b eb
      cases h
      refine ⟨a, _, ea, fun I1 H1 v m1 w1 i1 => ?_⟩
      cases a <;> first | (cases eb; done) | skip
      rename_i D fs
      obtain ⟨p, hp, eb⟩ := Option.map_eq_some_iff.mp eb
      have pd : p.1 = D := by simpa using List.find?_some hp
      obtain ⟨k1, k2, k3⟩ := Kc.own p (List.mem_of_find?_eq_some hp)
      rw [pd] at k1 k2 k3
      rw [eb] at k1
      obtain ⟨r, xs, rfl, er, _⟩ := i1
      exact ⟨r, D, I1, xs, c, cv, b, rfl, w1.sub, er, k2, k3, k, k1, q I1 H1 _ m1 w1 rfl⟩
    · cases h
  · cases h
theorem ex_isE {y : Str} {p' : Pos} {D : Addr} {Ds : List (Addr × Bool)} (Kc : KitE X.K (.ref D) Ds) (hg : Gl X x) (hm : X.mg x = none) (he : EX X Z e f) (hgy : Gl X y) (hmy : X.mg y = some (.ref D)) (hv : bootBuiltins x = some (.builtin "isinstance") := by decide +kernel) (hnn : x ≠ "__name__" := by decide) (hdb : (x == ("__debug__" : Str)) = false := by decide)
    (hdby : (y == ("__debug__" : Str)) = false := by decide) (hst : starEach (e :: [.Name y p']) X.env = (false, eval e X.env) :: starEach [.Name y p'] X.env := by rfl) (hpl : (backTo pos (starEach [.Name y p'] X.env)).any (·.1) = false := by rfl) :
    EX X Z (.Call (.Name x p) [e, .Name y p'] [] pos) (xIsE Ds f) := by
  obtain ⟨t, pe, h1⟩ := he
  refine ⟨_, pe_callB call_isE hg hm hv (pa_cons pe (pa_cons (pe_glob hgy hmy (v := .ref D) rfl hdby) pa_nil) hst) hnn hdb hst hpl, fun G I H σ τ s c s' Q w h q => ?_⟩
  obtain ⟨a, s1, ea, k⟩ := isE_use Kc (.own D) q h
  exact h1 _ _ _ _ _ _ _ _ _ w ea fun I1 H1 v m1 w1 i1 => k I1 H1 v m1 w1 i1
theorem ex_isEB {y : Str} {p' : Pos} {n : String} {Ds : List (Addr × Bool)} (Kc : KitE X.K (.type n) Ds) (hg : Gl X x) (hm : X.mg x = none) (he : EX X Z e f) (hgy : Gl X y) (hmy : X.mg y = none) (hvy : bootBuiltins y = some (.type n) := by decide +kernel) (hv : bootBuiltins x = some (.builtin "isinstance") := by decide +kernel) (hnn : x ≠ "__name__" := by decide) (hdb : (x == ("__debug__" : Str)) = false := by decide)
    (hnny : y ≠ "__name__" := by decide) (hdby : (y == ("__debug__" : Str)) = false := by decide) (hst : starEach (e :: [.Name y p']) X.env = (false, eval e X.env) :: starEach [.Name y p'] X.env := by rfl) (hpl : (backTo pos (starEach [.Name y p'] X.env)).any (·.1) = false := by rfl) :
    EX X Z (.Call (.Name x p) [e, .Name y p'] [] pos) (xIsE Ds f) := by
  obtain ⟨t, pe, h1⟩ := he
  refine ⟨_, pe_callB call_isE hg hm hv (pa_cons pe (pa_cons (pe_bltn hgy hmy hvy (v := .ty n) rfl hnny hdby) pa_nil) hst) hnn hdb hst hpl, fun G I H σ τ s c s' Q w h q => ?_⟩
  obtain ⟨a, s1, ea, k⟩ := isE_use Kc (.ty n) q h
  exact h1 _ _ _ _ _ _ _ _ _ w ea fun I1 H1 v m1 w1 i1 => k I1 H1 v m1 w1 i1
end
end L2.TL
/-! TXm: try: .. except A: .. except B as n: ..; a def called with the exception that a suite holds. -/
namespace L2.TL
open PySem PySem.Spec
open PyProof.Rows
/-- the first clause doesn't name it, the second one does -/
def wTwo (K : PySem.W.Frag) (c1 c2 : Value) (i : Nat) (ts : Addr → Value → Option Addr → TS) (D : Ends) : WX := fun cls d σ H => PySem.W.exmOne K cls c1 = some false ∧ PySem.W.exmOne K cls c2 = some true ∧
  ∀ a, H a = none → ts a cls d { nx := fun σ' H' => D.nx (σ'.set i none) H', rt := D.rt, bk := fun σ' H' => D.bk (σ'.set i none) H', ct := fun σ' H' => D.ct (σ'.set i none) H' } (σ.set i (some (.ref a))) H
section
variable {X : Cx} {x1 x2 n : Str} {c1 c2 : Value} {i : Nat} {body suite suite1 : List Stmt} {b₀ a₀ : Stmt} {np np1 pos pos' pos1 : Pos} {tb : WX → TS} {ts : Addr → Value → Option Addr → TS}
theorem ps_try_two (hs : X.stack = X.env :: X.outer) (hf : X.env.frame = some X.env.locals) (hN : X.N.Nodup) (hi : X.N[i]? = some n) (hln : X.env.kindOf n = some .local) (hc1 : Names X x1 c1) (hc2 : Names X x2 c2)
    (hb : ∀ (W : WX) (pn : List (Addr × Obj)) (xe : Value → Shared → Prop), Takes (X.tr pn xe) W → PassesOwn (model X.prog X.w) X.A X.env xe → PSs (X.tr pn xe) body (tb W))
    (hsu : ∀ (a : Addr) (oe : Obj) (cls : Value) (d : Option Addr) (pn : List (Addr × Obj)), Zc cls d oe → (∃ vs, oe.data = .fields vs) → PSs (X.suite a ((a, oe) :: pn)) (b₀ :: suite) (ts a cls d)) :
    PS X (.Try body [.ExceptHandler (some (.Name x1 np1)) none (a₀ :: suite1) pos1, .ExceptHandler (some (.Name x2 np)) (some n) (b₀ :: suite) pos'] [] [] pos) (fun D σ H => tb (wTwo X.K c1 c2 i ts D) D σ H) := by
  refine ⟨fun pins s σ H D I h => wpAny_Try_except ?_⟩
  have frames : X.A.frames = some (X.env :: X.outer) := by
    rw [I.ok.frames, hs]
  refine wpAny_mono ((hb _ (X.pn ++ pins) (fun e z1 => wpAny (model X.prog X.w) X.A (noteFrame e X.env) (fun _ z2 => wpAny (model X.prog X.w) X.A (setFlight e none) (fun _ z3 =>
    wpAny (model X.prog X.w) X.A (handleBy e X.env [.ExceptHandler (some (.Name x1 np1)) none (a₀ :: suite1) pos1, .ExceptHandler (some (.Name x2 np)) (some n) (b₀ :: suite) pos']) (SP X pins D) X.xe z3) X.xe z2) X.xe z1) ?_ PassesOwn.looking).run [] s σ H D (I.toTry _) h) ?_ fun _ _ z => z
  · rintro u s' ⟨a, B, sI, pins', σ', H', cls, d, rfl, J', nb, up, sky, na, os, ag, no1, yes2, go⟩
    have J : Inv X pins σ' H' sI := J'.ofTry I.ok
    have sky2 : Sky B (X.env :: X.outer) a (Zc cls d) X.env.locals s'.heap := hs ▸ sky
    show wpAny (model X.prog X.w) X.A (noteFrame (.ref a) X.env) _ _ _
    refine Sky.land Zc.steady frames hf sky2 fun h3 fl up3 => ?_
    have J3 : Inv X pins σ' H' { s' with heap := h3 } := J.landed nb fl.1 (up.trans up3) os ag
    obtain ⟨oe, vs, ge, gz, gd⟩ := fl.there
    have away : a ∉ frs (X.env :: X.outer) := fun hm => by
      obtain ⟨_, o', e', nf⟩ := fl.2.2.1.mem hm
      rw [ge] at e'
      cases e'
      exact nf _ gd
    have aL : a ≠ X.env.locals := fun z => away (List.mem_filterMap.mpr ⟨X.env, List.mem_cons_self, by rw [hf, z]⟩)
    have aF : a ∉ X.fs := fun hm => by
      obtain ⟨e, he, q⟩ := List.mem_filterMap.mp hm
      exact away (List.mem_filterMap.mpr ⟨e, List.mem_cons_of_mem _ he, q⟩)
    have S3 := J3.suite ge gd na aL aF
    have ty : PySem.W.Looks (model X.prog X.w) h3 (typeOf (.ref a)) cls := fun A Q E s k q => wpAny_typeOf_ref (k _ _ ge) (by rw [gz.1]; exact q)
    have name : ∀ {x : Str} {c : Value} {p : Pos} {Q E : Value → Shared → Prop}, Names X x c → Q c { s' with heap := h3 } → wpAny (model X.prog X.w) (X.A.mark (some (.ref a))) (eval (.Name x p) X.env) Q E { s' with heap := h3 } := by
      rintro x c p Q E ⟨hg, hd, hm | ⟨hm, hv, hn⟩⟩ q
      · exact ld_glob (X := X.suite a ((a, oe) :: (X.pn ++ pins))) S3 hg hm q hd
      · exact ld_blt (X := X.suite a ((a, oe) :: (X.pn ++ pins))) S3 hg hm hv q hn hd
    refine wpAny_handleBy_cons (codeAny_handlers_test (name hc1 ((PySem.W.exm_one (M := model X.prog X.w) J3.kIn ty no1).here ?_))) (by intro q; cases q)
    show wpAny _ X.A (handleBy (.ref a) X.env _) _ _ _
    refine wpAny_handleBy_cons (codeAny_handlers_test (name hc2 ((PySem.W.exm_one (M := model X.prog X.w) J3.kIn ty yes2).here ?_))) (by intro q; cases q)
    refine codeAny_handlers_suite_as (HandSPX.lands_againZ fl fun h4 fl4 up4 => ?_)
    have J4 : Inv X pins σ' H' { s' with heap := h4 } := J.landed nb fl4.1 ((up.trans up3).trans up4) os ag
    obtain ⟨o4, v4, g4, z4, d4⟩ := fl4.there
    refine store_ok (X := X.suite a ((a, o4) :: (X.pn ++ pins))) (v := .ref a) (J4.suite g4 d4 na aL aF) hN hi (.inl hln) rfl (fun s5 S5 => ?_) (.inr hln)
    refine wpAny_mono ((hsu a o4 cls d (X.pn ++ pins) z4 ⟨_, d4⟩).run [] s5 _ H' _ S5 (go a na)) (fun f s6 hsp => ?_) fun _ _ z => z.elim
    have out : ∀ {σ6 : St} {H6 : Hp} {Q : Shared → Prop}, Inv (X.suite a ((a, o4) :: (X.pn ++ pins))) [] σ6 H6 s6 → (∀ s7, Inv X pins (σ6.set i none) H6 s7 → Q s7) →
        wpAny (model X.prog X.w) X.A (do bindName X.env n .none; unbindBehindTheSuite X.env n pos') (fun _ s7 => Q s7) X.xe s6 := fun S6 k => gone_ok (S6.unsuite I.ok) hN hi hln k
    cases f with
    | next =>
      obtain ⟨_, _, S6, q6⟩ := hsp
      exact out S6 fun _ J7 => ⟨_, _, J7, q6⟩
    | brk =>
      obtain ⟨_, _, S6, q6⟩ := hsp
      exact out S6 fun _ J7 => ⟨_, _, J7, q6⟩
    | cont =>
      obtain ⟨_, _, S6, q6⟩ := hsp
      exact out S6 fun _ J7 => ⟨_, _, J7, q6⟩
    | ret u =>
      obtain ⟨_, _, _, S6, r6, q6⟩ := hsp
      exact out S6 fun _ J7 => ⟨_, _, _, J7, r6, q6⟩
  · intro f s1 hsp
    cases f with
    | next =>
      obtain ⟨_, _, J', q⟩ := hsp
      exact wpAny_execs_nil ⟨_, _, J'.ofTry I.ok, q⟩
    | brk =>
      obtain ⟨_, _, J', q⟩ := hsp
      exact ⟨_, _, J'.ofTry I.ok, q⟩
    | cont =>
      obtain ⟨_, _, J', q⟩ := hsp
      exact ⟨_, _, J'.ofTry I.ok, q⟩
    | ret u =>
      obtain ⟨_, _, _, J', r, q⟩ := hsp
      exact ⟨_, _, _, J'.ofTry I.ok, r, q⟩
end
section
variable {X : Cx} {Z : Res} {x1 x2 n : Str} {i : Nat} {C2 : Addr} {c1 : Value} {body suite suite1 : List Stmt} {b₀ a₀ : Stmt} {np np1 pos pos' pos1 : Pos} {g : SF Z} {gh : Addr → Addr → Addr → SF Z}
/-- except A (not asked), except B as n, B's sons at Ds: gh C b d: the suite -/
def isXcIn {S : Type} (Ds : List Addr) : Out S → Prop
  | .xc C _ _ _ _ => C ∈ Ds
  | _ => True
open Classical in
noncomputable def sTry2 {Z : Res} (i : Nat) (Ds : List Addr) (gh : Addr → Addr → Addr → SF Z) (g : SF Z) : SF Z := fun τ s => match g τ s with
  | some (.xc C f a τ1 s1) => if h : C ∈ Ds ∧ i < τ1.length ∧ ∃ o, isXc o = false ∧ ∀ b d, ∃ o', gh C b d (τ1.set i (.im (.exc b d C f a))) s1 = some o' ∧ isXc o' = false ∧ clr i o' = o then some h.2.2.choose else none
  | o => o
theorem ev_try2_n {Ds : List Addr} {τ : List SV} {s : Z.S} {o : Out Z.S} (h : g τ s = some o) (hn : isXc o = false) : sTry2 i Ds gh g τ s = some o := by
  unfold sTry2
  rw [h]
  cases o <;> first | rfl | cases hn
theorem ev_try2_x {Ds : List Addr} {τ τ1 : List SV} {s s1 : Z.S} {C : Addr} {f : Str} {a : T} {o : Out Z.S} (h : g τ s = some (.xc C f a τ1 s1)) (hC : C ∈ Ds) (hi : i < τ1.length) (hn : isXc o = false)
    (hh : ∀ b d, ∃ o', gh C b d (τ1.set i (.im (.exc b d C f a))) s1 = some o' ∧ isXc o' = false ∧ clr i o' = o) : sTry2 i Ds gh g τ s = some o := by
  unfold sTry2
  simp only [h]
  have hx : C ∈ Ds ∧ i < τ1.length ∧ ∃ o, isXc o = false ∧ ∀ b d, ∃ o', gh C b d (τ1.set i (.im (.exc b d C f a))) s1 = some o' ∧ isXc o' = false ∧ clr i o' = o := ⟨hC, hi, o, hn, hh⟩
  rw [dif_pos hx]
  obtain ⟨_, hc⟩ := hx.2.2.choose_spec
  obtain ⟨o1, e1, _, k1⟩ := hc 0 0
  obtain ⟨o2, e2, _, k2⟩ := hh 0 0
  rw [e1] at e2
  cases e2
  rw [← k1, k2]
theorem sx_try2 {Ds : List Addr} (hs : X.stack = X.env :: X.outer) (hf : X.env.frame = some X.env.locals) (hN : X.N.Nodup) (hi : X.N[i]? = some n) (hln : X.env.kindOf n = some .local) (hc1 : Names X x1 c1) (hc2 : Names X x2 (.ref C2))
    (hD : ∀ C ∈ Ds, PySem.W.exmOne X.K (.ref C) c1 = some false ∧ PySem.W.exmOne X.K (.ref C) (.ref C2) = some true)
    (hb : ∀ (pn : List (Addr × Obj)) (xe : Value → Shared → Prop), PassesOwn (model X.prog X.w) X.A X.env xe → SS (X.tr pn xe) Z body g)
    (hsu : ∀ (a : Addr) (oe : Obj) (C d : Addr) (pn : List (Addr × Obj)), C ∈ Ds → Zc (.ref C) (some d) oe → (∃ vs, oe.data = .fields vs) → SS (X.suite a ((a, oe) :: pn)) Z (b₀ :: suite) (gh C a d)) :
    SX X Z (.Try body [.ExceptHandler (some (.Name x1 np1)) none (a₀ :: suite1) pos1, .ExceptHandler (some (.Name x2 np)) (some n) (b₀ :: suite) pos'] [] [] pos) (sTry2 i Ds gh g) := by
  refine ⟨_, ps_try_two (i := i) (tb := fun W => tSW X.K Z g W) (ts := fun a cls d D σ H => ∃ C d', C ∈ Ds ∧ cls = .ref C ∧ d = some d' ∧ tS X.K Z (gh C a d') D σ H) hs hf hN hi hln hc1 hc2
    (fun W pn xe tk pw => (hb pn xe pw).pssW tk)
    (fun a oe cls d pn hz hd => ⟨fun pins s σ H D J ⟨C, d', hm, e1, e2, q⟩ => by
      subst e1 e2
      exact (hsu a oe C d' pn hm hz hd).pss.run pins s σ H D J q⟩), fun G I H σ τ s o D w h q => ?_⟩
  show tSW X.K Z g _ D σ H
  unfold sTry2 at h
  split at h
  · rename_i C f a τ1 s1 eg
    split at h
    · rename_i hh
      obtain ⟨hm, hl, hx⟩ := hh
      cases h
      obtain ⟨hn, hc⟩ := hx.choose_spec
      refine ⟨G, I, τ, s, _, w, eg, fun I' H' σ' d y m w' ed ia => ⟨(hD C hm).1, (hD C hm).2, fun b nb => ⟨C, d, hm, rfl, rfl, ?_⟩⟩⟩
      obtain ⟨o', e1, n1, k1⟩ := hc b d
      have w2 := w'.setIm (i := i) (v := .ref b) (a := .exc b d C f a) hl ⟨rfl, y, ed, ia⟩
      refine ⟨G, I', _, s1, o', w2, e1, ?_⟩
      rw [← k1] at q
      cases o' with
      | nx τ2 s2 => exact fun I2 H2 σ2 m2 w3 => q I2 H2 _ (m.trans m2) w3.unset
      | bk τ2 s2 => exact fun I2 H2 σ2 m2 w3 => q I2 H2 _ (m.trans m2) w3.unset
      | ct τ2 s2 => exact fun I2 H2 σ2 m2 w3 => q I2 H2 _ (m.trans m2) w3.unset
      | rt a2 s2 => exact fun I2 H2 v m2 w3 iv => q I2 H2 v (m.trans m2) w3 iv
      | xc C2 f2 a2 τ2 s2 => cases n1
    · cases h
  · rename_i hn
    refine ⟨G, I, τ, s, o, w, h, ?_⟩
    cases o with
    | nx τ2 s2 => exact q
    | bk τ2 s2 => exact q
    | ct τ2 s2 => exact q
    | rt a2 s2 => exact q
    | xc C2 f2 a2 τ2 s2 => exact absurd h (hn _ _ _ _ _)
end
/-! ### isinstance of a pinned exception, in any body -/
section
variable {X : Cx} {Z : Res} {e : Expr} {f : EF Z} {a d C : Addr} {oe : Obj} {pos : Pos}
theorem call_isP (T : XC X.K C) (TI : XI X.K C) (hp : (a, oe) ∈ X.pn) (hz : Zc (.ref C) (some d) oe) (hf : ∃ vs, oe.data = .fields vs) : CallR X (.builtin "isinstance") (rIsX X.K C a d) := by
  intro pins s σ H xs us Q I r h
  obtain ⟨c, cv, b, fs, rfl, k, e, ed, q⟩ := h
  obtain ⟨u1, u2, rfl, r1, r2⟩ := vals2 r
  have e2 := k.eq r2
  subst e2
  cases (show u1 = Value.ref a from r1)
  have hget := (I.pin (a, oe) (List.mem_append_left _ hp)).1
  obtain ⟨vs, hv⟩ := hf
  have ox : ObjOk X.prog X.w H s.heap d (.xd fs) := I.hok d _ ed
  obtain ⟨mA, ⟨od, _, _, ho, _⟩, _⟩ := ox
  have J : PySem.W.InstAt s.heap a oe C (some od) := ⟨hget, hz.1, by unfold PySem.W.notCls; rw [hv] <;> rfl, by rw [hz.2]; exact ho⟩
  exact PySem.W.kia_one (PySem.W.kitx_exc T.isCls T.ga T.gg T.exC TI.ha TI.hn TI.ht TI.hm) I.kIn J e (fun z => nomatch z) fun tk => ⟨.bl b, H, I.kept (t' := tk) fun _ _ z => z, rfl, q⟩
/-- isinstance(e, D) -/
theorem ex_isP {x y : Str} {p p' : Pos} {D : Addr} {b : Bool} (T : XC X.K C) (TI : XI X.K C) (hp : (a, oe) ∈ X.pn) (hz : Zc (.ref C) (some d) oe) (hf : ∃ vs, oe.data = .fields vs) (hk : PySem.W.kitOne X.K (.ref C) (.ref D) = some b)
    (hg : Gl X x) (hm : X.mg x = none) (he : EX X Z e f) (hgy : Gl X y) (hmy : X.mg y = some (.ref D)) (hv : bootBuiltins x = some (.builtin "isinstance") := by decide +kernel) (hnn : x ≠ "__name__" := by decide) (hdb : (x == ("__debug__" : Str)) = false := by decide)
    (hdby : (y == ("__debug__" : Str)) = false := by decide) (hst : starEach (e :: [.Name y p']) X.env = (false, eval e X.env) :: starEach [.Name y p'] X.env := by rfl) (hpl : (backTo pos (starEach [.Name y p'] X.env)).any (·.1) = false := by rfl) :
    EX X Z (.Call (.Name x p) [e, .Name y p'] [] pos) (xIsX a d C b f) := by
  obtain ⟨t, pe, h1⟩ := he
  refine ⟨_, pe_callB (call_isP T TI hp hz hf) hg hm hv (pa_cons pe (pa_cons (pe_glob hgy hmy (v := .ref D) rfl hdby) pa_nil) hst) hnn hdb hst hpl, fun G I H σ τ s c s' Q w h q => ?_⟩
  unfold xIsX at h
  split at h
  · rename_i a' d' C' g t s1 ea
    split at h
    · rename_i hh
      obtain ⟨rfl, rfl, rfl⟩ := hh
      cases h
      refine h1 _ _ _ _ _ _ _ _ _ w ea fun I1 H1 v m1 w1 i1 => ?_
      obtain ⟨rfl, y, ed, iy⟩ := i1
      exact ⟨.ref D, .ref D, b, _, rfl, .own D, hk, w1.sub _ _ ed, q I1 H1 _ m1 w1 rfl⟩
    · cases h
  · cases h
end
/-! ### a def called with the exception that the suite holds -/
section
variable {X : Cx} {x qual : Str} {st : Stmt} {fa : Addr} {fd : FuncData} {N : List Str} {px : Str} {a d C : Addr} {oe : Obj} {g : SF Z0}
theorem run_hot {pins : List (Addr × Obj)} {σ : St} {H : Hp} {s : Shared} {Q : VK} (F : Fun X.K x qual st fa fd) (S : FnScope N [px] (defScope st)) (hb : Binds X.K fd [px] []) (hd : X.A.depth < recursionLimit) (hp : (a, oe) ∈ X.pn)
    (hg : ∀ (cdv : Value) (A : Around) (out : List Env) (z : Shared) (H : Hp) (E : XK), SS ((L2H.cxH CX0 X.prog X.w X.K X.mg X.base N qual (defScope st) fa cdv A out z H E (a, oe)).nox) Z0 (defBody st) g)
    (I : Inv X pins σ H s) (h : spS X.K Z0 (bodyF 1 N.length g) [.ref a] H Q (fun _ _ _ => False)) : wpAny (model X.prog X.w) X.A (call (.ref fa) [.ref a]) (EP X pins σ Q) X.xe s := by
  obtain ⟨oc, od, kV, doc, pm, an, cdv, ct, osl, rfl, lk, hcd⟩ := F.ex
  have P1 := I.pin (a, oe) (List.mem_append_left _ hp)
  have hpin : L2H.PinOk X.stack H s (a, oe) := ⟨P1.1, P1.2.1, fun hm => (List.mem_cons.mp (I.stkSub a hm)).elim P1.2.2.1 P1.2.2.2.1, P1.2.2.2.2⟩
  have e0 := I.env0
  have kinds : ∀ y ∈ ([px] : List Str).zip [Value.ref a], (defScope st).names.lookup y.1 = some .local ∨ ((defScope st).names.lookup y.1 = some .cell ∧ ((cellsFrom (s.heap.objs.size + 1) (defScope st).names []).lookup y.1).isSome = true) := by
    rintro ⟨nm, v⟩ hy
    exact (S.par nm (List.of_mem_zip hy).1).elim Or.inl fun q => Or.inr ⟨q, PySem.W.cellsFrom_some _ _ _ (Or.inl q)⟩
  have bd := hb s [.ref a] I.kIn rfl
  rw [List.append_nil] at bd
  refine wpAny_call (codeAny_mono (R := CR CX0 X.stack X.prog X.w H s Q (fun _ _ _ => False)) (codeAny_call_function hd (I.kIn _ _ lk) rfl S.co S.gen rfl (PySem.W.codeRec_of I.kIn hcd) (bd _ _ _ _ (wpAny_newFunctionEnv_cells S.kind kinds ?_))) fun r s' hq => ?_)
  · rintro env rfl s1 ic
    refine ⟨(e0.mod.nolimit.keeps fun b o q => (e0.bs b o q).1).keeps ic.toInCall.keep, codeAny_func ?_⟩
    obtain ⟨t, ht, hq⟩ := body_ends (ps := [px]) (N := N) (E := fun _ _ _ => False) rfl (hg cdv X.A X.stack s H fun _ _ _ => False) (scope_le S) h
    have J := L2H.inv_startH (CX := CX0) (P := X.prog) (E := fun _ _ _ => False) S hpin e0 (vs := [.ref a]) rfl (.cons rfl .nil) ic
    refine wpAny_mono (ht.nox.run [] s1 (start N [.ref a]) H _ J hq) ?_ fun e s' q => q
    intro fl s' hs
    cases fl with
    | ret u =>
      obtain ⟨v, _, H2, J2, rv, q⟩ := hs
      exact ⟨v, H2, J2.os, J2.bare, J2.base, J2.hok, rv, q⟩
    | next =>
      obtain ⟨_, H2, J2, q⟩ := hs
      exact ⟨V.non, H2, J2.os, J2.bare, J2.base, J2.hok, rfl, q⟩
    | brk =>
      obtain ⟨_, _, _, q⟩ := hs
      exact q.elim
    | cont =>
      obtain ⟨_, _, _, q⟩ := hs
      exact q.elim
  · rcases r with e | fl
    · exact hq.elim
    cases fl with
    | ret u => exact I.after hq
    | next => exact hq.elim
    | brk => exact hq.elim
    | cont => exact hq.elim
def xHot {Z : Res} (a : Addr) (m : Nat) (g : SF Z0) (f : EF Z) : EF Z := fun τ s => match f τ s with
  | some (.exc b d C fn u, s1) => if b = a then match fpOf (bodyF 1 m g) [.exc b d C fn u] with
      | some r => some (r, s1)
      | none => none
    else none
  | _ => none
/-- f(e), e the exception at a -/
theorem ex_hot {Z : Res} {e : Expr} {f : EF Z} {p pos : Pos} (F : Fun X.K x qual st fa fd) (S : FnScope N [px] (defScope st)) (hb : Binds X.K fd [px] []) (hd : X.A.depth < recursionLimit) (hp : (a, oe) ∈ X.pn)
    (hg : ∀ (cdv : Value) (A : Around) (out : List Env) (z : Shared) (H : Hp) (E : XK), SS ((L2H.cxH CX0 X.prog X.w X.K X.mg X.base N qual (defScope st) fa cdv A out z H E (a, oe)).nox) Z0 (defBody st) g)
    (hgl : Gl X x) (hm : X.mg x = some (.ref fa)) (hk : PySem.W.keepIn X.K (.ref fa) = true) (he : EX X Z e f)
    (hdb : (x == ("__debug__" : Str)) = false := by decide) (hs : starEach [e] X.env = (false, eval e X.env) :: starEach [] X.env := by rfl) (hpl : (backTo pos (starEach [] X.env)).any (·.1) = false := by rfl) : EX X Z (.Call (.Name x p) [e] [] pos) (xHot a N.length g f) := by
  obtain ⟨t, pe, h1⟩ := he
  refine ⟨fun σ H Q => t σ H fun v H1 => v = .ref a ∧ spS X.K Z0 (bodyF 1 N.length g) [.ref a] H1 Q (fun _ _ _ => False), ⟨fun pins s σ H Q I h => ?_⟩, fun G I H σ τ s r s' Q w h q => ?_⟩
  · refine wpAny_Call_Name_kw (ld_glob I hgl hm ?_ hdb)
    have pa : PA X [e] (tCons t tNil) := pa_cons pe pa_nil hs
    refine PySem.W.callWith_K (h₀ := X.base) I.ok.mod.kin hk (thn (pa.run pos pins s σ H (fun vs H1 => match vs with
      | [v] => v = .ref a ∧ spS X.K Z0 (bodyF 1 N.length g) [.ref a] H1 Q (fun _ _ _ => False)
      | _ => False) I h) fun us s1 ⟨vs, H1, I1, r, q⟩ => ⟨I1.kIn, ?_⟩) hs hpl
    obtain ⟨v, rfl⟩ : ∃ v, vs = [v] := by
      match vs, q with
      | [v], _ => exact ⟨v, rfl⟩
    obtain ⟨u, rfl, ru⟩ := vals1 r
    obtain ⟨rfl, q⟩ := q
    cases (show u = Value.ref a from ru)
    exact run_hot F S hb hd hp hg I1 q
  · unfold xHot at h
    split at h
    case h_2 => cases h
    rename_i b d C g1 u s1 eb
    split at h
    case isFalse => cases h
    rename_i hba
    subst hba
    split at h
    case h_2 => cases h
    rename_i r1 er
    cases h
    refine h1 _ _ _ _ _ _ _ _ _ w eb fun I1 H1 v m1 w1 i1 => ⟨i1.1, ?_⟩
    obtain ⟨rfl, _⟩ := id i1
    unfold fpOf at er
    split at er
    · rename_i r2 s2 e2
      cases er
      exact ⟨I1, [.exc b d C g1 u], (), _, (), w1.sub, fun p hp => hp.elim, trivial, IsL.cons i1 IsL.nil, e2, fun I' H' v e _ ia => q I' H' v (m1.trans e.im) (w1.extN e) ia⟩
    · cases er
end
end L2.TL
/-! TXp: the table of a text's exception classes: the first one is a son of Exception, all others are its sons. -/
namespace L2.TL
open PySem PySem.Spec PyProof.Rows PySem.HandSPX
structure Ec (n : Nat) where
  a : Nat → Addr
  inj : ∀ i j, i < n → j < n → a i = a j → i = j
/-- what lies above the class -/
def aboveE {n : Nat} (E : Ec n) : Nat → List Value
  | 0 => tlE
  | _ + 1 => .ref (E.a 0) :: tlE
structure ClsE (K : PySem.W.Frag) {n : Nat} (E : Ec n) (i : Nat) : Prop where
  l : ∃ nm q N bs sn sub ab col dd k0 k1 k2 k3 k5, K.lookup (E.a i) = some (excClassObj nm q (E.a i) N bs (aboveE E i) true sn sub ab col dd k0 k1 k2 k3 k5 "Exception.__new__")
  sa : PySem.W.findIn K (.ref (E.a i)) "__setattr__" = some (some (.builtin "object.__setattr__"))
  ga : PySem.W.findIn K (.ref (E.a i)) "__getattribute__" = some (some (.builtin "BaseException.__getattribute__"))
  gg : PySem.W.findIn K (.ref (E.a i)) "__getattr__" = some none
  kC : PySem.W.keepIn K (.ref (E.a i)) = true
  ha : PySem.W.findIn K (.ref (E.a i)) "__class__" = some (some (.builtin "object.__class__"))
structure ObC (K : PySem.W.Frag) : Prop where
  hn : PySem.W.specialIn K (.builtin "object.__class__") "__get__" = some (some (.builtin "getset_descriptor.__get__"))
  ht : PySem.W.takesIn K (.builtin "object.__class__") = some true
section
variable {K : PySem.W.Frag} {n : Nat} {E : Ec n} {i j : Nat}
theorem ClsE.look (c : ClsE K E i) : ∃ cd, PySem.W.clsIn K (E.a i) = some cd ∧ cd.mro = .ref (E.a i) :: aboveE E i ∧ cd.hasDict = true := by
  obtain ⟨nm, q, N, bs, sn, sub, ab, col, dd, k0, k1, k2, k3, k5, h⟩ := c.l
  refine ⟨⟨nm, bs, .ref (E.a i) :: aboveE E i, N, q, true, sn, sub, ab, col, false⟩, ?_, rfl, rfl⟩
  unfold PySem.W.clsIn
  rw [h]
theorem ClsE.sub (c : ClsE K E i) (b : Value) : PySem.W.subIn K (.ref (E.a i)) b = some ((Value.ref (E.a i) :: aboveE E i).contains b) := by
  obtain ⟨cd, e, m, _⟩ := c.look
  show PySem.W.mroIn K (E.a i) b = _
  unfold PySem.W.mroIn
  rw [e, Option.bind_some, m]
  rfl
theorem ClsE.ty (c : ClsE K E i) : PySem.W.typeIn K (.ref (E.a i)) = some (.type "type") := by
  obtain ⟨nm, q, N, bs, sn, sub, ab, col, dd, k0, k1, k2, k3, k5, h⟩ := c.l
  show (K.lookup (E.a i)).map (·.cls) = _
  rw [h]
  rfl
theorem above_has (E : Ec n) (x : String) : ∀ i, (aboveE E i).contains (.type x) = tlE.contains (.type x)
  | 0 => rfl
  | _ + 1 => by
    show (Value.ref (E.a 0) :: tlE).contains (.type x) = _
    rw [List.contains_cons]
    rfl
theorem above_ends (E : Ec n) : ∀ i, endsE (aboveE E i) = true
  | 0 => by
    show endsE tlE = true
    decide
  | _ + 1 => by
    show endsE tlE = true
    decide
theorem ClsE.xc (c : ClsE K E i) : XC K (E.a i) := by
  obtain ⟨nm, q, N, bs, sn, sub, ab, col, dd, k0, k1, k2, k3, k5, h⟩ := id c.l
  obtain ⟨cd, e, m, d⟩ := c.look
  refine ⟨⟨nm, q, N, bs, _, sn, sub, ab, col, dd, k0, k1, k2, k3, k5, h, above_ends E i⟩, c.sa, c.ga, c.gg, ?_, c.ty, c.kC, ?_⟩
  · rw [c.sub, List.contains_cons, above_has]
    rfl
  · unfold PySem.W.hasDictIn
    rw [e]
    exact d
theorem ClsE.xi (c : ClsE K E i) (o : ObC K) : XI K (E.a i) := by
  refine ⟨c.ha, o.hn, o.ht, ?_⟩
  have := c.sub (.type "object")
  rw [List.contains_cons, above_has] at this
  exact this
theorem above_ref (b : Addr) : ∀ i, (Value.ref (E.a i) :: aboveE E i).contains (.ref b) = (decide (E.a i = b) || decide (E.a 0 = b))
  | 0 => by
    rw [List.contains_cons]
    have e : (aboveE E 0).contains (.ref b) = false := rfl
    rw [e, Bool.or_false]
    by_cases h : E.a 0 = b
    · subst h
      simp
    · have : (Value.ref b == Value.ref (E.a 0)) = false := by
        simp only [beq_eq_false_iff_ne, ne_eq, Value.ref.injEq]
        exact fun z => h z.symm
      rw [this]
      simp [h]
  | i + 1 => by
    rw [List.contains_cons]
    have e : (aboveE E (i + 1)).contains (.ref b) = (Value.ref b == Value.ref (E.a 0)) := by
      show (Value.ref (E.a 0) :: tlE).contains (.ref b) = _
      rw [List.contains_cons]
      have : tlE.contains (.ref b) = false := rfl
      rw [this, Bool.or_false]
    rw [e]
    have k : ∀ x : Addr, (Value.ref b == Value.ref x) = decide (x = b) := fun x => by
      by_cases h : x = b
      · subst h
        simp
      · have : (Value.ref b == Value.ref x) = false := by
          simp only [beq_eq_false_iff_ne, ne_eq, Value.ref.injEq]
          exact fun z => h z.symm
        rw [this]
        simp [h]
    rw [k, k]
/-- a son of the j-th class? -/
def sonB (i j : Nat) : Bool := decide (i = j) || decide (j = 0)
theorem dec_inj (hi : i < n) (hj : j < n) : decide (E.a i = E.a j) = decide (i = j) := by
  by_cases h : i = j
  · subst h
    simp
  · have : E.a i ≠ E.a j := fun z => h (E.inj i j hi hj z)
    simp [h, this]
theorem kitC (ci : ClsE K E i) (cj : ClsE K E j) (hi : i < n) (hj : j < n) : PySem.W.kitCls K (.ref (E.a i)) (.ref (E.a j)) = some (sonB i j) := by
  obtain ⟨cd, e, _⟩ := cj.look
  unfold PySem.W.kitCls
  simp only [e, cj.ty, Option.isSome_some, beq_self_eq_true, Bool.and_self, if_true]
  rw [ci.sub, above_ref, dec_inj hi hj, dec_inj (by omega) hj]
  unfold sonB
  congr 2
  by_cases h : j = 0
  · simp [h]
  · simp [h, Ne.symm h]
theorem kit_of (ci : ClsE K E i) (cj : ClsE K E j) (hi : i < n) (hj : j < n) : PySem.W.kitOne K (.ref (E.a i)) (.ref (E.a j)) = some (sonB i j) := by
  unfold PySem.W.kitOne
  rw [kitC ci cj hi hj]
  split
  · rename_i h
    have : E.a i = E.a j := Value.ref.inj (eq_of_beq h)
    rw [E.inj i j hi hj this]
    simp [sonB]
  · rfl
theorem exm_of (ci : ClsE K E i) (cj : ClsE K E j) (hi : i < n) (hj : j < n) : PySem.W.exmOne K (.ref (E.a i)) (.ref (E.a j)) = some (sonB i j) := by
  unfold PySem.W.exmOne
  rw [cj.xc.exC, kitC ci cj hi hj]
  rfl
theorem kit_Exc (ci : ClsE K E i) : PySem.W.kitOne K (.ref (E.a i)) (.type "Exception") = some true := by
  unfold PySem.W.kitOne PySem.W.kitCls
  have m : PySem.W.kitMeta "Exception" = true := by decide +kernel
  have e : (Value.ref (E.a i) == Value.type "Exception") = false := rfl
  simp only [e, m, if_true, Bool.false_eq_true, if_false]
  rw [ci.sub, List.contains_cons, above_has]
  rfl
/-- the row of the j-th class: who is its son -/
def rowE (E : Ec n) (j : Nat) : List (Addr × Bool) := (List.range n).map fun i => (E.a i, sonB i j)
def rowX (E : Ec n) : List (Addr × Bool) := (List.range n).map fun i => (E.a i, true)
theorem row_kit (c : ∀ i, i < n → ClsE K E i) (o : ObC K) (hj : j < n) : KitE K (.ref (E.a j)) (rowE E j) := by
  refine ⟨fun p hp => ?_⟩
  obtain ⟨i, hi, rfl⟩ := List.mem_map.mp hp
  have hi := List.mem_range.mp hi
  exact ⟨kit_of (c i hi) (c j hj) hi hj, (c i hi).xc, (c i hi).xi o⟩
theorem rowX_kit (c : ∀ i, i < n → ClsE K E i) (o : ObC K) : KitE K (.type "Exception") (rowX E) := by
  refine ⟨fun p hp => ?_⟩
  obtain ⟨i, hi, rfl⟩ := List.mem_map.mp hp
  have hi := List.mem_range.mp hi
  exact ⟨kit_Exc (c i hi), (c i hi).xc, (c i hi).xi o⟩
theorem find_at (E : Ec n) (g : Nat → Bool) (hi : i < n) : ∀ (l : List Nat), (∀ k ∈ l, k < n) → i ∈ l → ((l.map fun k => (E.a k, g k)).find? fun p => decide (p.1 = E.a i)).map (·.2) = some (g i)
  | [], _, h => by cases h
  | k :: r, hl, h => by
    rw [List.map_cons, List.find?_cons]
    by_cases hk : k = i
    · subst hk
      simp
    · have : E.a k ≠ E.a i := fun z => hk (E.inj k i (hl k (List.mem_cons_self ..)) hi z)
      simp only [this, decide_false]
      rcases List.mem_cons.mp h with h | h
      · exact absurd h.symm hk
      · exact find_at E g hi r (fun k hk => hl k (List.mem_cons_of_mem _ hk)) h
theorem isE_row (hi : i < n) (fs : List (Str × T)) : isE (rowE E j) (.exv (E.a i) fs) = some (sonB i j) :=
  find_at E (fun i => sonB i j) hi _ (fun _ h => List.mem_range.mp h) (List.mem_range.mpr hi)
theorem isE_rowX (hi : i < n) (fs : List (Str × T)) : isE (rowX E) (.exv (E.a i) fs) = some true :=
  find_at E (fun _ => true) hi _ (fun _ h => List.mem_range.mp h) (List.mem_range.mpr hi)
end
/-- a class's own __init__ -/
structure InitE (K : PySem.W.Frag) {n : Nat} (E : Ec n) (i : Nat) (f px qual : Str) (st : Stmt) where
  fI : Addr
  fd : FuncData
  no : PySem.W.findIn K (.ref (E.a i)) f = some none
  iC : PySem.W.findIn K (.ref (E.a i)) "__init__" = some (some (.ref fI))
  tI : PySem.W.typeIn K (.ref fI) = some (.type "function")
  F : Fun K "__init__" qual st fI fd
  b : Binds K fd ["self", px] []
  bk : ∀ u v : Value, bindArgs fd ⟨[u], [(px, v)]⟩ = pure (([("self", u), (px, v)] : List (Str × Value)))
/-- the statements of a class's body -/
def clsBody : Stmt → List Stmt
  | .ClassDef _ _ _ body _ _ _ _ _ _ _ => body
  | _ => []
/-! ### x in (a, b, ..) of single values -/
def scsV : List T → Option (List V)
  | [] => some []
  | t :: r => match scV t, scsV r with
    | some x, some xs => some (x :: xs)
    | _, _ => none
def inT (neg : Bool) : T → T → Option T := fun a b => match scV a, b with
  | some x, .tup ts => match scsV ts with
    | some xs => some (.bl (if neg then !inV x xs else inV x xs))
    | none => none
  | _, _ => none
theorem flat_scV {t : T} {x : V} (h : scV t = some x) : flatV x = true := by
  cases t <;> first | (cases h; rfl) | (cases h; done)
theorem scsV_is {K : PySem.W.Frag} {I : Hp} : ∀ {ts : List T} {xs vs : List V}, scsV ts = some xs → IsL K I ts vs → vs = xs ∧ xs.all flatV = true
  | [], xs, vs, h, i => by
    cases h
    exact ⟨i, rfl⟩
  | t :: r, xs, vs, h, i => by
    obtain ⟨v, vr, rfl, iv, ir⟩ := i
    unfold scsV at h
    split at h
    · rename_i x ys hx hy
      cases h
      obtain ⟨rfl, f⟩ := scsV_is hy ir
      rw [scV_is hx iv, List.all_cons, flat_scV hx, f]
      exact ⟨rfl, rfl⟩
    · cases h
section
variable {X : Cx}
theorem op2_inT {neg : Bool} : Op2 X (rIn X.K neg) (inT neg) := by
  intro Z G I H σ τ s a b c x y Q w i1 i2 e q
  unfold inT at e
  split at e
  · rename_i u ts hu
    split at e
    · rename_i us hus
      cases e
      obtain ⟨p, xs, rfl, sq, il⟩ := i2
      obtain ⟨rfl, f⟩ := scsV_is hus il
      have e1 := scV_is hu i1
      subst e1
      exact ⟨p, _, rfl, .inr (sqt_mono w.sub sq.1), flat_scV hu, f, q.here w rfl⟩
    · cases e
  · cases e
def inX (neg : Bool) : T → T → Option T := orT (inS neg) (inT neg)
theorem or_inX : OpR X (compareOp .In) (fun x y H Q => rInS false x y H Q ∨ rIn X.K false x y H Q) := OpR.or or_in op_in_seq
theorem or_niX : OpR X (compareOp .NotIn) (fun x y H Q => rInS true x y H Q ∨ rIn X.K true x y H Q) := OpR.or or_ni op_notIn_seq
theorem op2_inX {neg : Bool} : Op2 X (fun x y H Q => rInS neg x y H Q ∨ rIn X.K neg x y H Q) (inX neg) := Op2.or op2_inS op2_inT
end
end L2.TL
/-! TXq: evaluation lemmas of TXc to TXp. -/
namespace L2.TL
open PySem PySem.Spec
open PyProof.Rows
section
variable {Z : Res} {f : EF Z} {τ : List SV} {s s1 : Z.S} {a d C : Addr} {g fn : Str} {t v : T} {b : Bool}
theorem ev_isXx (h : f τ s = some (.exc a d C g t, s1)) : xIsX a d C b f τ s = some (.bl b, s1) := by
  unfold xIsX
  rw [h]
  simp
theorem ev_xf (h : f τ s = some (.exc a d C fn t, s1)) : xXf a d C fn f τ s = some (t, s1) := by
  unfold xXf
  rw [h]
  simp
theorem ev_hot {m : Nat} {g0 : SF Z0} {r : T} (h : f τ s = some (.exc a d C fn t, s1)) (h2 : fpOf (bodyF 1 m g0) [.exc a d C fn t] = some r) : xHot a m g0 f τ s = some (r, s1) := by
  unfold xHot
  rw [h]
  simp only [if_true, h2]
theorem ev_raise (h : f τ s = some (v, s1)) : sRaise C fn f τ s = some (.xc C fn v τ s1) := by
  unfold sRaise
  rw [h]
theorem lcGo_map {gt : GF} {fe : EF Z} {h : T → T} : ∀ (items : List T), (∀ a ∈ items, ∃ τ', gt a τ = some τ' ∧ fe τ' s = some (h a, s)) → lcGo gt xYes fe τ items s = some (items.map h, s)
  | [], _ => rfl
  | a :: r, k => by
    obtain ⟨τ', e1, e2⟩ := k a (List.mem_cons_self ..)
    have e3 := lcGo_map r (fun b hb => k b (List.mem_cons_of_mem _ hb))
    have e4 : (xYes (Z := Z) τ' s) = some (true, s) := rfl
    unfold lcGo
    simp only [e1, e4, e2, e3, List.map_cons]
end
section
variable {Z : Res} {c : EFb Z} {f g : EF Z} {τ : List SV} {s s1 : Z.S} {o : Option (T × Z.S)}
theorem ev_xif_t (h : c τ s = some (true, s1)) (h2 : f τ s1 = o) : xIf c f g τ s = o := by
  unfold xIf
  rw [h]
  exact h2
theorem ev_xif_f (h : c τ s = some (false, s1)) (h2 : g τ s1 = o) : xIf c f g τ s = o := by
  unfold xIf
  rw [h]
  exact h2
end
section
variable {n : Nat} {E : Ec n} {Z : Res} {f : EF Z} {τ : List SV} {s s1 : Z.S} {fs : List (Str × T)} {i j : Nat}
theorem ev_isE (h : f τ s = some (.exv (E.a i) fs, s1)) (hi : i < n) : xIsE (rowE E j) f τ s = some (.bl (sonB i j), s1) := by
  unfold xIsE
  rw [h]
  simp only [isE_row hi]
theorem ev_isX (h : f τ s = some (.exv (E.a i) fs, s1)) (hi : i < n) : xIsE (rowX E) f τ s = some (.bl true, s1) := by
  unfold xIsE
  rw [h]
  simp only [isE_rowX hi]
theorem ev_fldE {Cs : List Addr} {C : Addr} {fn : Str} {t : T} (h : f τ s = some (.exv C fs, s1)) (hC : C ∈ Cs) (hl : fs.lookup fn = some t) : xFldE Cs fn f τ s = some (t, s1) := by
  unfold xFldE
  rw [h]
  simp only [hC, if_true, hl]
end
end L2.TL
/-! TXr: x in d, l[i] of an own list, str(i). -/
namespace L2.TL
open PySem PySem.Spec
open PyProof.Rows
section
variable {X : Cx} {Z : Res}
def rInK (neg : Bool) : R2 := fun x y H Q => ∃ (a : Addr) (o : Option V), y = .ref a ∧ DGet H a x o ∧ Q (.bl (if neg then !o.isSome else o.isSome)) H
theorem op_inK (hu : X.A.units + 1 < cLine) : OpR X (compareOp .In) (rInK false) := by
  intro pins s σ H x y v u Q I rx ry h
  obtain ⟨a, o, rfl, g, q⟩ := h
  cases ry
  exact d_in hu I g rx fun s2 I2 => ⟨.bl o.isSome, H, I2, rfl, q⟩
theorem op_niK (hu : X.A.units + 1 < cLine) : OpR X (compareOp .NotIn) (rInK true) := by
  intro pins s σ H x y v u Q I rx ry h
  obtain ⟨a, o, rfl, g, q⟩ := h
  cases ry
  exact d_notIn hu I g rx fun s2 I2 => ⟨.bl (!o.isSome), H, I2, rfl, q⟩
def inK (neg : Bool) : T → T → Option T := fun a b => match keyOf a, b with
  | some k, .dct ps => some (.bl (if neg then !(getT ps k).isSome else (getT ps k).isSome))
  | _, _ => none
theorem op2_inK {neg : Bool} : Op2 X (rInK neg) (inK neg) := by
  intro Z G I H σ τ s a b c x y Q w i1 i2 e q
  unfold inK at e
  split at e
  · rename_i k ps ek
    cases e
    obtain ⟨ad, xs, rfl, ha, hd⟩ := i2
    have ex := keyOf_is ek i1
    subst ex
    refine ⟨ad, valV xs k, rfl, .inl ⟨xs, k, .inl (w.sub _ _ ha), rfl, rfl⟩, ?_⟩
    have es : (valV xs k).isSome = (getT ps k).isSome := by
      cases eg : getT ps k with
      | none =>
        rw [hd.getN eg]
        rfl
      | some t =>
        obtain ⟨z, hz, _⟩ := hd.get eg
        rw [hz]
        rfl
    rw [es]
    exact q.here w rfl
  · cases e
def inXD (neg : Bool) : T → T → Option T := orT (inX neg) (inK neg)
theorem or_inXD (hu : X.A.units + 1 < cLine) : OpR X (compareOp .In) (fun x y H Q => (rInS false x y H Q ∨ rIn X.K false x y H Q) ∨ rInK false x y H Q) := OpR.or or_inX (op_inK hu)
theorem or_niXD (hu : X.A.units + 1 < cLine) : OpR X (compareOp .NotIn) (fun x y H Q => (rInS true x y H Q ∨ rIn X.K true x y H Q) ∨ rInK true x y H Q) := OpR.or or_niX (op_niK hu)
theorem op2_inXD {neg : Bool} : Op2 X (fun x y H Q => (rInS neg x y H Q ∨ rIn X.K neg x y H Q) ∨ rInK neg x y H Q) (inXD neg) := Op2.or op2_inX op2_inK
/-! str(i) -/
def strT : List T → Option T
  | [.int i] => if i.natAbs.log2 < 1920 then some (.str (toString i)) else none
  | _ => none
theorem op_strT : Op1 X (fun xs H Q => ∃ i, xs = [.int i] ∧ i.natAbs.log2 < 1920 ∧ Q (.str (toString i)) H) strT := by
  intro Z G I H σ τ s as c xs Q w il e q
  unfold strT at e
  split at e
  · split at e
    · rename_i i hz
      cases e
      obtain ⟨x, r, rfl, ix, ir⟩ := il
      have ix : x = _ := ix
      have ir : r = _ := ir
      subst ix ir
      exact ⟨i, rfl, hz, q.here w rfl⟩
    · cases e
  · cases e
/-! own[i] -/
def xIxO {Z : Res} (i : Nat) (f : EF Z) : EF Z := fun τ s => match f τ s with
  | some (.int k, s1) => match τ[i]? with
    | some (.ow (.lst ts)) => match L2.atI ts k with
      | some a => some (a, s1)
      | none => none
    | _ => none
  | _ => none
theorem ex_ixO {e : Expr} {f : EF Z} {x : Str} {p pos : Pos} (i : Nat) (he : EX X Z e f) (hN : X.N[i]? = some x := by rfl) (hv : Vis X.env.scope x := by first | exact Or.inl rfl | exact Or.inr (Or.inl rfl) | exact Or.inr (Or.inr rfl))
    (hd : (x == ("__debug__" : Str)) = false := by decide) (hcd : (x == ("__classdict__" : Str)) = false := by decide) (hs : PlainIx e := by exact fun _ _ => rfl) : EX X Z (.Subscript (.Name x p) e pos) (xIxO i f) := by
  obtain ⟨t, pe, h1⟩ := he
  refine ⟨_, pe_ix ix_seq (pe_var hN hv hd hcd) pe hs, fun G I H σ τ s a s' Q w h q => ?_⟩
  unfold xIxO at h
  split at h
  case h_2 => cases h
  rename_i k s1 ek
  split at h
  case h_2 => cases h
  rename_i ts hi
  split at h
  case h_2 => cases h
  rename_i b eb
  cases h
  obtain ⟨p0, o0, hσ, _⟩ := w.ow i _ hi
  refine ⟨.ref p0, hσ, h1 _ _ _ _ _ _ _ _ _ w ek fun I1 H1 v m1 w1 i1 => ?_⟩
  have i1 : v = .int k := i1
  subst i1
  obtain ⟨p1, o1, hσ1, _, _, _, ho, cn⟩ := w1.ow i _ hi
  rw [hσ] at hσ1
  cases hσ1
  cases o1 <;> first | exact cn.elim | skip
  rename_i xs
  have cn : IsL X.K I1 ts xs := cn
  obtain ⟨v, e1, e2⟩ := cn.atI eb
  exact .inl ⟨p0, xs, _, v, rfl, rfl, .of ho, e1, q I1 H1 v m1 w1 e2⟩
end
end L2.TL
/-! TXs: a tuple of anything == (). -/
namespace L2.TL
open PySem PySem.Spec
open PyProof.Rows
/-! a dict beside a text -/
theorem dict_str (l : Addr) (o : Obj) (hc : o.cls = .type "dict") (b : Str) (u : Tok) : Meets (Builtin.«dict.__eq__» ⟨[.ref l, .str b u], []⟩) (fun _ R s => s.heap.get? l = some o ∧ R (.ok (.ret .notImplemented)) s) :=
  .of_wp fun prog w A R s h => by
    obtain ⟨hp, g, d, tk, os⟩ := s
    obtain ⟨hl, h⟩ := h
    have f1 := F.sub_str_dict
    have ty : (⟨hp, g, d, tk, os⟩ : Shared).TypeIs (.ref l) "dict" := ⟨_, hl, hc⟩
    wp_walk using wpAny_loadPart' hl
    exact ⟨_, rfl, h⟩
theorem str_dict (b : Str) (u : Tok) (l : Addr) (c : Value) (dd : Option Addr) (es : Array DictEntry) (ep : Nat) (sl : Array (Option Value)) :
    Meets (Builtin.«str.__eq__» ⟨[.str b u, .ref l], []⟩) (fun _ R s => s.heap.get? l = some { cls := c, dict := dd, data := .dict es ep, slots := sl } ∧ R (.ok (.ret .notImplemented)) s) :=
  .of_wp fun prog w A R s h => by
    obtain ⟨h0, g, d, tk, os⟩ := s
    obtain ⟨hl, h⟩ := h
    wp_walk using wpAny_loadPart' hl, wpAny_load hl
    exact ⟨_, rfl, h⟩
theorem rc_dict_str {A : Around} {s : Shared} {l : Addr} {o : Obj} {es : Array DictEntry} {ep : Nat} (hl : s.heap.get? l = some o) (hc : o.cls = .type "dict") (hd : o.data = .dict es ep) (b : Str) (u : Tok) (hu : A.units < cLine) : SeqAt.RcAt A s (.ref l) (.str b u) false := fun prog w E Q h => by
  obtain ⟨cls, dd, data, sl⟩ := o
  simp only at hc hd
  subst hc hd
  exact SeqAt.rc_eq_decline_or (k := false) ⟨_, hl, rfl⟩ (typeIs_str s b u) (by decide) F.sub_str_dict F.slot_dict_eq F.slot_str_eq_refl
    (fun _ hq => call_meets F.slot_dict_eq ⟨_, hl, rfl⟩ F.entry_dict_eq (F.args_dict_eq_2 _ _) (dict_str l _ rfl b u) ⟨hl, hq⟩)
    (fun _ hq => call_meets F.slot_str_eq_refl (typeIs_str s b u) F.entry_str_eq (F.args_str_eq_2 _ _) (str_dict b u l _ dd es ep sl) ⟨hl, hq⟩)
    (fun _ hq => wpAny_of_eq (rfl : isSame (.ref l) (.str b u) = pure false) hq) (.inr hu) h
section
variable {X : Cx}
def rEqNil (K : PySem.W.Frag) (neg : Bool) : R2 := fun x y H Q => ∃ a b xs, x = .ref a ∧ y = .ref b ∧ SqT K H a xs ∧ SqT K H b [] ∧ Q (.bl (if neg then !decide (xs = []) else decide (xs = []))) H
theorem nil_len {xs : List V} {us : List Value} (r : Vals xs us) : (us.length == 0) = decide (xs = []) := by
  cases r <;> simp
theorem op_eqNil (hu : X.A.units < cLine) : OpR X (compareOp .Eq) (rEqNil X.K false) := by
  intro pins s σ H x y v u Q I rx ry h
  obtain ⟨a, b, xs, rfl, rfl, ha, hb, q⟩ := h
  cases rx
  cases ry
  obtain ⟨us, r1, p1, _⟩ := I.tuple ha
  obtain ⟨ws, r2, p2, _⟩ := I.tuple hb
  cases r2
  refine SeqAt.RcAt.tuples (e := fun _ => true) p1 p2 hu (fun j h1 h2 => absurd h2 (by simp)) _ _ _ _ ⟨.bl (decide (xs = [])), H, I, ?_, q⟩
  have := nil_len r1
  simp [← this]
  rfl
theorem op_neNil (hu : X.A.units < cLine) : OpR X (compareOp .NotEq) (rEqNil X.K true) := by
  intro pins s σ H x y v u Q I rx ry h
  obtain ⟨a, b, xs, rfl, rfl, ha, hb, q⟩ := h
  cases rx
  cases ry
  obtain ⟨us, r1, p1, _⟩ := I.tuple ha
  obtain ⟨ws, r2, p2, _⟩ := I.tuple hb
  cases r2
  refine SeqAt.RcNeAt.tuples (e := fun _ => true) p1 p2 hu (fun j h1 h2 => absurd h2 (by simp)) _ _ _ _ ⟨.bl (!decide (xs = [])), H, I, ?_, q⟩
  have := nil_len r1
  simp [← this]
  rfl
def eqNil (neg : Bool) : T → T → Option T := fun a b => match a, b with
  | .tup ts, .tup [] => some (.bl (if neg then !ts.isEmpty else ts.isEmpty))
  | _, _ => none
theorem op2_eqNil {neg : Bool} : Op2 X (rEqNil X.K neg) (eqNil neg) := by
  intro Z G I H σ τ s a b c x y Q w i1 i2 e q
  unfold eqNil at e
  split at e
  · rename_i ts
    cases e
    obtain ⟨p, xs, rfl, h1, j⟩ := i1
    obtain ⟨r, ys, rfl, h2, k⟩ := i2
    have k : ys = [] := k
    subst k
    refine ⟨p, r, xs, rfl, rfl, sqt_mono w.sub h1.1, sqt_mono w.sub h2.1, ?_⟩
    have e : decide (xs = []) = ts.isEmpty := by
      have hl := j.len
      cases ts with
      | nil =>
        have : xs = [] := List.length_eq_zero_iff.mp hl
        rw [this]
        rfl
      | cons t r =>
        have : xs ≠ [] := fun z => by
          rw [z] at hl
          cases hl
        simp [this]
    rw [e]
    exact q.here w rfl
  · cases e
def rEqTx (K : PySem.W.Frag) : R2 := fun x y H Q => ∃ a z, x = .ref a ∧ y = .str z ∧ ((∃ xs, SqL K H a xs) ∨ (∃ xs, SqT K H a xs) ∨ ∃ ps, H a = some (.dK ps)) ∧ Q (.bl false) H
theorem op_eqTx (hu : X.A.units < cLine) : OpR X (compareOp .Eq) (rEqTx X.K) := by
  intro pins s σ H x y v u Q I rx ry h
  obtain ⟨a, z, rfl, rfl, hk, q⟩ := h
  cases rx
  obtain ⟨t, rfl⟩ := ry
  have fin : EP X pins σ Q (.bool false) s := ⟨.bl false, H, I, rfl, q⟩
  rcases hk with ⟨xs, hq⟩ | ⟨xs, hq⟩ | ⟨ps, hd⟩
  · obtain ⟨us, _, p1, _⟩ := I.list hq
    exact SeqAt.RcAt.list_str z t p1.isList hu _ _ _ _ fin
  · obtain ⟨us, _, p1, _⟩ := I.tuple hq
    exact SeqAt.RcAt.tuple_str z t p1 hu _ _ _ _ fin
  · obtain ⟨_, _, _, _, o, es, ep, ho, hc, hd, _⟩ := (show ObjOk X.prog X.w H s.heap a (.dK ps) from I.hok a _ hd)
    exact rc_dict_str ho hc.1 hd z t hu _ _ _ _ fin
def eqTx : T → T → Option T := fun a b => match a, b with
  | .lst _, .str _ => some (.bl false)
  | .tup _, .str _ => some (.bl false)
  | .dct _, .str _ => some (.bl false)
  | _, _ => none
theorem op2_eqTx : Op2 X (rEqTx X.K) eqTx := by
  intro Z G I H σ τ s a b c x y Q w i1 i2 e q
  unfold eqTx at e
  split at e
  · cases e
    obtain ⟨p, xs, rfl, h1, _⟩ := i1
    exact ⟨p, _, rfl, i2, .inl ⟨xs, .of (w.sub _ _ h1)⟩, q.here w rfl⟩
  · cases e
    obtain ⟨p, xs, rfl, h1, _⟩ := i1
    exact ⟨p, _, rfl, i2, .inr (.inl ⟨xs, sqt_mono w.sub h1.1⟩), q.here w rfl⟩
  · cases e
    obtain ⟨p, xs, rfl, h1, _⟩ := i1
    exact ⟨p, _, rfl, i2, .inr (.inr ⟨xs, w.sub _ _ h1⟩), q.here w rfl⟩
  · cases e
/-! a list of anything != [] -/
def rNeNilL (K : PySem.W.Frag) : R2 := fun x y H Q => ∃ a b xs, x = .ref a ∧ y = .ref b ∧ SqL K H a xs ∧ SqL K H b [] ∧ Q (.bl (!decide (xs = []))) H
theorem op_neNilL (hu : X.A.units < cLine) : OpR X (compareOp .NotEq) (rNeNilL X.K) := by
  intro pins s σ H x y v u Q I rx ry h
  obtain ⟨a, b, xs, rfl, rfl, ha, hb, q⟩ := h
  cases rx
  cases ry
  obtain ⟨us, r1, p1, _⟩ := I.list ha
  obtain ⟨ws, r2, p2, _⟩ := I.list hb
  cases r2
  have hn := nil_len r1
  have fin : EP X pins σ Q (.bool (!decide (xs = []))) s := ⟨.bl (!decide (xs = [])), H, I, rfl, q⟩
  by_cases hx : xs = []
  · subst hx
    cases r1
    refine SeqAt.RcNeAt.lists (e := fun _ => true) p1.isList p2.isList rfl hu (fun j h1 h2 => absurd h2 (by simp)) _ _ _ _ ?_
    simpa using fin
  · rw [decide_eq_false hx] at fin hn
    refine SeqAt.RcNeAt.lists_lengths p1.isList p2.isList ?_ hu _ _ _ _ ?_
    · have : us.length ≠ 0 := by simpa using hn
      simpa using this
    · simpa using fin
def neNilL : T → T → Option T := fun a b => match a, b with
  | .lst ts, .lst [] => some (.bl (!ts.isEmpty))
  | _, _ => none
theorem op2_neNilL : Op2 X (rNeNilL X.K) neNilL := by
  intro Z G I H σ τ s a b c x y Q w i1 i2 e q
  unfold neNilL at e
  split at e
  · rename_i ts
    cases e
    obtain ⟨p, xs, rfl, h1, j⟩ := i1
    obtain ⟨r, ys, rfl, h2, k⟩ := i2
    have k : ys = [] := k
    subst k
    refine ⟨p, r, xs, rfl, rfl, .of (w.sub _ _ h1), .of (w.sub _ _ h2), ?_⟩
    have e : decide (xs = []) = ts.isEmpty := by
      have hl := j.len
      cases ts with
      | nil =>
        have : xs = [] := List.length_eq_zero_iff.mp hl
        rw [this]
        rfl
      | cons t r =>
        have : xs ≠ [] := fun z => by
          rw [z] at hl
          cases hl
        simp [this]
    rw [e]
    exact q.here w rfl
  · cases e
/-! all of them -/
def eqY : T → T → Option T := orT (eqX false) (orT (eqNil false) eqTx)
def neY : T → T → Option T := orT (eqX true) (orT (eqNil true) neNilL)
theorem or_eqY (hu : X.A.units + 64 < cLine) : OpR X (compareOp .Eq) (fun x y H Q => (rEqS false x y H Q ∨ rEqT X.K false x y H Q) ∨ (rEqNil X.K false x y H Q ∨ rEqTx X.K x y H Q)) := OpR.or (or_eq hu) (OpR.or (op_eqNil (by omega)) (op_eqTx (by omega)))
theorem or_neY (hu : X.A.units + 64 < cLine) : OpR X (compareOp .NotEq) (fun x y H Q => (rEqS true x y H Q ∨ rEqT X.K true x y H Q) ∨ (rEqNil X.K true x y H Q ∨ rNeNilL X.K x y H Q)) := OpR.or (or_ne hu) (OpR.or (op_neNil (by omega)) (op_neNilL (by omega)))
theorem o2_eqY : Op2 X (fun x y H Q => (rEqS false x y H Q ∨ rEqT X.K false x y H Q) ∨ (rEqNil X.K false x y H Q ∨ rEqTx X.K x y H Q)) eqY := Op2.or o2_eq (Op2.or op2_eqNil op2_eqTx)
theorem o2_neY : Op2 X (fun x y H Q => (rEqS true x y H Q ∨ rEqT X.K true x y H Q) ∨ (rEqNil X.K true x y H Q ∨ rNeNilL X.K x y H Q)) neY := Op2.or o2_eq (Op2.or op2_eqNil op2_neNilL)
theorem eqY_of {a b c : T} (h : eqX false a b = some c) : eqY a b = some c := by
  unfold eqY orT
  rw [h]
theorem neY_of {a b c : T} (h : eqX true a b = some c) : neY a b = some c := by
  unfold neY orT
  rw [h]
end
end L2.TL
/-! TXt: t[::-1] of tuples and lists. -/
namespace L2.TL
open PySem PySem.Spec
open PyProof.Rows
section
variable {prog : Program} {w : World} {A : Around} {E : Value → Shared → Prop} {s : Shared}
theorem adjust_rev (n : Nat) : Builtin.Slice.sliceAdjust none none (-1) (n : Int) = ((n : Int) - 1, -1) := by
  have h1 : ((-1 : Int) < 0) := by decide
  unfold Builtin.Slice.sliceAdjust
  simp only [h1, if_true]
theorem places_rev (n : Nat) : Builtin.Slice.slicePlaces ((n : Int) - 1) (-1) (-1) = n := by
  unfold Builtin.Slice.slicePlaces
  have h1 : ¬ ((-1 : Int) > 0) := by decide
  have e : (- -1 : Int) = 1 := by decide
  simp only [h1, if_false, e, Int.ediv_one]
  split <;> omega
theorem pick_rev (xs : Array Value) : ((List.range xs.size).filterMap fun (k : Nat) => xs[(((xs.size : Int) - 1) + (k : Int) * (-1)).toNat]?).toArray = xs.toList.reverse.toArray := by
  have e : (fun (k : Nat) => xs[(((xs.size : Int) - 1) + (k : Int) * (-1)).toNat]?) = (fun i => xs[i]?) ∘ fun k => xs.size - 1 - k := by
    funext k
    have : (((xs.size : Int) - 1) + (k : Int) * (-1)).toNat = xs.size - 1 - k := by omega
    show xs[_]? = xs[_]?
    rw [this]
  rw [e, ← List.filterMap_map, PySem.W.krv_range, List.filterMap_reverse, PySem.W.krv_all]
theorem sliceApplied_rev {sl : Addr} {vl vu vs : Value} {n : Nat} {Q : Int × Int × Nat → Shared → Prop} (hs : s.heap.IsSliceOf sl vl vu vs) (pl : IsPart vl none) (pu : IsPart vu none) (ps : IsPart vs (some (-1)))
    (h : Q ((n : Int) - 1, -1, n) s) : wpAny (model prog w) A (Builtin.Slice.sliceApplied (.ref sl) (pure (n : Int))) Q E s := by
  obtain ⟨os, hos, hcs, hds⟩ := id hs
  unfold Builtin.Slice.sliceApplied Builtin.Slice.sliceFields
  refine wpAny_bind (wpAny_bind (wpAny_field hos hds (x := vl) rfl (wpAny_bind (wpAny_field hos hds (x := vu) rfl (wpAny_bind (wpAny_field hos hds (x := vs) rfl (wpAny_pure ?_)))))))
  refine wpAny_bind (HT.slicePart_ ps ?_)
  show wpAny _ _ (if ((-1 : Int) == 0) = true then _ else _) _ _ s
  rw [if_neg (by decide)]
  refine wpAny_bind (HT.slicePart_ pl (wpAny_bind (HT.slicePart_ pu (wpAny_bind (wpAny_pure ?_)))))
  show wpAny _ _ (match Builtin.Slice.sliceAdjust none none (-1) (n : Int) with | (lo, hi) => pure (lo, (-1 : Int), Builtin.Slice.slicePlaces lo hi (-1))) _ _ s
  rw [adjust_rev n]
  show wpAny _ _ (pure ((n : Int) - 1, (-1 : Int), Builtin.Slice.slicePlaces ((n : Int) - 1) (-1) (-1))) _ _ s
  rw [places_rev]
  exact wpAny_pure h
theorem getItem_tuple_rev {t sl : Addr} {items : Array Value} {vl vu vs : Value} {Q : Value → Shared → Prop} (ht : IsTup s.heap t items) (hs : s.heap.IsSliceOf sl vl vu vs) (pl : IsPart vl none) (pu : IsPart vu none) (ps : IsPart vs (some (-1)))
    (h : Q (.ref s.heap.objs.size) { s with heap := s.heap.push { cls := .type "tuple", data := .seq items.toList.reverse.toArray } })
    (hsz : items.size ≤ sizeLine) : wpAny (model prog w) A (getItem (.ref t) (.ref sl)) Q E s := by
  have htake : sizeOk (.seq items.toList.reverse.toArray) := by
    show items.toList.reverse.toArray.size ≤ sizeLine
    rw [List.size_toArray, List.length_reverse, Array.length_toList]
    exact hsz
  obtain ⟨os, hos, hcs, hds⟩ := id hs
  have hTs : s.TypeIs (.ref sl) "slice" := ⟨os, hos, hcs⟩
  unfold getItem
  try with_reducible refine wpAny_holding ?_
  first | refine wpAny_bind (wpAny_pure ?_) | skip
  refine wpAny_bind (wpAny_sequenceKey ht.typeIs (by decide) ?_)
  refine wpAny_bind (wpAny_callSpecial?_slot (name := Str.ofString "__getitem__") ht.typeIs PyProof.Rows.slot_tuple_getitem
    (wpAny_call_entry PyProof.Rows.slot_tuple_getitem ht.typeIs entry_tuple_getitem ?_ (args_tuple_getitem _ _)))
  show wpAny _ _ (Builtin.Tuple.tupleItemsOf (.ref t) >>= _) _ _ s
  refine wpAny_bind (tupleItemsOf_ ht ?_)
  refine wpAny_bind (wpAny_typeOf hTs ?_)
  rw [if_pos (by decide)]
  refine wpAny_bind (sliceApplied_rev hs pl pu ps ?_)
  have hno : ¬ ((((items.size : Int) - 1) == 0 && (-1 : Int) == 1 && items.size == items.size) = true) := by
    intro q
    rw [Bool.and_eq_true, Bool.and_eq_true] at q
    exact absurd q.1.2 (by decide)
  show wpAny _ _ (if (((items.size : Int) - 1) == 0 && (-1 : Int) == 1 && items.size == items.size) = true then _ else _) _ _ s
  rw [if_neg hno, pick_rev]
  first
    | exact wpAny_bind (m := Builtin.Tuple.tupleExact _) (wpAny_newObj_type (wpAny_pure ⟨_, rfl, wpAny_pure h⟩) htake)
    | exact wpAny_bind (m := Builtin.Tuple.tupleExact _) (wpAny_newObj_type (wpAny_bind (wpAny_pure (wpAny_pure ⟨_, rfl, wpAny_pure h⟩))) htake)
    | exact wpAny_bind (wpAny_bind (m := Builtin.Tuple.tupleExact _) (wpAny_newObj_type (wpAny_pure (wpAny_pure ⟨_, rfl, wpAny_pure h⟩)) htake))
    | exact wpAny_bind (wpAny_bind (m := Builtin.Tuple.tupleExact _) (wpAny_newObj_type (wpAny_pure ⟨_, rfl, wpAny_pure h⟩) htake))
end
section
variable {X : Cx} {Z : Res} {e : Expr} {f : EF Z} {pos : Pos}
def tRevT (K : PySem.W.Frag) (te : TE) : TE := fun σ H Q => te σ H fun x H1 => ∃ a xs, x = .ref a ∧ SqT K H1 a xs ∧ NewT H1 xs.reverse Q
theorem pe_revT {te : TE} {k : Nat} {p1 p2 p3 : Pos} (he : PE X e te) : PE X (.Subscript e (.Slice none none (some (.UnaryOp .USub (.Constant (.int 1) k p1) p2)) p3) pos) (tRevT X.K te) := by
  refine ⟨fun pins s σ H Q I h => ?_⟩
  refine Subscript_ (thn (he.run pins s σ H _ I h) fun v s1 ⟨x, H1, I1, r1, q1⟩ => ?_)
  obtain ⟨a, xs, ex, hx, q⟩ := q1
  subst ex
  cases r1
  have hst : PO X (some (.UnaryOp .USub (.Constant (.int 1) k p1) p2)) (tPart (tUn (rU fun i => .int (-i)) (tC (.int 1)))) := po_some (pe_un un_neg pe_int)
  refine wpAny_Slice (thn (po_none.run pins s1 σ H1 (fun o H2 => o = none ∧ H2 = H1) I1 ⟨rfl, rfl⟩) fun vl s2 ⟨l, H2, I2, pl, el, e2⟩ => ?_)
  subst el e2
  refine thn (po_none.run pins s2 σ H2 (fun o H3 => o = none ∧ H3 = H2) I2 ⟨rfl, rfl⟩) fun vu s3 ⟨u, H3, I3, pu, eu, e3⟩ => ?_
  subst eu e3
  refine thn (hst.run pins s3 σ H3 (fun o H4 => o = some (-1) ∧ H4 = H3) I3 ⟨1, rfl, -1, rfl, rfl, rfl⟩) fun vs s4 ⟨o, H4, I4, ps, eo, e4⟩ => ?_
  subst eo e4
  have I5 : Inv X pins σ H4 { s4 with heap := s4.heap.push { cls := .type "slice", data := .fields #[vl, vu, vs] } } := I4.kept (t' := s4.toks) fun b ob q => Heap.get?_push_of_some _ q
  obtain ⟨its, r, ht, hz⟩ := I5.tuple hx
  have hlen := r.length
  show wpAny (model X.prog X.w) X.A (subscriptTail e (.Slice none none (some (.UnaryOp .USub (.Constant (.int 1) k p1) p2)) p3) (.ref a) (.ref s4.heap.objs.size)) (EP X pins σ Q) X.xe { s4 with heap := s4.heap.push { cls := .type "slice", data := .fields #[vl, vu, vs] } }
  refine tail_any (ops := [.ref a, .ref s4.heap.objs.size]) ht.typeIs (PyProof.Rows.slot_tuple_getitem.lookup) ?_ (by with_unfolding_all rfl)
  refine getItem_tuple_rev ht (Heap.IsSliceOf.new _ vl vu vs) pl pu ps ?_ (by rw [List.size_toArray]; omega)
  exact ⟨.ref _, _, laidT (tk := s4.toks) I5 r.reverse (by rw [List.length_reverse]; exact hz), rfl, q _ _ (I5.hok.fresh (Nat.le_refl _)) rfl rfl⟩
/-- t[::-1] of a tuple -/
def revU : T → Option T
  | .tup ts => some (.tup ts.reverse)
  | _ => none
theorem ex_revU {j : Nat} {p1 p2 p3 : Pos} (h : EX X Z e f) : EX X Z (.Subscript e (.Slice none none (some (.UnaryOp .USub (.Constant (.int 1) j p1) p2)) p3) pos) (x1 revU f) := by
  obtain ⟨t, p, h1⟩ := h
  refine ⟨_, pe_revT p, fun G I H σ τ s a s' Q w h q => ?_⟩
  obtain ⟨b, eb, ed⟩ := x1_of h
  refine h1 _ _ _ _ _ _ _ _ _ w eb fun I1 H1 v m1 w1 i1 => ?_
  unfold revU at ed
  split at ed
  · cases ed
    obtain ⟨l, xs, rfl, g1, g2⟩ := i1
    exact ⟨l, xs, rfl, sqt_mono w1.sub g1.1, fun p ob hp c1 c2 => Hand.new w1 (fun I' H' v m => q I' H' v (m1.trans m)) hp fun I' m e => ⟨p, _, rfl, sqp_new e c1 c2, g2.rev.mono m⟩⟩
  · cases ed
end
end L2.TL
/-! TXu: what comes of statements and of slices (of use to the mathematics of laws). -/
namespace L2.TL
open PySem PySem.Spec
open PyProof.Rows
theorem ev_forE {Z : Res} {fi : EFs Z} {gt : GF} {gb : SF Z} {τ : List SV} {s s1 : Z.S} {items : List T} {o : Out Z.S} (h : fi τ s = some (items, s1)) (h2 : sFor gt gb items τ s1 = some o) : sForE fi gt gb τ s = some o := by
  unfold sForE
  simp only [h]
  exact h2
theorem sFor_ix {Z : Res} {gt : GF} {gb : SF Z} (Inv : Nat → List SV → Prop) : ∀ (m n : Nat) (τ : List SV) (s : Z.S), (∀ k, n ≤ k → k < n + m → ∀ τ s, Inv k τ → ∃ τ1, gt (.int (k : Int)) τ = some τ1 ∧ Wn (gb τ1 s) fun τ2 _ => Inv (k + 1) τ2) → Inv n τ → Wn (sFor gt gb (intsFrom (n : Int) m) τ s) fun τ2 _ => Inv (n + m) τ2
  | 0, n, τ, s, _, i => ⟨τ, s, rfl, i⟩
  | m + 1, n, τ, s, h, i => by
    obtain ⟨τ1, e1, τ2, s2, e2, i2⟩ := h n (Nat.le_refl _) (by omega) τ s i
    obtain ⟨τ3, s3, e3, i3⟩ := sFor_ix Inv m (n + 1) τ2 s2 (fun k h1 h2 => h k (by omega) (by omega)) i2
    refine ⟨τ3, s3, ?_, by rw [show n + (m + 1) = n + 1 + m by omega]; exact i3⟩
    rw [intsFrom]
    unfold sFor
    simp only [e1, e2]
    exact e3
theorem sFor_ix0 {Z : Res} {gt : GF} {gb : SF Z} (Inv : Nat → List SV → Prop) (m : Nat) (τ : List SV) (s : Z.S) (h : ∀ k, k < m → ∀ τ s, Inv k τ → ∃ τ1, gt (.int (k : Int)) τ = some τ1 ∧ Wn (gb τ1 s) fun τ2 _ => Inv (k + 1) τ2) (i : Inv 0 τ) : Wn (sFor gt gb (intsFrom 0 m) τ s) fun τ2 _ => Inv m τ2 := by
  have := sFor_ix Inv m 0 τ s (fun k _ h2 => h k (by omega)) i
  rwa [Nat.zero_add] at this
theorem wn_rng {Z : Res} {f : EF Z} {gt : GF} {gb : SF Z} {τ : List SV} {s : Z.S} {P : List SV → Z.S → Prop} (h : We (f τ s) fun a s1 => ∃ n : Nat, a = .int (n : Int) ∧ n ≤ 100000 ∧ Wn (sFor gt gb (intsFrom 0 n) τ s1) P) : Wn (sForE (iRng f) gt gb τ s) P := by
  obtain ⟨a, s1, e, n, rfl, hn, τ2, s2, e2, p⟩ := h
  exact ⟨τ2, s2, ev_forE (ev_rng e ⟨by omega, by omega⟩) (by rw [Int.toNat_natCast]; exact e2), p⟩
theorem ev_parN {Z : Res} {f g : EF Z} {τ : List SV} {s s1 s2 : Z.S} {a b : T} {i j : Nat} {k l : Bool} (h : f τ s = some (a, s1)) (h2 : g τ s1 = some (b, s2)) (hi : i < τ.length) (hj : j < τ.length) : sParN i j k l f g τ s = some (.nx ((τ.set i (slotOf k a)).set j (slotOf l b)) s2) := by
  unfold sParN
  simp only [h, h2]
  exact if_pos ⟨hi, hj⟩
theorem wn_par {Z : Res} {fs : EFs Z} {τ : List SV} {s : Z.S} {i j : Nat} {P : List SV → Z.S → Prop} (h : We (fs τ s) fun as s1 => ∃ a b, as = [a, b] ∧ i < τ.length ∧ j < τ.length ∧ P ((τ.set i (.im a)).set j (.im b)) s1) : Wn (sPar i j fs τ s) P := by
  obtain ⟨as, s1, e, a, b, rfl, hi, hj, p⟩ := h
  exact ⟨_, _, ev_par e hi hj, p⟩
theorem wn_freeze {Z : Res} {g : SF Z} {τ : List SV} {s : Z.S} {i : Nat} {a : T} {P : List SV → Z.S → Prop} (h : τ[i]? = some (.ow a)) (h2 : Wn (g (τ.set i (.im a)) s) P) : Wn (sFreeze i g τ s) P := by
  obtain ⟨τ2, s2, e, p⟩ := h2
  exact ⟨τ2, s2, ev_freeze h e, p⟩
theorem wr_freeze {Z : Res} {g : SF Z} {τ : List SV} {s : Z.S} {i : Nat} {a : T} {P : T → Z.S → Prop} (h : τ[i]? = some (.ow a)) (h2 : Wr (g (τ.set i (.im a)) s) P) : Wr (sFreeze i g τ s) P := by
  obtain ⟨τ2, s2, e, p⟩ := h2
  exact ⟨τ2, s2, ev_freeze h e, p⟩
theorem wr_if {Z : Res} {ft : EFb Z} {g g' : SF Z} {τ : List SV} {s : Z.S} {P : T → Z.S → Prop} (h : We (ft τ s) fun b s1 => (b = true → Wr (g τ s1) P) ∧ (b = false → Wr (g' τ s1) P)) : Wr (sIf ft g g' τ s) P := by
  obtain ⟨b, s1, e, ht, hf⟩ := h
  cases b with
  | true =>
    obtain ⟨a, s2, e2, p⟩ := ht rfl
    exact ⟨a, s2, ev_if_t e e2, p⟩
  | false =>
    obtain ⟨a, s2, e2, p⟩ := hf rfl
    exact ⟨a, s2, ev_if_f e e2, p⟩
theorem wr_if_seq {Z : Res} {ft : EFb Z} {g g' : SF Z} {τ : List SV} {s : Z.S} {P : T → Z.S → Prop} (h : We (ft τ s) fun b s1 => (b = true → Wr (g τ s1) P) ∧ (b = false → Wr (g' τ s1) P)) : Wr (sSeq (sIf ft g sSkip) g' τ s) P := by
  obtain ⟨b, s1, e, ht, hf⟩ := h
  cases b with
  | true =>
    obtain ⟨a, s2, e2, p⟩ := ht rfl
    exact ⟨a, s2, ev_seq_rt (ev_if_t e e2), p⟩
  | false =>
    obtain ⟨a, s2, e2, p⟩ := hf rfl
    exact ⟨a, s2, ev_seq (ev_if_f e rfl) e2, p⟩
theorem we_if {Z : Res} {ft : EFb Z} {f g : EF Z} {τ : List SV} {s : Z.S} {P : T → Z.S → Prop} (h : We (ft τ s) fun b s1 => (b = true → We (f τ s1) P) ∧ (b = false → We (g τ s1) P)) : We (xIf ft f g τ s) P := by
  obtain ⟨b, s1, e, ht, hf⟩ := h
  cases b with
  | true =>
    obtain ⟨a, s2, e2, p⟩ := ht rfl
    exact ⟨a, s2, ev_xif_t e e2, p⟩
  | false =>
    obtain ⟨a, s2, e2, p⟩ := hf rfl
    exact ⟨a, s2, ev_xif_f e e2, p⟩
theorem we_xb {Z : Res} {f : EF Z} {τ : List SV} {s : Z.S} {P : Bool → Z.S → Prop} (h : We (f τ s) fun a s1 => ∃ b, a = .bl b ∧ P b s1) : We (xb f τ s) P := by
  obtain ⟨a, s1, e, b, rfl, p⟩ := h
  exact ⟨b, s1, ev_xb e, p⟩
theorem we_eqi {Z : Res} {f : EF Z} {τ : List SV} {s : Z.S} {n : Int} {P : Bool → Z.S → Prop} (h : We (f τ s) fun a s1 => ∃ k : Int, a = .int k ∧ P (decide (k = n)) s1) : We (xb (x2 (eqX false) f (xC (.int n))) τ s) P := by
  obtain ⟨a, s1, e, k, rfl, p⟩ := h
  exact ⟨_, s1, ev_xb (ev_x2 e rfl (eq_int false k n)), p⟩
theorem wr_of {Z : Res} {r : Option (Out Z.S)} {P Q : T → Z.S → Prop} (h : Wr r P) (k : ∀ a s, P a s → Q a s) : Wr r Q := by
  obtain ⟨a, s, e, p⟩ := h
  exact ⟨a, s, e, k a s p⟩
theorem lcGo_few {Z : Res} {gt : GF} {ft : EFb Z} {fe : EF Z} {τ : List SV} {P : T → Prop} : ∀ (items : List T) (s : Z.S), (∀ a ∈ items, ∃ τ', gt a τ = some τ' ∧ ∀ s, ∃ b s1, ft τ' s = some (b, s1) ∧ ∃ x s2, fe τ' s1 = some (x, s2) ∧ P x) → ∃ bs s', lcGo gt ft fe τ items s = some (bs, s') ∧ bs.length ≤ items.length ∧ ∀ b ∈ bs, P b
  | [], s, _ => ⟨[], s, rfl, Nat.le_refl _, fun _ h => by cases h⟩
  | a :: r, s, h => by
    obtain ⟨τ', e1, h1⟩ := h a (by simp)
    obtain ⟨b, s1, e2, x, s2, e3, hp⟩ := h1 s
    cases b with
    | true =>
      obtain ⟨bs, s3, e4, hl, hP⟩ := lcGo_few r s2 fun b hb => h b (by simp [hb])
      refine ⟨x :: bs, s3, ?_, by simp; omega, fun y hy => ?_⟩
      · unfold lcGo
        simp only [e1, e2, e3, e4]
      · rcases List.mem_cons.mp hy with rfl | hy
        · exact hp
        · exact hP y hy
    | false =>
      obtain ⟨bs, s3, e4, hl, hP⟩ := lcGo_few r s1 fun b hb => h b (by simp [hb])
      refine ⟨bs, s3, ?_, by simp; omega, hP⟩
      unfold lcGo
      simp only [e1, e2, e4]
theorem ev_dict {Z : Res} {fs : EFs Z} {τ : List SV} {s s1 : Z.S} {as : List T} {ks : List Key} (h : fs τ s = some (as, s1)) (h2 : as.length = ks.length ∧ ks.Nodup ∧ ks.length ≤ 15) : xDict ks fs τ s = some (.dct (ks.zip as), s1) := by
  unfold xDict
  simp only [h]
  exact if_pos h2
theorem sorted_strs {ys : List Str} (h64 : ys.length < 64) : sortedT [.lst (ys.map T.str)] = some (.lst ((sortS ys).map T.str)) := by
  have e : sortST [.lst (ys.map T.str)] = some (.lst ((sortS ys).map T.str)) := by
    unfold sortST
    simp only [strs?_map]
    exact if_pos h64
  unfold sortedT opOr
  simp only [e]
theorem eraseIdx_map' {α β : Type} (f : α → β) : ∀ (l : List α) (k : Nat), (l.map f).eraseIdx k = (l.eraseIdx k).map f
  | [], _ => rfl
  | a :: r, 0 => rfl
  | a :: r, k + 1 => by
    simp only [List.map_cons, List.eraseIdx_cons_succ, eraseIdx_map' f r k]
theorem erase_perm {α : Type} : ∀ (l : List α) (k : Nat) (h : k < l.length), (l[k] :: l.eraseIdx k).Perm l
  | [], _, h => absurd h (by simp)
  | a :: r, 0, _ => List.Perm.refl _
  | a :: r, k + 1, h => by
    have h' : k < r.length := by simpa using h
    have ih := erase_perm r k h'
    simp only [List.getElem_cons_succ, List.eraseIdx_cons_succ]
    exact (List.Perm.swap a r[k] (r.eraseIdx k)).trans (ih.cons a)
theorem fstsT_snoc {t : T} {x : Str} (h : fstT t = some x) : ∀ {ts : List T} {ks : List Str}, fstsT ts = some ks → fstsT (ts ++ [t]) = some (ks ++ [x])
  | [], ks, e => by
    cases e
    simp only [List.nil_append, fstsT, h]
  | a :: r, ks, e => by
    simp only [fstsT] at e
    split at e
    · rename_i k ks' e1 e2
      cases e
      simp only [List.cons_append, fstsT, e1, fstsT_snoc h e2]
    · cases e
theorem fstsT_len : ∀ {ts : List T} {ks : List Str}, fstsT ts = some ks → ks.length = ts.length
  | [], ks, e => by
    cases e
    rfl
  | a :: r, ks, e => by
    simp only [fstsT] at e
    split at e
    · rename_i k ks' e1 e2
      cases e
      simp [fstsT_len e2]
    · cases e
theorem sortF_len {ks : List Str} {ts : List T} (h : ks.length = ts.length) : (sortF ks ts).length = ts.length := by
  unfold sortF
  rw [List.length_map, List.length_mergeSort, List.length_zip, h, Nat.min_self]
theorem sortF_mem {ks : List Str} {ts : List T} : ∀ t ∈ sortF ks ts, t ∈ ts := by
  intro t h
  unfold sortF at h
  obtain ⟨p, hp, rfl⟩ := List.mem_map.mp h
  exact (List.of_mem_zip (a := p.1) (b := p.2) (List.mem_mergeSort.mp hp)).2
theorem strs?_none {ts : List T} {ks : List Str} (h : fstsT ts = some ks) (hn : ts ≠ []) : strs? ts = none := by
  cases ts with
  | nil => exact absurd rfl hn
  | cons a r =>
    cases a with
    | str x =>
      simp only [fstsT, fstT] at h
      cases h
    | _ => rfl
theorem sorted_firstsT {ts : List T} {ks : List Str} (h : fstsT ts = some ks) (hn : ks.Nodup) : ∃ us, sortedT [.lst ts] = some (.lst us) ∧ us.length = ts.length ∧ ∀ t ∈ us, t ∈ ts := by
  by_cases h0 : ts = []
  · subst h0
    refine ⟨[], ?_, rfl, fun t h => h⟩
    have e := sorted_strs (ys := []) (by decide)
    have e0 : sortS [] = [] := by simp [sortS]
    rw [e0] at e
    exact e
  · refine ⟨sortF ks ts, ?_, sortF_len (fstsT_len h), sortF_mem⟩
    have e1 : sortST [.lst ts] = none := by
      simp only [sortST, strs?_none h h0]
    have e2 : sortFT [.lst ts] = some (.lst (sortF ks ts)) := by
      simp only [sortFT, h]
      exact if_pos ⟨hn, fstsT_len h⟩
    simp only [sortedT, opOr, e1, e2]
theorem ev_oTup {Z : Res} {gs : EFos Z} {τ τ1 : List SV} {s s1 : Z.S} {as : List T} (h : gs τ s = some (as, τ1, s1)) (hz : as.length ≤ sizeLine) : oTup gs τ s = some (.tup as, τ1, s1) := by
  unfold oTup
  simp only [h]
  exact if_pos hz
theorem ev_oCons {Z : Res} {g : EFo Z} {gs : EFos Z} {τ τ1 τ2 : List SV} {s s1 s2 : Z.S} {a : T} {as : List T} (h : g τ s = some (a, τ1, s1)) (h2 : gs τ1 s1 = some (as, τ2, s2)) : oCons g gs τ s = some (a :: as, τ2, s2) := by
  unfold oCons
  simp only [h, h2]
theorem we_band {Z : Res} {f g : EFb Z} {τ : List SV} {s : Z.S} {P : Bool → Z.S → Prop} (h : We (f τ s) fun b s1 => (b = true → We (g τ s1) P) ∧ (b = false → P false s1)) : We (xbAnd f g τ s) P := by
  obtain ⟨b, s1, e, ht, hf⟩ := h
  cases b with
  | true =>
    obtain ⟨k, s2, e2, p⟩ := ht rfl
    exact ⟨k, s2, ev_band_t e e2, p⟩
  | false => exact ⟨false, s1, ev_band_f e, hf rfl⟩
theorem gt_int (x y : Int) : gtX (.int x) (.int y) = some (.bl (decide (y < x))) := rfl
/-- x > n, both numbers -/
theorem we_gti {Z : Res} {f : EF Z} {τ : List SV} {s : Z.S} {n : Int} {P : Bool → Z.S → Prop} (h : We (f τ s) fun a s1 => ∃ k : Int, a = .int k ∧ P (decide (n < k)) s1) : We (xb (x2 gtX f (xC (.int n))) τ s) P := by
  obtain ⟨a, s1, e, k, rfl, p⟩ := h
  exact ⟨_, s1, ev_xb (ev_x2 e rfl (gt_int k n)), p⟩
theorem we_is {Z : Res} {f : EF Z} {n : String} {τ : List SV} {s : Z.S} {P : Bool → Z.S → Prop} (h : We (f τ s) fun a s1 => ∃ k, isTy n a = some k ∧ P k s1) : We (xTru (xIs n f) τ s) P := by
  obtain ⟨a, s1, e, k, e2, p⟩ := h
  exact ⟨_, s1, ev_tru (ev_is e e2) rfl, p⟩
theorem we_bnot {Z : Res} {f : EFb Z} {τ : List SV} {s : Z.S} {P : Bool → Z.S → Prop} (h : We (f τ s) fun b s1 => P (!b) s1) : We (xbNot f τ s) P := by
  obtain ⟨b, s1, e, p⟩ := h
  exact ⟨_, s1, ev_bnot e, p⟩
theorem cut_to {α : Type} (ts : List α) (k : Nat) : cutL ts none (some (k : Int)) = ts.take k := by
  unfold cutL
  rw [HT.sIx_nat, HT.sIx_none, List.drop_zero, Nat.sub_zero]
  by_cases h : k ≤ ts.length
  · rw [Nat.min_eq_left h]
  · rw [Nat.min_eq_right (by omega), List.take_length, List.take_of_length_le (by omega)]
theorem cut_from {α : Type} (ts : List α) (k : Nat) : cutL ts (some (k : Int)) none = ts.drop k := by
  unfold cutL
  rw [HT.sIx_nat, HT.sIx_none]
  by_cases h : k ≤ ts.length
  · rw [Nat.min_eq_left h, List.take_of_length_le (by rw [List.length_drop]; exact Nat.le_refl _)]
  · rw [Nat.min_eq_right (by omega), Nat.sub_self, List.take_zero, List.drop_eq_nil_of_le (by omega)]
theorem cut_two {α : Type} (ts : List α) (k : Nat) : cutL ts (some (k : Int)) (some ((k + 2 : Nat) : Int)) = (ts.drop k).take 2 := by
  unfold cutL
  rw [HT.sIx_nat, HT.sIx_nat]
  by_cases h : k ≤ ts.length
  · rw [Nat.min_eq_left h]
    by_cases h2 : k + 2 ≤ ts.length
    · rw [Nat.min_eq_left h2, show k + 2 - k = 2 by omega]
    · rw [Nat.min_eq_right (by omega), List.take_of_length_le (by rw [List.length_drop]; exact Nat.le_refl _), List.take_of_length_le (by rw [List.length_drop]; omega)]
  · rw [Nat.min_eq_right (by omega), List.drop_eq_nil_of_le (by omega), List.drop_eq_nil_of_le (by omega), List.take_nil, List.take_nil]
end L2.TL
/-! TXw: what a claim's end needs of one class of objects, and of constants that are tuples. -/
namespace L2.TL
open PySem PySem.Spec
open PyProof.Rows
def noH0 : Hp := fun _ => none
def IsLV (K : PySem.W.Frag) (ts : List T) (us : List Value) : Prop := ∃ xs, IsL K (fun _ => none) ts xs ∧ Vals xs us
section
variable {K : PySem.W.Frag}
theorem lv_nil : IsLV K [] [] := ⟨[], rfl, .nil⟩
theorem lv_str {x : Str} {t : Tok} {r : List T} {us : List Value} (h : IsLV K r us) : IsLV K (.str x :: r) (.str x t :: us) := by
  obtain ⟨xs, h1, h2⟩ := h
  exact ⟨.str x :: xs, ⟨_, _, rfl, rfl, h1⟩, .cons ⟨t, rfl⟩ h2⟩
theorem lv_int {i : Int} {t : Tok} {r : List T} {us : List Value} (h : IsLV K r us) : IsLV K (.int i :: r) (.int i t :: us) := by
  obtain ⟨xs, h1, h2⟩ := h
  exact ⟨.int i :: xs, ⟨_, _, rfl, rfl, h1⟩, .cons ⟨t, rfl⟩ h2⟩
theorem lv_ref {u : T} {a : Addr} {r : List T} {us : List Value} (h0 : Is K (fun _ => none) u (.ref a)) (h : IsLV K r us) : IsLV K (u :: r) (.ref a :: us) := by
  obtain ⟨xs, h1, h2⟩ := h
  exact ⟨.ref a :: xs, ⟨_, _, rfl, h0, h1⟩, .cons rfl h2⟩
theorem is_tupK {a : Addr} {us : List Value} {n : Nat} {sl : Array (Option Value)} {ts : List T} (l : K.lookup a = some ⟨.type "tuple", none, .seq us.toArray n, sl⟩) (hz : us.length ≤ 1000) (h : IsLV K ts us) : Is K (fun _ => none) (.tup ts) (.ref a) := by
  obtain ⟨xs, h1, h2⟩ := h
  refine ⟨a, xs, rfl, ⟨.inr ⟨_, us.toArray, n, l, rfl, rfl, ?_, ?_⟩, .inr ⟨_, l, rfl, rfl⟩⟩, h1⟩
  · rw [List.size_toArray, sizeLine_eq]
    omega
  · simpa using h2
theorem kit_bt {B : Addr} {n : String} (ic : PySem.W.isClsIn K B = true) (ty : PySem.W.typeIn K (.ref B) = some (.type "type")) (h : PySem.W.subIn K (.type n) (.ref B) = some false) : PySem.W.kitOne K (.type n) (.ref B) = some false := by
  have e : (Value.type n == Value.ref B) = false := rfl
  unfold PySem.W.kitOne PySem.W.kitCls
  have ic : (PySem.W.clsIn K B).isSome = true := ic
  simp only [e, Bool.false_eq_true, if_false, ic, ty, beq_self_eq_true, Bool.and_self, if_true]
  exact h
theorem kit_own {B : Addr} : PySem.W.kitOne K (.ref B) (.ref B) = some true := by
  unfold PySem.W.kitOne
  rw [if_pos (beq_self_eq_true _)]
theorem kit_mk {B : Addr} (c : Cls K B) (x : XI K B) (ic : PySem.W.isClsIn K B = true) (ty : PySem.W.typeIn K (.ref B) = some (.type "type")) (h1 : PySem.W.subIn K (.type "NoneType") (.ref B) = some false) (h2 : PySem.W.subIn K (.type "bool") (.ref B) = some false) (h3 : PySem.W.subIn K (.type "int") (.ref B) = some false)
    (h4 : PySem.W.subIn K (.type "str") (.ref B) = some false) (h5 : PySem.W.subIn K (.type "tuple") (.ref B) = some false) (h6 : PySem.W.subIn K (.type "list") (.ref B) = some false) (h7 : PySem.W.subIn K (.type "dict") (.ref B) = some false) : KitC K B [(B, true)] :=
  ⟨kit_bt ic ty h1, kit_bt ic ty h2, kit_bt ic ty h3, kit_bt ic ty h4, kit_bt ic ty h5, kit_bt ic ty h6, kit_bt ic ty h7, fun p hp => by
    rw [List.mem_singleton] at hp
    subst hp
    exact ⟨kit_own, c, x⟩⟩
end
end L2.TL
namespace L2.TL
open PySem PySem.Spec
open PyProof.Rows
def topS (i : Nat) : Stmt := PySem.Challenge.pw_circlekeep_k04_books_of_any_values.main.body.getD i (.Pass ⟨0, 0, 0, 0⟩)
abbrev sDeck : Stmt := topS 35
abbrev sDraw : Stmt := topS 36
abbrev dp : Int := 60109
abbrev dq : Int := 43
structure TxtB (mg : Str → Option Value) : Prop where
  int : mg "int" = none
  list : mg "list" = none
section
variable {P : Program} {w : World} {K : PySem.W.Frag} {mg : Str → Option Value} {base : Heap}
theorem scDraw : FnScope ["_law_deck_here", "_law_many", "_law_figure", "_law_cell"] ["_law_deck_here", "_law_many"] (defScope sDraw) := ⟨rfl, rfl, rfl, by decide +kernel, rfl, by decide +kernel, by decide +kernel⟩
theorem ok_draw {f : Addr} {fd : FuncData} (F : Fun K "_law_draw" "_law_draw" sDraw f fd) (B : TxtB mg) (d c : Addr) : FnOk P w K mg base CX0 1 f fd ["_law_deck_here", "_law_many"] (spS K (deckZ d c) (drawT 60109 43 d c)) := by
  refine F.ok scDraw (fun vs H Q E h => sp_len (n := 2) (fun ts s r h => ?_) h) fun cdv A out z H vs Q E hr h => ?_
  · unfold drawT at h
    split at h
    · rfl
    · cases h
  · have hu := hu_of hr
    have hu64 := hr.units
    obtain ⟨I, ts, s, a, s', sub, rf, r, il, hf, q⟩ := h
    unfold drawT at hf
    split at hf
    case h_2 => cases hf
    rename_i e n
    split at hf
    case isFalse => cases hf
    rename_i hc
    obtain ⟨rfl, n0, n1⟩ := hc
    cases hf
    obtain ⟨x, y, rfl, ix, iy⟩ := il.two
    have ix : x = _ := ix
    have iy : y = _ := iy
    subst ix iy
    have h1 : H e = some (.dK (deckK c s.blend s.draws)) := r.1
    have h2 : H c = some (.lst (s.cells.map V.int)) := r.2
    have nec : c ≠ e := ne_of h2 h1 (by intro z; cases z)
    have h1' : ∀ m, upd H e (.dK (deckK c s.blend m)) e = some (.dK (deckK c s.blend m)) := fun _ => upd_same
    -- the last three rows, from any figure
    obtain ⟨t3, p3, tail⟩ : ∃ t3, PSs (cxOf CX0 P w K mg base ["_law_deck_here", "_law_many", "_law_figure", "_law_cell"] "_law_draw" (defScope sDraw) f cdv A out z H E).nox ((defBody sDraw).drop 3) t3 ∧
        ∀ (fig : Int) (v3 : Option V) (H' : Hp) (s2 : Deck), s2.draws = s.draws + 1 → DeckAt e c s2 H' → (∀ p o, p ≠ e → p ≠ c → H p = some o → H' p = some o) →
        drawF 60109 43 s n = ((((((fig * 40692 + 43) % 2147483647) * ((fig * 40692 + 43) % 2147483647) + 52711 * (s.draws + 1) + 43) % 2147483587 * 39373) % 2147483563 / 64) % n, s2) →
        t3 { nx := fun _ H' => Q .non H', rt := Q } [some (V.ref e), some (V.int n), some (V.int fig), v3] H' := by
      refine ⟨_, pss_cons (ps_set (i := 2) scDraw.nd rfl (.inl rfl) (pe_op op_mod (pe_callTy call_int1 (by rfl) B.int (by decide +kernel) (pa_cons (pe_op op_add (pe_op op_mul (pv 2) pe_int) pe_int) pa_nil)) pe_int))
        (pss_cons (ps_set (i := 2) scDraw.nd rfl (.inl rfl) (pe_op op_mod (pe_callTy call_int1 (by rfl) B.int (by decide +kernel) (pa_cons (pe_op op_add (pe_op op_add (pe_op op_mul (pv 2) (pv 2)) (pe_op op_mul pe_int (pe_dget hu (pv 0) pe_str (fun _ _ => rfl)))) pe_int) pa_nil)) pe_int))
        (pss_one (ps_ret (pe_op op_mod (pe_op op_fdiv (pe_op op_mod (pe_callTy call_int1 (by rfl) B.int (by decide +kernel) (pa_cons (pe_op op_mul (pv 2) pe_int) pa_nil)) pe_int) pe_int) (pv 1))))), ?_⟩
      intro fig v3 H' s2 hd ra st eq
      have g1 : H' e = some (.dK (deckK c s2.blend s2.draws)) := ra.1
      refine ⟨_, rfl, _, _, rfl, rfl, .inr ⟨by decide, by decide⟩, _, _, rfl, rfl, .inl ⟨_, rfl, _, _, rfl, rfl, (by show (0 : Int) < 2147483647; decide), ?_⟩⟩
      have b0 : 0 ≤ (fig * 40692 + 43) % 2147483647 := Int.emod_nonneg _ (by decide)
      have b1 : (fig * 40692 + 43) % 2147483647 < 2147483647 := Int.emod_lt_of_pos _ (by decide)
      refine ⟨_, rfl, _, rfl, _, _, rfl, rfl, .inl ⟨by omega, by omega⟩, _, rfl, e, _, rfl, dg_draws g1, _, _, rfl, rfl, .inl ⟨by decide, by decide⟩, _, _, rfl, rfl, _, _, rfl, rfl, .inl ⟨_, rfl, _, _, rfl, rfl, (by show (0 : Int) < 2147483587; decide), ?_⟩⟩
      refine ⟨_, rfl, _, _, rfl, rfl, .inr ⟨by decide, by decide⟩, .inl ⟨_, rfl, _, _, rfl, rfl, (by show (0 : Int) < 2147483563; decide), _, _, rfl, rfl, ⟨by decide, by decide⟩, _, rfl, _, _, rfl, rfl, n0, ?_⟩⟩
      rw [eq] at q
      refine draw_ends sub rf st ra q ?_
      rw [hd]
    refine ⟨_, pss_cons (ps_dput hu (pv 0) pe_str (pe_op op_add (pe_dget hu (pv 0) pe_str (fun _ _ => rfl)) pe_int) rfl)
      (pss_cons (ps_set (i := 2) scDraw.nd rfl (.inl rfl) (pe_op op_add (pe_dget hu (pv 0) pe_str (fun _ _ => rfl)) (pe_op op_mul pe_int (pe_dget hu (pv 0) pe_str (fun _ _ => rfl)))))
      (pss_cons (ps_if (pt_cmpR (op_neT hu64) (pe_dget hu (pv 0) pe_str (fun _ _ => rfl)) (pe_lst pa_nil) (nomark _))
        (pss_cons (ps_set (i := 3) scDraw.nd rfl (.inl rfl) (pe_callTy call_int1 (by rfl) B.int (by decide +kernel) (pa_cons (pe_bm0 PySem.F.plainAttrs_list PySem.F.slot_list_pop PySem.F.type_list_pop mt_pop (pe_dget hu (pv 0) pe_str (fun _ _ => rfl))) pa_nil)))
        (pss_cons (ps_if (pt_cmpR op_ge (pv 3) (pe_op op_pow pe_int pe_int) (nomark _))
          (pss_cons (ps_expr (pe_bm PySem.F.plainAttrs_list PySem.F.slot_list_append PySem.F.type_list_append mt_append (pe_dget hu (pv 0) pe_str (fun _ _ => rfl)) (pa_cons (pe_op op_fdiv (pv 3) (pv 1)) pa_nil)))
          (pss_one (ps_ret (pe_op op_mod (pe_callTy call_int1 (by rfl) B.int (by decide +kernel) (pa_cons (pv 3) pa_nil)) (pv 1))))) pss_nil)
        (pss_one (ps_set (i := 2) scDraw.nd rfl (.inl rfl) (pe_op op_add (pv 2) (pe_op op_mod (pe_callTy call_int1 (by rfl) B.int (by decide +kernel) (pa_cons (pv 3) pa_nil)) pe_int)))))) pss_nil) p3)), ?_⟩
    refine ⟨_, rfl, e, _, rfl, dg_draws h1, _, _, rfl, rfl, _, rfl, e, _, rfl, dp_draws h1, ?_⟩
    refine ⟨_, rfl, e, _, rfl, dg_blend (h1' _), _, rfl, e, _, rfl, dg_draws (h1' _), _, _, rfl, rfl, .inl ⟨by decide, by decide⟩, _, _, rfl, rfl, ?_⟩
    refine ⟨_, rfl, e, _, rfl, dg_cells (h1' _), Nat.zero_le _, fun p hp => ?_⟩
    have npe : p ≠ e := fun z => by
      rw [z, upd_same] at hp
      cases hp
    have hpH : H p = none := by
      rw [upd_ne npe] at hp
      exact hp
    have npc : c ≠ p := ne_of_none h2 hpH
    have g2 : upd (upd H e (.dK (deckK c s.blend (s.draws + 1)))) p (.lst []) c = some (.lst (s.cells.map V.int)) := by
      rw [upd_ne npc, upd_ne nec]
      exact h2
    have g1 : upd (upd H e (.dK (deckK c s.blend (s.draws + 1)))) p (.lst []) e = some (.dK (deckK c s.blend (s.draws + 1))) := by
      rw [upd_ne npe.symm, upd_same]
    have st0 : ∀ b o, b ≠ e → b ≠ c → H b = some o → upd (upd H e (.dK (deckK c s.blend (s.draws + 1)))) p (.lst []) b = some o := fun b o n1 n2 h => by
      rw [upd_ne (ne_of_none h hpH), upd_ne n1]
      exact h
    refine ne_nil g2 upd_same ⟨_, rfl, ?_⟩
    cases hc : s.cells.getLast? with
    | none =>
      have hn : s.cells = [] := List.getLast?_eq_none_iff.mp hc
      have e0 : (!s.cells.isEmpty) = false := by rw [hn]; rfl
      rw [e0]
      refine iteF (tail _ none _ ⟨s.cells, s.blend, s.draws + 1, s.few⟩ rfl ⟨g1, g2⟩ st0 ?_)
      unfold drawF
      dsimp only
      split
      · rfl
      · rename_i h
        rw [hc] at h
        cases h
    | some cell =>
      have hn : s.cells ≠ [] := fun z => by
        rw [z] at hc
        cases hc
      have hl : 0 < s.cells.length := List.length_pos_iff.mpr hn
      have e0 : (!s.cells.isEmpty) = true := by
        cases h : s.cells with
        | nil => exact absurd h hn
        | cons _ _ => rfl
      rw [e0]
      refine iteT ?_
      have hlast : (s.cells.map V.int)[(s.cells.map V.int).length - 1]? = some (V.int cell) := by
        rw [List.length_map, List.getElem?_map, ← List.getLast?_eq_getElem?, hc]
        rfl
      refine ⟨_, rfl, e, _, rfl, dg_cells g1, .inl ⟨rfl, _, SqL.of g2⟩, c, _, _, rfl, rfl, g2, hlast, .inl ⟨_, rfl, ?_⟩⟩
      have hdl : (s.cells.map V.int).dropLast = s.cells.dropLast.map V.int := by rw [List.map_dropLast]
      rw [hdl]
      have k1 : ∀ o, upd (upd (upd H e (.dK (deckK c s.blend (s.draws + 1)))) p (.lst [])) c o e = some (.dK (deckK c s.blend (s.draws + 1))) := fun o => by
        rw [upd_ne nec.symm]
        exact g1
      have st1 : ∀ o' b o, b ≠ e → b ≠ c → H b = some o → upd (upd (upd H e (.dK (deckK c s.blend (s.draws + 1)))) p (.lst [])) c o' b = some o := fun o' b o n1 n2 h => by
        rw [upd_ne n2]
        exact st0 b o n1 n2 h
      refine ⟨_, rfl, _, _, rfl, rfl, ⟨by decide, by decide, by decide⟩, _, _, rfl, rfl, _, rfl, ?_⟩
      have e10 : (10 : Int) ^ (18 : Int).toNat = 10 ^ 18 := by decide
      rw [e10]
      refine ite2 (fun hge => ?_) (fun hlt => ?_)
      · refine ⟨_, rfl, e, _, rfl, dg_cells (k1 _), .inl ⟨rfl, _, SqL.of upd_same⟩, _, rfl, _, rfl, _, _, rfl, rfl, ⟨n0, n1⟩, c, _, _, rfl, rfl, upd_same, ?_, ?_⟩
        · have := s.few
          rw [List.length_map, List.length_dropLast, sizeLine_eq]
          omega
        refine ⟨_, rfl, .inl ⟨_, rfl, _, rfl, _, _, rfl, rfl, n0, ?_⟩⟩
        have hge' : (10 : Int) ^ 18 ≤ cell := by simpa using hge
        have eq : drawF 60109 43 s n = (cell % n, (drawF 60109 43 s n).2) := by
          unfold drawF
          dsimp only
          split
          · rename_i h
            rw [hc] at h
            cases h
          · rename_i x h
            rw [hc] at h
            cases h
            rw [if_pos hge']
        have eq2 : (drawF 60109 43 s n).2.cells = s.cells.dropLast ++ [cell / n] ∧ (drawF 60109 43 s n).2.blend = s.blend ∧ (drawF 60109 43 s n).2.draws = s.draws + 1 := by
          unfold drawF
          dsimp only
          split
          · rename_i h
            rw [hc] at h
            cases h
          · rename_i x h
            rw [hc] at h
            cases h
            rw [if_pos hge']
            exact ⟨rfl, rfl, rfl⟩
        refine draw_ends sub rf (fun b o n1 n2 h => ?_) ⟨?_, ?_⟩ q (by rw [eq])
        · rw [upd_ne n2]
          exact st1 _ b o n1 n2 h
        · rw [eq2.2.1, eq2.2.2, upd_ne nec.symm]
          exact k1 _
        · rw [eq2.1, upd_same, List.map_append]
          rfl
      · refine ⟨_, rfl, _, rfl, .inl ⟨_, rfl, _, _, rfl, rfl, (by show (0 : Int) < 2147483629; decide), _, _, rfl, rfl, ?_⟩⟩
        have hlt' : ¬ (10 : Int) ^ 18 ≤ cell := by simpa using hlt
        refine tail _ _ _ ⟨s.cells.dropLast, s.blend, s.draws + 1, by have := s.few; rw [List.length_dropLast]; omega⟩ rfl ⟨k1 _, upd_same⟩ (fun b o n1 n2 h => st1 _ b o n1 n2 h) ?_
        unfold drawF
        dsimp only
        split
        · rename_i h
          rw [hc] at h
          cases h
        · rename_i x h
          rw [hc] at h
          cases h
          rw [if_neg hlt']
theorem scDeck : FnScope ["_law_script", "_law_blend", "_law_cell"] ["_law_script"] (defScope sDeck) := ⟨rfl, rfl, rfl, by decide +kernel, rfl, by decide +kernel, by decide +kernel⟩
theorem ok_deck {f : Addr} {fd : FuncData} (F : Fun K "_law_deck" "_law_deck" sDeck f fd) (B : TxtB mg) : FnOk P w K mg base CX0 1 f fd ["_law_script"] (spDeck K) := by
  refine F.ok scDeck (fun vs H Q E h => ?_) fun cdv A out z H vs Q E hr h => ?_
  · obtain ⟨a, ns, rfl, _⟩ := h
    rfl
  · obtain ⟨a, ns, rfl, hS, hl, q⟩ := h
    refine ⟨_, pss_cons (ps_set (i := 1) scDeck.nd rfl (.inl rfl) pe_int)
      (pss_cons (ps_for PassesOwn.never rfl (pi_list (pe_slice sl_list (pv 0) po_none (po_some pe_int))) (pg_name (i := 2) scDeck.nd rfl (Or.inl rfl))
        (pss_one (ps_set (i := 1) scDeck.nd rfl (.inl rfl) (pe_op op_mod (pe_callTy call_int1 (by rfl) B.int (by decide +kernel) (pa_cons (pe_op op_add (pe_op op_add (pe_op op_mul (pv 1) pe_int) (pe_op op_mod (pe_callTy call_int1 (by rfl) B.int (by decide +kernel) (pa_cons (pv 2) pa_nil)) pe_int)) pe_int) pa_nil)) pe_int))))
      (pss_one (ps_ret (pe_disp (pps_cons pe_str (pe_revL (pe_callTy call_list_of (by rfl) B.list (by decide +kernel) (pa_cons (pe_slice sl_list (pv 0) po_none (po_some pe_int)) pa_nil))) (pps_cons pe_str (pv 1) (pps_cons pe_str pe_int pps_nil))) (by rfl) (by rfl) (fun z => by cases z) (by decide))))), ?_⟩
    have cut : cutV (ns.map V.int) none (some 63) = ns.map V.int := by
      unfold cutV
      have e : HT.sIx (ns.map V.int).length (ns.map V.int).length (some 63) = (ns.map V.int).length := by
        show (if (63 : Int) < 0 then ((63 : Int) + ((ns.map V.int).length : Int)).toNat else min (63 : Int).toNat (ns.map V.int).length) = _
        rw [if_neg (by decide), List.length_map]
        exact Nat.min_eq_right hl
      rw [e]
      show ((ns.map V.int).drop 0).take ((ns.map V.int).length - 0) = _
      rw [List.drop_zero, Nat.sub_zero, List.take_length]
    refine ⟨_, rfl, _, rfl, a, _, rfl, hS, fun p hp => ?_⟩
    rw [cut]
    refine ⟨p, rfl, ⟨_, SqL.of upd_same⟩, for_list (K := K) (a := p) (xs := ns.map V.int) (fun i σ H' => ∃ (b : Int) (v : Option V), σ = [some (.ref a), some (.int b), v] ∧ H' = upd H p (.lst (ns.map V.int))) ⟨_, _, rfl, rfl⟩ (fun i σ H' _ ⟨_, _, _, e⟩ => by rw [e]; exact SqL.of upd_same) ?_ ?_⟩
    · rintro i y σ H' hi ⟨b, v, rfl, rfl⟩
      obtain ⟨u, rfl⟩ : ∃ u, y = V.int u := by
        rw [List.getElem?_map] at hi
        cases e : ns[i]? with
        | none =>
          rw [e] at hi
          cases hi
        | some u =>
          rw [e] at hi
          exact ⟨u, (Option.some.inj hi).symm⟩
      refine ⟨_, rfl, _, _, rfl, rfl, .inr ⟨by decide, by decide⟩, _, rfl, .inl ⟨_, rfl, _, _, rfl, rfl, (by show (0 : Int) < 2147483629; decide), _, _, rfl, rfl, _, _, rfl, rfl, .inl ⟨_, rfl, _, _, rfl, rfl, (by show (0 : Int) < 2147483587; decide), ?_⟩⟩⟩
      exact ⟨_, _, rfl, rfl⟩
    · rintro σ H' ⟨b, v, rfl, rfl⟩
      intro d hd
      have s1 : Same H (upd H p (.lst (ns.map V.int))) := fun x o e => by
        rw [upd_ne (ne_of_none e hp)]
        exact e
      refine ⟨_, rfl, _, rfl, a, ns.map V.int, rfl, ?_, fun p2 hp2 => ?_⟩
      · have s2 : Same H (upd (upd H p (.lst (ns.map V.int))) d (.dK [])) := fun x o e => by
          rw [upd_ne (ne_of_none (s1 x o e) hd)]
          exact s1 x o e
        exact s2.seq hS
      rw [cut]
      refine ⟨p2, _, rfl, .inl (SqL.of upd_same), fun p3 hp3 => ?_⟩
      refine ⟨p3, _, rfl, SqL.of upd_same, fun c hc => ?_⟩
      have ndp2 : d ≠ p2 := fun z => by
        rw [← z, upd_same] at hp2
        cases hp2
      have ndp3 : d ≠ p3 := fun z => by
        rw [← z, upd_ne ndp2, upd_same] at hp3
        cases hp3
      have ndc : d ≠ c := fun z => by
        rw [← z, upd_ne ndp3, upd_ne ndp2, upd_same] at hc
        cases hc
      refine ⟨_, rfl, ?_⟩
      refine ⟨by rw [upd_ne ndc, upd_ne ndp3, upd_ne ndp2, upd_same], deckK c b 0, rfl, (by show 3 ≤ 15; decide), ?_⟩
      rw [deck_merge]
      have hpd : H d = none := by
        cases e : H d with
        | none => rfl
        | some o =>
          rw [s1 d o e] at hd
          cases hd
      have free : ∀ {x : Addr} {o : HO}, H x = some o → x ≠ d ∧ x ≠ p2 ∧ x ≠ p3 ∧ x ≠ c := fun {x o} e => by
        have nd : x ≠ d := ne_of_none e hpd
        have e1 := s1 x o e
        have n2 : x ≠ p2 := fun z => by
          rw [← z, upd_ne nd, e1] at hp2
          cases hp2
        have n3 : x ≠ p3 := fun z => by
          rw [← z, upd_ne n2, upd_ne nd, e1] at hp3
          cases hp3
        have n4 : x ≠ c := fun z => by
          rw [← z, upd_ne n3, upd_ne n2, upd_ne nd, e1] at hc
          cases hc
        exact ⟨nd, n2, n3, n4⟩
      refine q _ d c ⟨ns.reverse, b, 0, by rw [List.length_reverse]; exact hl⟩ (fun x o e => ?_) hpd ?_ ⟨upd_same, ?_⟩
      · obtain ⟨n1, n2, n3, n4⟩ := free e
        rw [upd_ne n1, upd_ne n4, upd_ne n3, upd_ne n2, upd_ne n1]
        exact s1 x o e
      · cases e : H c with
        | none => rfl
        | some o => exact absurd rfl (free e).2.2.2
      · rw [upd_ne ndc.symm, upd_same, List.map_reverse]
end
end L2.TL
namespace L2.TL
open PySem PySem.Spec
open PyProof.Rows
abbrev s_is_whole : Stmt := topS 2
abbrev s_ascends : Stmt := topS 3
abbrev s_is_word : Stmt := topS 6
abbrev s_is_kind : Stmt := topS 10
abbrev s_are_kinds : Stmt := topS 11
abbrev s_is_single : Stmt := topS 12
abbrev s_is_need : Stmt := topS 13
abbrev s_is_opening : Stmt := topS 14
abbrev s_are_openings : Stmt := topS 15
abbrev s_Book_init : Stmt := (clsBody (topS 32)).getD 0 (.Pass ⟨0, 0, 0, 0⟩)
abbrev s_Book_eq : Stmt := (clsBody (topS 32)).getD 1 (.Pass ⟨0, 0, 0, 0⟩)
abbrev s_standard_book : Stmt := topS 33
abbrev s_law_pick : Stmt := topS 37
abbrev s_law_is_word : Stmt := topS 38
abbrev s_law_standard : Stmt := topS 39
abbrev s_law_need : Stmt := topS 40
abbrev s_law_plan : Stmt := topS 41
abbrev s_law_is_whole : Stmt := topS 42
abbrev s_law_is_kinds : Stmt := topS 43
abbrev s_law_is_need : Stmt := topS 44
abbrev s_law_is_openings : Stmt := topS 45
abbrev s_law_bent : Stmt := topS 46
abbrev s_law_heard : Stmt := topS 47
abbrev s_law_right : Stmt := topS 48
abbrev s_law : Stmt := topS 49
abbrev s_init_BadBook : Stmt := (clsBody (topS 18)).getD 0 (.Pass ⟨0, 0, 0, 0⟩)
abbrev s_init_BadText : Stmt := (clsBody (topS 19)).getD 0 (.Pass ⟨0, 0, 0, 0⟩)
abbrev c_STANDARD_KINDS : T := .tup [.tup [.str "half", .int 1], .tup [.str "lock", .int 2], .tup [.str "mark", .int 1], .tup [.str "pair", .int 2], .tup [.str "seal", .int 2], .tup [.str "sign", .int 2]]
abbrev c_STANDARD_OPENINGS : T := .tup [.tup [.str "first", .str "pair", .int 0, .tup []], .tup [.str "open", .str "lock", .int 0, .tup [.tup [.str "part", .int 1]]], .tup [.str "second", .str "pair", .int 1, .tup []], .tup [.str "shown", .str "sign", .int 0, .tup []], .tup [.str "signed", .str "sign", .int 0, .tup [.tup [.str "around", .str "half", .int 1]]], .tup [.str "unseal", .str "seal", .int 0, .tup [.tup [.str "inside", .int 1, .str "half"]]]]
structure Txt (K : PySem.W.Frag) (mg : Str → Option Value) where
  b_all : mg "all" = none
  b_bool : mg "bool" = none
  b_dict : mg "dict" = none
  b_enumerate : mg "enumerate" = none
  b_int : mg "int" = none
  b_isinstance : mg "isinstance" = none
  b_len : mg "len" = none
  b_list : mg "list" = none
  b_range : mg "range" = none
  b_repr : mg "repr" = none
  b_sorted : mg "sorted" = none
  b_str : mg "str" = none
  b_tuple : mg "tuple" = none
  c_LONGEST : ∃ t, mg "LONGEST" = some (.int 8 t)
  c_MOST_NEEDS : ∃ t, mg "MOST_NEEDS" = some (.int 2 t)
  c_MOST_PARTS : ∃ t, mg "MOST_PARTS" = some (.int 3 t)
  g_STANDARD_KINDS : ∃ a, mg "STANDARD_KINDS" = some (.ref a) ∧ Is K (fun _ => none) c_STANDARD_KINDS (.ref a)
  g_STANDARD_OPENINGS : ∃ a, mg "STANDARD_OPENINGS" = some (.ref a) ∧ Is K (fun _ => none) c_STANDARD_OPENINGS (.ref a)
  d_is_whole : DefD K mg "is_whole" s_is_whole ["value", "low", "high"]
  d_ascends : DefD K mg "ascends" s_ascends ["items"]
  d_is_word : DefD K mg "is_word" s_is_word ["thing"]
  d_is_kind : DefD K mg "is_kind" s_is_kind ["value"]
  d_are_kinds : DefD K mg "are_kinds" s_are_kinds ["value"]
  d_is_single : DefD K mg "is_single" s_is_single ["value", "counts"]
  d_is_need : DefD K mg "is_need" s_is_need ["value", "count", "counts"]
  d_is_opening : DefD K mg "is_opening" s_is_opening ["value", "counts"]
  d_are_openings : DefD K mg "are_openings" s_are_openings ["value", "kinds"]
  d_standard_book : DefD K mg "standard_book" s_standard_book []
  d_law_deck : DefD K mg "_law_deck" sDeck ["_law_script"]
  d_law_draw : DefD K mg "_law_draw" sDraw ["_law_deck_here", "_law_many"]
  d_law_pick : DefD K mg "_law_pick" s_law_pick ["_law_deck_here", "_law_some"]
  d_law_is_word : DefD K mg "_law_is_word" s_law_is_word ["_law_it"]
  d_law_standard : DefD K mg "_law_standard" s_law_standard []
  d_law_need : DefD K mg "_law_need" s_law_need ["_law_deck_here", "_law_kinds", "_law_many"]
  d_law_plan : DefD K mg "_law_plan" s_law_plan ["_law_deck_here"]
  d_law_is_whole : DefD K mg "_law_is_whole" s_law_is_whole ["_law_it", "_law_least", "_law_most"]
  d_law_is_kinds : DefD K mg "_law_is_kinds" s_law_is_kinds ["_law_it"]
  d_law_is_need : DefD K mg "_law_is_need" s_law_is_need ["_law_numbers", "_law_many", "_law_it"]
  d_law_is_openings : DefD K mg "_law_is_openings" s_law_is_openings ["_law_kinds", "_law_it"]
  d_law_bent : DefD K mg "_law_bent" s_law_bent ["_law_deck_here", "_law_it", "_law_deep"]
  d_law_heard : DefD K mg "_law_heard" s_law_heard ["_law_kinds", "_law_openings", "_law_is_named"]
  d_law_right : DefD K mg "_law_right" s_law_right ["_law_kinds", "_law_openings", "_law_is_named"]
  E : Ec 3
  oC : ObC K
  cE : ∀ i, i < 3 → ClsE K E i
  mE_CircleError : mg "CircleError" = some (.ref (E.a 0))
  mE_BadBook : mg "BadBook" = some (.ref (E.a 1))
  iE_BadBook : InitE K E 1 "part" "part" "BadBook.__init__" s_init_BadBook
  mE_BadText : mg "BadText" = some (.ref (E.a 2))
  iE_BadText : InitE K E 2 "line" "line" "BadText.__init__" s_init_BadText
  B : Addr
  mB : mg "Book" = some (.ref B)
  clB : Cls K B
  xiB : XI K B
  ktB : KitC K B [(B, true)]
  no_kinds : NoAttr K B "kinds"
  no_openings : NoAttr K B "openings"
  no_counts : NoAttr K B "counts"
  no_by_word : NoAttr K B "by_word"
  no_ways : NoAttr K B "ways"
  fB : Addr
  dB : FuncData
  FB : Fun K "__init__" "Book.__init__" s_Book_init fB dB
  MB : Mk K B fB
  bB : Binds K dB ["self", "kinds", "openings"] []
  kB : KOrdM dB ["self", "kinds", "openings"] ["openings", "kinds"] [1, 0]
  fQ : Addr
  dQ : FuncData
  FQ : Fun K "__eq__" "Book.__eq__" s_Book_eq fQ dQ
  bQ : Binds K dQ ["self", "other"] []
  hQ : PySem.W.findIn K (.ref B) "__eq__" = some (some (.ref fQ))
  iQ : PySem.W.isFn K (.ref fQ) = true
noncomputable section
variable {P : Program} {w : World} {K : PySem.W.Frag} {mg : Str → Option Value} {base : Heap}
theorem hu70 {k : Nat} {A : Around} (hr : Room k A) : A.units + 70 < cLine := by
  have := hr.un
  omega
theorem sci_BadBook : FnScope ["self", "part"] ["self", "part"] (defScope s_init_BadBook) := ⟨rfl, rfl, rfl, by decide +kernel, rfl, by decide +kernel, by decide +kernel⟩
theorem ok_init_BadBook (T : Txt K mg) : FnOk P w K mg base CX0 1 T.iE_BadBook.fI T.iE_BadBook.fd ["self", "part"] (spXI (T.E.a 1) "part") := ok_xinit (T.cE 1 (by decide)).xc T.iE_BadBook.no T.iE_BadBook.F sci_BadBook rfl (by first | exact Or.inl rfl | exact Or.inr (Or.inl rfl)) (by first | exact Or.inl rfl | exact Or.inr (Or.inl rfl)) (by decide) (by decide)
theorem sci_BadText : FnScope ["self", "line"] ["self", "line"] (defScope s_init_BadText) := ⟨rfl, rfl, rfl, by decide +kernel, rfl, by decide +kernel, by decide +kernel⟩
theorem ok_init_BadText (T : Txt K mg) : FnOk P w K mg base CX0 1 T.iE_BadText.fI T.iE_BadText.fd ["self", "line"] (spXI (T.E.a 2) "line") := ok_xinit (T.cE 2 (by decide)).xc T.iE_BadText.no T.iE_BadText.F sci_BadText rfl (by first | exact Or.inl rfl | exact Or.inr (Or.inl rfl)) (by first | exact Or.inl rfl | exact Or.inr (Or.inl rfl)) (by decide) (by decide)
abbrev n_is_whole : List Str := ["value", "low", "high"]
theorem sc_is_whole : FnScope n_is_whole ["value", "low", "high"] (defScope s_is_whole) := ⟨rfl, rfl, rfl, by decide +kernel, rfl, by decide +kernel, by decide +kernel⟩
def g_is_whole : SF Z0 :=
  sRet (xAnd (xIs "int" (xName 0)) (xAnd (xNot (xIs "bool" (xName 0))) (x3 leX ltX (xName 1) (xName 0) (xName 2))))
def f_is_whole : FP := fpOf (bodyF 3 3 g_is_whole)
theorem ok_is_whole (T : Txt K mg) : FnOk P w K mg base CX0 1 T.d_is_whole.f T.d_is_whole.fd ["value", "low", "high"] (spP K f_is_whole) :=
  fn_defP T.d_is_whole.F sc_is_whole fun cdv A out z H E hr =>
    ss_one (sx_ret (ex_and (ex_isi (n := "int") (by rfl) T.b_isinstance (ex_name 0) (by rfl) T.b_int) (ex_and (ex_not (ex_isi (n := "bool") (by rfl) T.b_isinstance (ex_name 0) (by rfl) T.b_bool)) (ex_bop1 (ex_chain or_le o2_le or_lt o2_lt (ex_name 1) (ex_name 0) (ex_name 2))))))
abbrev n_ascends : List Str := ["items", "at"]
theorem sc_ascends : FnScope n_ascends ["items"] (defScope s_ascends) := ⟨rfl, rfl, rfl, by decide +kernel, rfl, by decide +kernel, by decide +kernel⟩
def g_ascends : SF Z0 :=
  sRet (xCall allT (xCons (xLc [1] (iRng (x2 subI (xCall lenT (xCons (xName 0) (xNil))) (xC (T.int 1)))) (gSet 1) (xYes) (x2 ltX (x2 ixT (xName 0) (xName 1)) (x2 ixT (xName 0) (x2 addX (xName 1) (xC (T.int 1)))))) (xNil)))
def f_ascends : FP := fpOf (bodyF 1 2 g_ascends)
theorem ok_ascends (T : Txt K mg) : FnOk P w K mg base CX0 1 T.d_ascends.f T.d_ascends.fd ["items"] (spP K f_ascends) :=
  fn_defP T.d_ascends.F sc_ascends fun cdv A out z H E hr =>
    ss_one (sx_ret (ex_callB (cr_all rfl) op1_all (by rfl) T.b_all (el_cons (ex_of_new (en_lc (own := [("at", 1)]) rfl sc_ascends.nd (ix_rng (by rfl) T.b_range (ex_sub (ex_callB call_len op1_len (by rfl) T.b_len (el_cons (ex_name 0) (el_nil))) (ex_int))) (blkOk_by (own := [("at", 1)]) (N := n_ascends) (sc := defScope s_ascends) (by decide +kernel)) (gb_name sc_ascends.nd rfl (fun _ _ => by first | exact Or.inl rfl | exact Or.inr rfl) (fun _ _ => by first | exact Or.inr rfl | exact Or.inl rfl)) rfl (fun _ _ _ _ _ => ets_nil) (fun _ _ _ _ _ => ex_cmp or_lt o2_lt (ex_ix ix_seq op2_ix (ex_name 0) (ex_name 1)) (ex_ix ix_seq op2_ix (ex_name 0) (ex_add (ex_name 1) (ex_int))) (nomark _)))) (el_nil))))
abbrev n_is_word : List Str := ["thing"]
theorem sc_is_word : FnScope n_is_word ["thing"] (defScope s_is_word) := ⟨rfl, rfl, rfl, by decide +kernel, rfl, by decide +kernel, by decide +kernel⟩
def g_is_word : SF Z0 :=
  sSeq (sIf (xbOr (xbNot (xTru (xIs "str" (xName 0)))) (xbNot (xb (x3 leX leX (xC (T.int 1)) (xCall lenT (xCons (xName 0) (xNil))) (xC (T.int 8)))))) (sRet (xC (T.bl false))) (sSkip))
    (sRet (xAnd (xMeth "str" (strMT (fun a => T.bl (Txt.isascii a))) (xName 0) xNil) (xAnd (xMeth "str" (strMT (fun a => T.bl (Txt.isalpha a))) (xName 0) xNil) (xMeth "str" (strMT (fun a => T.bl (Txt.islower a))) (xName 0) xNil))))
def f_is_word : FP := fpOf (bodyF 1 1 g_is_word)
theorem ok_is_word (T : Txt K mg) : FnOk P w K mg base CX0 1 T.d_is_word.f T.d_is_word.fd ["thing"] (spP K f_is_word) :=
  fn_defP T.d_is_word.F sc_is_word fun cdv A out z H E hr =>
    ss_cons (sx_if (eb_w (ew_or (eb_not (eb_tru (ex_isi (n := "str") (by rfl) T.b_isinstance (ex_name 0) (by rfl) T.b_str))) (ew_or1 (eb_not (eb_chain or_le o2_le or_le o2_le (ex_int) (ex_callB call_len op1_len (by rfl) T.b_len (el_cons (ex_name 0) (el_nil))) (ex_glob (v := .int 8) (by rfl) (T.c_LONGEST).choose_spec ⟨_, rfl⟩ (fun _ => rfl))))))) (ss_one (sx_ret (ex_bl))) (ss_nil))
    (ss_one (sx_ret (ex_and (ex_m0 PySem.F.plainAttrs_str PySem.F.slot_str_isascii PySem.F.type_str_isascii mt_isascii (opm_strT (is_bl Txt.isascii)) (ex_name 0)) (ex_and (ex_m0 PySem.F.plainAttrs_str PySem.F.slot_str_isalpha PySem.F.type_str_isalpha mt_isalpha (opm_strT (is_bl Txt.isalpha)) (ex_name 0)) (ex_bop1 (ex_m0 PySem.F.plainAttrs_str PySem.F.slot_str_islower PySem.F.type_str_islower mt_islower (opm_strT (is_bl Txt.islower)) (ex_name 0)))))))
abbrev n_is_kind : List Str := ["value"]
theorem sc_is_kind : FnScope n_is_kind ["value"] (defScope s_is_kind) := ⟨rfl, rfl, rfl, by decide +kernel, rfl, by decide +kernel, by decide +kernel⟩
def g_is_kind : SF Z0 :=
  sSeq (sIf (xbOr (xbNot (xTru (xIs "tuple" (xName 0)))) (xb (x2 (eqX true) (xCall lenT (xCons (xName 0) (xNil))) (xC (T.int 2))))) (sRet (xC (T.bl false))) (sSkip))
    (sRet (xAnd (xCallP (f_is_word) (xCons (x2 ixT (xName 0) (xC (T.int 0))) (xNil))) (xCallP (f_is_whole) (xCons (x2 ixT (xName 0) (xC (T.int 1))) (xCons (xC (T.int 1)) (xCons (x2 addX (xC (T.int 3)) (xC (T.int 1))) (xNil)))))))
def f_is_kind : FP := fpOf (bodyF 1 1 g_is_kind)
theorem ok_is_kind (T : Txt K mg) : FnOk P w K mg base CX0 2 T.d_is_kind.f T.d_is_kind.fd ["value"] (spP K f_is_kind) :=
  fn_defP T.d_is_kind.F sc_is_kind fun cdv A out z H E hr =>
    ss_cons (sx_if (eb_w (ew_or (eb_not (eb_tru (ex_isi (n := "tuple") (by rfl) T.b_isinstance (ex_name 0) (by rfl) T.b_tuple))) (ew_or1 (eb_cmp (or_ne hr.units) o2_eq (ex_callB call_len op1_len (by rfl) T.b_len (el_cons (ex_name 0) (el_nil))) (ex_int) (nomark _))))) (ss_one (sx_ret (ex_bl))) (ss_nil))
    (ss_one (sx_ret (ex_and (ex_callP (ok_is_word T) (hr.mono (by decide)) (by rfl) T.d_is_word.m T.d_is_word.F.kp T.d_is_word.b (el_cons (ex_ix ix_seq op2_ix (ex_name 0) (ex_int)) (el_nil))) (ex_bop1 (ex_callP (ok_is_whole T) (hr.mono (by decide)) (by rfl) T.d_is_whole.m T.d_is_whole.F.kp T.d_is_whole.b (el_cons (ex_ix ix_seq op2_ix (ex_name 0) (ex_int)) (el_cons (ex_int) (el_cons (ex_add (ex_glob (v := .int 3) (by rfl) (T.c_MOST_PARTS).choose_spec ⟨_, rfl⟩ (fun _ => rfl)) (ex_int)) (el_nil)))))))))
abbrev n_are_kinds : List Str := ["value", "pair"]
theorem sc_are_kinds : FnScope n_are_kinds ["value"] (defScope s_are_kinds) := ⟨rfl, rfl, rfl, by decide +kernel, rfl, by decide +kernel, by decide +kernel⟩
def g_are_kinds : SF Z0 :=
  sSeq (sIf (xbOr (xbNot (xTru (xIs "tuple" (xName 0)))) (xbOr (xbNot (xTru (xName 0))) (xbNot (xTru (xCall allT (xCons (xLc [1] (iTupl (xName 0)) (gSet 1) (xYes) (xCallP (f_is_kind) (xCons (xName 1) (xNil)))) (xNil))))))) (sRet (xC (T.bl false))) (sSkip))
    (sRet (xCallP (f_ascends) (xCons (xLc [1] (iTupl (xName 0)) (gSet 1) (xYes) (x2 ixT (xName 1) (xC (T.int 0)))) (xNil))))
def f_are_kinds : FP := fpOf (bodyF 1 2 g_are_kinds)
theorem ok_are_kinds (T : Txt K mg) : FnOk P w K mg base CX0 3 T.d_are_kinds.f T.d_are_kinds.fd ["value"] (spP K f_are_kinds) :=
  fn_defP T.d_are_kinds.F sc_are_kinds fun cdv A out z H E hr =>
    ss_cons (sx_if (eb_w (ew_or (eb_not (eb_tru (ex_isi (n := "tuple") (by rfl) T.b_isinstance (ex_name 0) (by rfl) T.b_tuple))) (ew_or (eb_not (eb_tru (ex_name 0))) (ew_or1 (eb_not (eb_tru (ex_callB (cr_all rfl) op1_all (by rfl) T.b_all (el_cons (ex_of_new (en_lc (own := [("pair", 1)]) rfl sc_are_kinds.nd (ix_tupl (ex_name 0)) (blkOk_by (own := [("pair", 1)]) (N := n_are_kinds) (sc := defScope s_are_kinds) (by decide +kernel)) (gb_name sc_are_kinds.nd rfl (fun _ _ => by first | exact Or.inl rfl | exact Or.inr rfl) (fun _ _ => by first | exact Or.inr rfl | exact Or.inl rfl)) rfl (fun _ _ _ _ _ => ets_nil) (fun _ _ _ _ _ => ex_callP (ok_is_kind T) (hr.mono (by decide)) (by rfl) T.d_is_kind.m T.d_is_kind.F.kp T.d_is_kind.b (el_cons (ex_name 1) (el_nil))))) (el_nil))))))))) (ss_one (sx_ret (ex_bl))) (ss_nil))
    (ss_one (sx_ret (ex_callP (ok_ascends T) (hr.mono (by decide)) (by rfl) T.d_ascends.m T.d_ascends.F.kp T.d_ascends.b (el_cons (ex_of_new (en_lc (own := [("pair", 1)]) rfl sc_are_kinds.nd (ix_tupl (ex_name 0)) (blkOk_by (own := [("pair", 1)]) (N := n_are_kinds) (sc := defScope s_are_kinds) (by decide +kernel)) (gb_name sc_are_kinds.nd rfl (fun _ _ => by first | exact Or.inl rfl | exact Or.inr rfl) (fun _ _ => by first | exact Or.inr rfl | exact Or.inl rfl)) rfl (fun _ _ _ _ _ => ets_nil) (fun _ _ _ _ _ => ex_ix ix_seq op2_ix (ex_name 1) (ex_int)))) (el_nil)))))
abbrev n_is_single : List Str := ["value", "counts"]
theorem sc_is_single : FnScope n_is_single ["value", "counts"] (defScope s_is_single) := ⟨rfl, rfl, rfl, by decide +kernel, rfl, by decide +kernel, by decide +kernel⟩
def g_is_single : SF Z0 :=
  sRet (xAnd (xIs "str" (xName 0)) (x2 (eqX false) (xGet1 (xName 1) (xName 0)) (xC (T.int 1))))
def f_is_single : FP := fpOf (bodyF 2 2 g_is_single)
theorem ok_is_single (T : Txt K mg) : FnOk P w K mg base CX0 1 T.d_is_single.f T.d_is_single.fd ["value", "counts"] (spP K f_is_single) :=
  fn_defP T.d_is_single.F sc_is_single fun cdv A out z H E hr =>
    ss_one (sx_ret (ex_and (ex_isi (n := "str") (by rfl) T.b_isinstance (ex_name 0) (by rfl) T.b_str) (ex_bop1 (ex_cmp (or_eq hr.units) o2_eq (ex_get1 (hu_of hr) (ex_name 1) (ex_name 0) ⟨rfl, rfl, rfl, rfl⟩) (ex_int) (nomark _)))))
abbrev n_is_need : List Str := ["value", "count", "counts"]
theorem sc_is_need : FnScope n_is_need ["value", "count", "counts"] (defScope s_is_need) := ⟨rfl, rfl, rfl, by decide +kernel, rfl, by decide +kernel, by decide +kernel⟩
def g_is_need : SF Z0 :=
  sSeq (sIf (xbOr (xbNot (xTru (xIs "tuple" (xName 0)))) (xbNot (xTru (xName 0)))) (sRet (xC (T.bl false))) (sSkip))
    (sSeq (sIf (xb (x2 eqY (x2 ixT (xName 0) (xC (T.int 0))) (xC (T.str "part")))) (sRet (xAnd (x2 (eqX false) (xCall lenT (xCons (xName 0) (xNil))) (xC (T.int 2))) (xCallP (f_is_whole) (xCons (x2 ixT (xName 0) (xC (T.int 1))) (xCons (xC (T.int 0)) (xCons (xName 1) (xNil))))))) (sSkip))
    (sSeq (sIf (xb (x2 eqY (x2 ixT (xName 0) (xC (T.int 0))) (xC (T.str "around")))) (sRet (xAnd (x2 (eqX false) (xCall lenT (xCons (xName 0) (xNil))) (xC (T.int 3))) (xAnd (xCallP (f_is_single) (xCons (x2 ixT (xName 0) (xC (T.int 1))) (xCons (xName 2) (xNil)))) (xCallP (f_is_whole) (xCons (x2 ixT (xName 0) (xC (T.int 2))) (xCons (xC (T.int 0)) (xCons (xName 1) (xNil)))))))) (sSkip))
    (sSeq (sIf (xb (x2 eqY (x2 ixT (xName 0) (xC (T.int 0))) (xC (T.str "inside")))) (sRet (xAnd (x2 (eqX false) (xCall lenT (xCons (xName 0) (xNil))) (xC (T.int 3))) (xAnd (xCallP (f_is_whole) (xCons (x2 ixT (xName 0) (xC (T.int 1))) (xCons (xC (T.int 0)) (xCons (xName 1) (xNil))))) (xCallP (f_is_single) (xCons (x2 ixT (xName 0) (xC (T.int 2))) (xCons (xName 2) (xNil))))))) (sSkip))
    (sRet (xC (T.bl false))))))
def f_is_need : FP := fpOf (bodyF 3 3 g_is_need)
theorem ok_is_need (T : Txt K mg) : FnOk P w K mg base CX0 2 T.d_is_need.f T.d_is_need.fd ["value", "count", "counts"] (spP K f_is_need) :=
  fn_defP T.d_is_need.F sc_is_need fun cdv A out z H E hr =>
    ss_cons (sx_if (eb_w (ew_or (eb_not (eb_tru (ex_isi (n := "tuple") (by rfl) T.b_isinstance (ex_name 0) (by rfl) T.b_tuple))) (ew_or1 (eb_not (eb_tru (ex_name 0)))))) (ss_one (sx_ret (ex_bl))) (ss_nil))
    (ss_cons (sx_if (eb_cmp (or_eqY hr.units) o2_eqY (ex_ix ix_seq op2_ix (ex_name 0) (ex_int)) (ex_str) (nomark _)) (ss_one (sx_ret (ex_and (ex_cmp (or_eq hr.units) o2_eq (ex_callB call_len op1_len (by rfl) T.b_len (el_cons (ex_name 0) (el_nil))) (ex_int) (nomark _)) (ex_bop1 (ex_callP (ok_is_whole T) (hr.mono (by decide)) (by rfl) T.d_is_whole.m T.d_is_whole.F.kp T.d_is_whole.b (el_cons (ex_ix ix_seq op2_ix (ex_name 0) (ex_int)) (el_cons (ex_int) (el_cons (ex_name 1) (el_nil))))))))) (ss_nil))
    (ss_cons (sx_if (eb_cmp (or_eqY hr.units) o2_eqY (ex_ix ix_seq op2_ix (ex_name 0) (ex_int)) (ex_str) (nomark _)) (ss_one (sx_ret (ex_and (ex_cmp (or_eq hr.units) o2_eq (ex_callB call_len op1_len (by rfl) T.b_len (el_cons (ex_name 0) (el_nil))) (ex_int) (nomark _)) (ex_and (ex_callP (ok_is_single T) (hr.mono (by decide)) (by rfl) T.d_is_single.m T.d_is_single.F.kp T.d_is_single.b (el_cons (ex_ix ix_seq op2_ix (ex_name 0) (ex_int)) (el_cons (ex_name 2) (el_nil)))) (ex_bop1 (ex_callP (ok_is_whole T) (hr.mono (by decide)) (by rfl) T.d_is_whole.m T.d_is_whole.F.kp T.d_is_whole.b (el_cons (ex_ix ix_seq op2_ix (ex_name 0) (ex_int)) (el_cons (ex_int) (el_cons (ex_name 1) (el_nil)))))))))) (ss_nil))
    (ss_cons (sx_if (eb_cmp (or_eqY hr.units) o2_eqY (ex_ix ix_seq op2_ix (ex_name 0) (ex_int)) (ex_str) (nomark _)) (ss_one (sx_ret (ex_and (ex_cmp (or_eq hr.units) o2_eq (ex_callB call_len op1_len (by rfl) T.b_len (el_cons (ex_name 0) (el_nil))) (ex_int) (nomark _)) (ex_and (ex_callP (ok_is_whole T) (hr.mono (by decide)) (by rfl) T.d_is_whole.m T.d_is_whole.F.kp T.d_is_whole.b (el_cons (ex_ix ix_seq op2_ix (ex_name 0) (ex_int)) (el_cons (ex_int) (el_cons (ex_name 1) (el_nil))))) (ex_bop1 (ex_callP (ok_is_single T) (hr.mono (by decide)) (by rfl) T.d_is_single.m T.d_is_single.F.kp T.d_is_single.b (el_cons (ex_ix ix_seq op2_ix (ex_name 0) (ex_int)) (el_cons (ex_name 2) (el_nil))))))))) (ss_nil))
    (ss_one (sx_ret (ex_bl))))))
abbrev n_is_opening : List Str := ["value", "counts", "word", "kind", "given", "needs", "need"]
theorem sc_is_opening : FnScope n_is_opening ["value", "counts"] (defScope s_is_opening) := ⟨rfl, rfl, rfl, by decide +kernel, rfl, by decide +kernel, by decide +kernel⟩
def g_is_opening : SF Z0 :=
  sSeq (sIf (xbOr (xbNot (xTru (xIs "tuple" (xName 0)))) (xb (x2 (eqX true) (xCall lenT (xCons (xName 0) (xNil))) (xC (T.int 4))))) (sRet (xC (T.bl false))) (sSkip))
    (sSeq (sAsg (xName 0) (gTupT 4 (gsCons (gSet 2) (gsCons (gSet 3) (gsCons (gSet 4) (gsCons (gSet 5) (gsNil)))))))
    (sSeq (sIf (xbOr (xbNot (xTru (xCallP (f_is_word) (xCons (xName 2) (xNil))))) (xbOr (xb (x2 (inXD false) (xName 2) (xName 1))) (xbOr (xbNot (xTru (xCallP (f_is_word) (xCons (xName 3) (xNil))))) (xb (x2 (inXD true) (xName 3) (xName 1)))))) (sRet (xC (T.bl false))) (sSkip))
    (sSeq (sIf (xbOr (xbNot (xTru (xCallP (f_is_whole) (xCons (xName 4) (xCons (xC (T.int 0)) (xCons (x2 dgetT (xName 1) (xName 3)) (xNil))))))) (xbOr (xbNot (xTru (xIs "tuple" (xName 5)))) (xb (x2 gtX (xCall lenT (xCons (xName 5) (xNil))) (xC (T.int 2)))))) (sRet (xC (T.bl false))) (sSkip))
    (sRet (xCall allT (xCons (xLc [6] (iTupl (xName 5)) (gSet 6) (xYes) (xCallP (f_is_need) (xCons (xName 6) (xCons (x2 dgetT (xName 1) (xName 3)) (xCons (xName 1) (xNil)))))) (xNil)))))))
def f_is_opening : FP := fpOf (bodyF 2 7 g_is_opening)
theorem ok_is_opening (T : Txt K mg) : FnOk P w K mg base CX0 3 T.d_is_opening.f T.d_is_opening.fd ["value", "counts"] (spP K f_is_opening) :=
  fn_defP T.d_is_opening.F sc_is_opening fun cdv A out z H E hr =>
    ss_cons (sx_if (eb_w (ew_or (eb_not (eb_tru (ex_isi (n := "tuple") (by rfl) T.b_isinstance (ex_name 0) (by rfl) T.b_tuple))) (ew_or1 (eb_cmp (or_ne hr.units) o2_eq (ex_callB call_len op1_len (by rfl) T.b_len (el_cons (ex_name 0) (el_nil))) (ex_int) (nomark _))))) (ss_one (sx_ret (ex_bl))) (ss_nil))
    (ss_cons (sx_asg (ex_name 0) (gx_tup rfl (gxs_cons (gx_name sc_is_opening.nd) (gxs_cons (gx_name sc_is_opening.nd) (gxs_cons (gx_name sc_is_opening.nd) (gxs_cons (gx_name sc_is_opening.nd) (gxs_nil)))))))
    (ss_cons (sx_if (eb_w (ew_or (eb_not (eb_tru (ex_callP (ok_is_word T) (hr.mono (by decide)) (by rfl) T.d_is_word.m T.d_is_word.F.kp T.d_is_word.b (el_cons (ex_name 2) (el_nil))))) (ew_or (eb_cmp (or_inXD (hu_of hr)) op2_inXD (ex_name 2) (ex_name 1) (by rfl)) (ew_or (eb_not (eb_tru (ex_callP (ok_is_word T) (hr.mono (by decide)) (by rfl) T.d_is_word.m T.d_is_word.F.kp T.d_is_word.b (el_cons (ex_name 3) (el_nil))))) (ew_or1 (eb_cmp (or_niXD (hu_of hr)) op2_inXD (ex_name 3) (ex_name 1) (by rfl))))))) (ss_one (sx_ret (ex_bl))) (ss_nil))
    (ss_cons (sx_if (eb_w (ew_or (eb_not (eb_tru (ex_callP (ok_is_whole T) (hr.mono (by decide)) (by rfl) T.d_is_whole.m T.d_is_whole.F.kp T.d_is_whole.b (el_cons (ex_name 4) (el_cons (ex_int) (el_cons (ex_dget (hu_of hr) (ex_name 1) (ex_name 3)) (el_nil))))))) (ew_or (eb_not (eb_tru (ex_isi (n := "tuple") (by rfl) T.b_isinstance (ex_name 5) (by rfl) T.b_tuple))) (ew_or1 (eb_cmp or_gt o2_gt (ex_callB call_len op1_len (by rfl) T.b_len (el_cons (ex_name 5) (el_nil))) (ex_glob (v := .int 2) (by rfl) (T.c_MOST_NEEDS).choose_spec ⟨_, rfl⟩ (fun _ => rfl)) (nomark _)))))) (ss_one (sx_ret (ex_bl))) (ss_nil))
    (ss_one (sx_ret (ex_callB (cr_all rfl) op1_all (by rfl) T.b_all (el_cons (ex_of_new (en_lc (own := [("need", 6)]) rfl sc_is_opening.nd (ix_tupl (ex_name 5)) (blkOk_by (own := [("need", 6)]) (N := n_is_opening) (sc := defScope s_is_opening) (by decide +kernel)) (gb_name sc_is_opening.nd rfl (fun _ _ => by first | exact Or.inl rfl | exact Or.inr rfl) (fun _ _ => by first | exact Or.inr rfl | exact Or.inl rfl)) rfl (fun _ _ _ _ _ => ets_nil) (fun _ _ _ _ _ => ex_callP (ok_is_need T) (hr.mono (by decide)) (by rfl) T.d_is_need.m T.d_is_need.F.kp T.d_is_need.b (el_cons (ex_name 6) (el_cons (ex_dget (hu_of hr) (ex_name 1) (ex_name 3)) (el_cons (ex_name 1) (el_nil))))))) (el_nil))))))))
abbrev n_are_openings : List Str := ["value", "kinds", "counts", "opening"]
theorem sc_are_openings : FnScope n_are_openings ["value", "kinds"] (defScope s_are_openings) := ⟨rfl, rfl, rfl, by decide +kernel, rfl, by decide +kernel, by decide +kernel⟩
def g_are_openings : SF Z0 :=
  sSeq (sSet 2 (xCall dictX (xCons (xName 1) (xNil))))
    (sSeq (sIf (xbOr (xbNot (xTru (xIs "tuple" (xName 0)))) (xbNot (xTru (xCall allT (xCons (xLc [3] (iTupl (xName 0)) (gSet 3) (xYes) (xCallP (f_is_opening) (xCons (xName 3) (xCons (xName 2) (xNil))))) (xNil)))))) (sRet (xC (T.bl false))) (sSkip))
    (sRet (xCallP (f_ascends) (xCons (xLc [3] (iTupl (xName 0)) (gSet 3) (xYes) (x2 ixT (xName 3) (xC (T.int 0)))) (xNil)))))
def f_are_openings : FP := fpOf (bodyF 2 4 g_are_openings)
theorem ok_are_openings (T : Txt K mg) : FnOk P w K mg base CX0 4 T.d_are_openings.f T.d_are_openings.fd ["value", "kinds"] (spP K f_are_openings) :=
  fn_defP T.d_are_openings.F sc_are_openings fun cdv A out z H E hr =>
    ss_cons (sx_set (i := 2) sc_are_openings.nd rfl (ex_of_new (en_callTy (call_dictX rfl) op_dictX (by rfl) T.b_dict (el_cons (ex_name 1) (el_nil)))))
    (ss_cons (sx_if (eb_w (ew_or (eb_not (eb_tru (ex_isi (n := "tuple") (by rfl) T.b_isinstance (ex_name 0) (by rfl) T.b_tuple))) (ew_or1 (eb_not (eb_tru (ex_callB (cr_all rfl) op1_all (by rfl) T.b_all (el_cons (ex_of_new (en_lc (own := [("opening", 3)]) rfl sc_are_openings.nd (ix_tupl (ex_name 0)) (blkOk_by (own := [("opening", 3)]) (N := n_are_openings) (sc := defScope s_are_openings) (by decide +kernel)) (gb_name sc_are_openings.nd rfl (fun _ _ => by first | exact Or.inl rfl | exact Or.inr rfl) (fun _ _ => by first | exact Or.inr rfl | exact Or.inl rfl)) rfl (fun _ _ _ _ _ => ets_nil) (fun _ _ _ _ _ => ex_callP (ok_is_opening T) (hr.mono (by decide)) (by rfl) T.d_is_opening.m T.d_is_opening.F.kp T.d_is_opening.b (el_cons (ex_name 3) (el_cons (ex_name 2) (el_nil)))))) (el_nil)))))))) (ss_one (sx_ret (ex_bl))) (ss_nil))
    (ss_one (sx_ret (ex_callP (ok_ascends T) (hr.mono (by decide)) (by rfl) T.d_ascends.m T.d_ascends.F.kp T.d_ascends.b (el_cons (ex_of_new (en_lc (own := [("opening", 3)]) rfl sc_are_openings.nd (ix_tupl (ex_name 0)) (blkOk_by (own := [("opening", 3)]) (N := n_are_openings) (sc := defScope s_are_openings) (by decide +kernel)) (gb_name sc_are_openings.nd rfl (fun _ _ => by first | exact Or.inl rfl | exact Or.inr rfl) (fun _ _ => by first | exact Or.inr rfl | exact Or.inl rfl)) rfl (fun _ _ _ _ _ => ets_nil) (fun _ _ _ _ _ => ex_ix ix_seq op2_ix (ex_name 3) (ex_int)))) (el_nil))))))
abbrev n_Book_init : List Str := ["self", "kinds", "openings", "opening", "way", "kind", "count"]
theorem sc_Book_init : FnScope n_Book_init ["self", "kinds", "openings"] (defScope s_Book_init) := ⟨rfl, rfl, rfl, by decide +kernel, rfl, by decide +kernel, by decide +kernel⟩
def g_Book_init (K : PySem.W.Frag) (E : Ec 3) (B self : Addr) : SF (selfZ K B self) :=
  sSeq (sIf (xbNot (xTru (xCallP (f_are_kinds) (xCons (xName 1) (xNil))))) (sRaise (E.a 1) "part" (xC (T.str "kinds"))) (sSkip))
    (sSeq (sIf (xbNot (xTru (xCallP (f_are_openings) (xCons (xName 2) (xCons (xName 1) (xNil)))))) (sRaise (E.a 1) "part" (xC (T.str "openings"))) (sSkip))
    (sSeq (sFldZ K B self 0 "kinds" (xName 1))
    (sSeq (sFldZ K B self 0 "openings" (xName 2))
    (sSeq (sFldZ K B self 0 "counts" (xCall dictX (xCons (xName 1) (xNil))))
    (sSeq (sFldZ K B self 0 "by_word" (xDc [3] (iTupl (xName 2)) (gSet 3) (xYes) (x2 ixT (xName 3) (xC (T.int 0))) (xName 3)))
    (sFldZ K B self 0 "ways" (xDc [5, 6] (iTupl (xName 1)) (gTupT 2 (gsCons (gSet 5) (gsCons (gSet 6) gsNil))) (xYes) (xName 5) (xCall tupleT (xCons (xLc [4] (iTupl (xName 2)) (gSet 4) (xb (x2 (eqX false) (x2 ixT (xName 4) (xC (T.int 1))) (xName 5))) (xName 4)) (xNil))))))))))
def m_Book (K : PySem.W.Frag) (E : Ec 3) (B : Addr) : List T → Option (RsX Unit) := mkF B fun self => bodyX 3 7 (g_Book_init K E B self)
theorem ok_Book_init (T : Txt K mg) : FnOk P w K mg base (L2.CX P w) 5 T.fB T.dB ["self", "kinds", "openings"] (spN K T.B fun self => bodyX 3 7 (g_Book_init K T.E T.B self)) :=
  fn_init T.FB sc_Book_init fun self cdv A out z H E hr =>
    ss_cons (sx_if (eb_not (eb_tru (ex_callP (ok_are_kinds T) (hr.mono (by decide)) (by rfl) T.d_are_kinds.m T.d_are_kinds.F.kp T.d_are_kinds.b (el_cons (ex_name 1) (el_nil))))) (ss_one (sx_raise rfl (T.cE 1 (by decide)).xc T.iE_BadBook.iC T.iE_BadBook.tI (ok_init_BadBook T) (hr.mono (by decide)) T.iE_BadBook.b pass0 (by rfl) T.mE_BadBook (ex_str))) (ss_nil))
    (ss_cons (sx_if (eb_not (eb_tru (ex_callP (ok_are_openings T) (hr.mono (by decide)) (by rfl) T.d_are_openings.m T.d_are_openings.F.kp T.d_are_openings.b (el_cons (ex_name 2) (el_cons (ex_name 1) (el_nil)))))) (ss_one (sx_raise rfl (T.cE 1 (by decide)).xc T.iE_BadBook.iC T.iE_BadBook.tI (ok_init_BadBook T) (hr.mono (by decide)) T.iE_BadBook.b pass0 (by rfl) T.mE_BadBook (ex_str))) (ss_nil))
    (ss_cons (sx_fldZ 0 T.clB T.no_kinds (ex_name 1))
    (ss_cons (sx_fldZ 0 T.clB T.no_openings (ex_name 2))
    (ss_cons (sx_fldZ 0 T.clB T.no_counts (ex_of_new (en_callTy (call_dictX rfl) op_dictX (by rfl) T.b_dict (el_cons (ex_name 1) (el_nil)))))
    (ss_cons (sx_fldZ 0 T.clB T.no_by_word (ex_of_new (en_dc (own := [("opening", 3)]) rfl sc_Book_init.nd (ix_tupl (ex_name 2)) (blkOk_by (own := [("opening", 3)]) (N := n_Book_init) (sc := defScope s_Book_init) (by decide +kernel)) (gb_name sc_Book_init.nd rfl (fun _ _ => by first | exact Or.inl rfl | exact Or.inr rfl) (fun _ _ => by first | exact Or.inr rfl | exact Or.inl rfl)) rfl (fun _ _ _ _ _ => ets_nil) (fun _ _ _ _ _ => ex_ix ix_seq op2_ix (ex_name 3) (ex_int)) (fun _ _ _ _ _ => ex_name 3))))
    (ss_one (sx_fldZ 0 T.clB T.no_ways (ex_of_new (en_dc (own := [("kind", 5), ("count", 6)]) rfl sc_Book_init.nd (ix_tupl (ex_name 1)) (blkOk_by (own := [("kind", 5), ("count", 6)]) (N := n_Book_init) (sc := defScope s_Book_init) (by decide +kernel)) (gb_two sc_Book_init.nd rfl rfl (by decide) (fun _ _ => by first | exact Or.inl rfl | exact Or.inr rfl) (fun _ _ => by first | exact Or.inr rfl | exact Or.inl rfl) (fun _ _ => by first | exact Or.inl rfl | exact Or.inr rfl) (fun _ _ => by first | exact Or.inr rfl | exact Or.inl rfl)) rfl (fun _ _ _ _ _ => ets_nil) (fun _ _ _ _ _ => ex_name 5) (fun _ _ _ _ _ => ex_callTy call_tupleN op1_tuple (by rfl) T.b_tuple (el_cons (ex_of_new (en_lc (own := [("way", 4)]) rfl sc_Book_init.nd (ix_tupl (ex_name 2)) (blkOk_by (own := [("way", 4)]) (N := n_Book_init) (sc := _) (by rfl)) (gb_name sc_Book_init.nd rfl (fun _ _ => by first | exact Or.inl rfl | exact Or.inr rfl) (fun _ _ => by first | exact Or.inr rfl | exact Or.inl rfl)) rfl (fun _ _ _ _ _ => ets_one (eb_cmp (or_eq hr.units) o2_eq (ex_ix ix_seq op2_ix (ex_name 4) (ex_int)) (ex_name 5) (nomark _))) (fun _ _ _ _ _ => ex_name 4))) (el_nil))))))))))))
abbrev n_Book_eq : List Str := ["self", "other"]
theorem sc_Book_eq : FnScope n_Book_eq ["self", "other"] (defScope s_Book_eq) := ⟨rfl, rfl, rfl, by decide +kernel, rfl, by decide +kernel, by decide +kernel⟩
def g_Book_eq (K : PySem.W.Frag) (E : Ec 3) (B : Addr) : SF Z0 :=
  sRet (xAnd (xIsC [(B, true)] (xName 1)) (xAnd (x2 (eqX false) (xFld [B] "kinds" (xName 0)) (xFld [B] "kinds" (xName 1))) (x2 (eqX false) (xFld [B] "openings" (xName 0)) (xFld [B] "openings" (xName 1)))))
def f_Book_eq (K : PySem.W.Frag) (E : Ec 3) (B : Addr) : FP := fpOf (bodyF 2 2 (g_Book_eq K E B))
theorem ok_Book_eq (T : Txt K mg) : FnOk P w K mg base CX0 1 T.fQ T.dQ ["self", "other"] (spP K (f_Book_eq K T.E T.B)) :=
  fn_defP T.FQ sc_Book_eq fun cdv A out z H E hr =>
    ss_one (sx_ret (ex_and (ex_isC T.ktB (by rfl) T.b_isinstance (ex_name 1) (by rfl) T.mB) (ex_and (ex_cmp (or_eq hr.units) o2_eq (ex_fld (Cs := [T.B]) (List.forall_mem_cons.mpr ⟨⟨T.clB, T.no_kinds⟩, fun _ h => nomatch h⟩) (ex_name 0)) (ex_fld (Cs := [T.B]) (List.forall_mem_cons.mpr ⟨⟨T.clB, T.no_kinds⟩, fun _ h => nomatch h⟩) (ex_name 1)) (nomark _)) (ex_bop1 (ex_cmp (or_eq hr.units) o2_eq (ex_fld (Cs := [T.B]) (List.forall_mem_cons.mpr ⟨⟨T.clB, T.no_openings⟩, fun _ h => nomatch h⟩) (ex_name 0)) (ex_fld (Cs := [T.B]) (List.forall_mem_cons.mpr ⟨⟨T.clB, T.no_openings⟩, fun _ h => nomatch h⟩) (ex_name 1)) (nomark _))))))
def eqBk (K : PySem.W.Frag) (E : Ec 3) (B : Addr) : T → T → Option T := orT (orT (eqX false) (eqD false)) (eqO B (f_Book_eq K E B))
abbrev n_standard_book : List Str := []
theorem sc_standard_book : FnScope n_standard_book [] (defScope s_standard_book) := ⟨rfl, rfl, rfl, by decide +kernel, rfl, by decide +kernel, by decide +kernel⟩
def g_standard_book (K : PySem.W.Frag) (E : Ec 3) (B : Addr) : SF Z0 :=
  sRet (xGood (rMake (m_Book K E B) (xCons (xC c_STANDARD_KINDS) (xCons (xC c_STANDARD_OPENINGS) (xNil)))))
def f_standard_book (K : PySem.W.Frag) (E : Ec 3) (B : Addr) : FP := fpOf (bodyF 0 0 (g_standard_book K E B))
theorem ok_standard_book (T : Txt K mg) : FnOk P w K mg base CX0 7 T.d_standard_book.f T.d_standard_book.fd [] (spP K (f_standard_book K T.E T.B)) :=
  fn_defP T.d_standard_book.F sc_standard_book fun cdv A out z H E hr =>
    ss_one (sx_ret (ex_good (er_make T.MB (ok_Book_init T) (hr.mono (by decide)) (by rfl) T.mB T.bB (el_cons (ex_globT (by rfl) T.g_STANDARD_KINDS.choose_spec.1 T.g_STANDARD_KINDS.choose_spec.2) (el_cons (ex_globT (by rfl) T.g_STANDARD_OPENINGS.choose_spec.1 T.g_STANDARD_OPENINGS.choose_spec.2) (el_nil))))))
abbrev n_law_pick : List Str := ["_law_deck_here", "_law_some"]
theorem sc_law_pick : FnScope n_law_pick ["_law_deck_here", "_law_some"] (defScope s_law_pick) := ⟨rfl, rfl, rfl, by decide +kernel, rfl, by decide +kernel, by decide +kernel⟩
def g_law_pick (d c : Addr) : SF (deckZ d c) :=
  sRet (x2 ixT (xName 1) (xCallF (drawT dp dq d c) (xCons (xName 0) (xCons (xCall lenT (xCons (xName 1) (xNil))) (xNil)))))
def f_law_pick (d c : Addr) : FF (deckZ d c) := bodyF 2 2 (g_law_pick d c)
theorem ok_law_pick (T : Txt K mg) (d c : Addr) : FnOk P w K mg base CX0 2 T.d_law_pick.f T.d_law_pick.fd ["_law_deck_here", "_law_some"] (spS K (deckZ d c) (f_law_pick d c)) :=
  fn_def T.d_law_pick.F sc_law_pick fun cdv A out z H E hr =>
    ss_one (sx_ret (ex_ix ix_seq op2_ix (ex_name 1) (ex_call (ok_draw T.d_law_draw.F ⟨T.b_int, T.b_list⟩ d c) (hr.mono (by decide)) (by rfl) T.d_law_draw.m T.d_law_draw.F.kp T.d_law_draw.b (el_cons (ex_name 0) (el_cons (ex_callB call_len op1_len (by rfl) T.b_len (el_cons (ex_name 1) (el_nil))) (el_nil))))))
abbrev n_law_is_word : List Str := ["_law_it", "_law_letters", "_law_sign"]
theorem sc_law_is_word : FnScope n_law_is_word ["_law_it"] (defScope s_law_is_word) := ⟨rfl, rfl, rfl, by decide +kernel, rfl, by decide +kernel, by decide +kernel⟩
def g_law_is_word : SF Z0 :=
  sSeq (sSet 1 (xC (T.str "abcdefghijklmnopqrstuvwxyz")))
    (sRet (xAnd (xIs "str" (xName 0)) (xAnd (x3 ltX ltX (xC (T.int 0)) (xCall lenT (xCons (xName 0) (xNil))) (xC (T.int 9))) (x2 (eqX false) (xLc [2] (iStr (xName 0)) (gSet 2) (xb (x2 (inXD true) (xName 2) (xName 1))) (xName 2)) (xLst (xNil))))))
def f_law_is_word : FP := fpOf (bodyF 1 3 g_law_is_word)
theorem ok_law_is_word (T : Txt K mg) : FnOk P w K mg base CX0 1 T.d_law_is_word.f T.d_law_is_word.fd ["_law_it"] (spP K f_law_is_word) :=
  fn_defP T.d_law_is_word.F sc_law_is_word fun cdv A out z H E hr =>
    ss_cons (sx_set (i := 1) sc_law_is_word.nd rfl (ex_str))
    (ss_one (sx_ret (ex_and (ex_isi (n := "str") (by rfl) T.b_isinstance (ex_name 0) (by rfl) T.b_str) (ex_and (ex_chain or_lt o2_lt or_lt o2_lt (ex_int) (ex_callB call_len op1_len (by rfl) T.b_len (el_cons (ex_name 0) (el_nil))) (ex_int)) (ex_bop1 (ex_cmp (or_eq hr.units) o2_eq (ex_of_new (en_lc (own := [("_law_sign", 2)]) rfl sc_law_is_word.nd (ix_str' (ex_name 0)) (blkOk_by (own := [("_law_sign", 2)]) (N := n_law_is_word) (sc := defScope s_law_is_word) (by decide +kernel)) (gb_name sc_law_is_word.nd rfl (fun _ _ => by first | exact Or.inl rfl | exact Or.inr rfl) (fun _ _ => by first | exact Or.inr rfl | exact Or.inl rfl)) rfl (fun _ _ _ _ _ => ets_one (eb_cmp (or_niXD (hu_of hr)) op2_inXD (ex_name 2) (ex_name 1) (by rfl))) (fun _ _ _ _ _ => ex_name 2))) (ex_of_new (en_lst (el_nil))) (nomark _)))))))
abbrev n_law_standard : List Str := ["_law_kinds", "_law_some"]
theorem sc_law_standard : FnScope n_law_standard [] (defScope s_law_standard) := ⟨rfl, rfl, rfl, by decide +kernel, rfl, by decide +kernel, by decide +kernel⟩
def g_law_standard : SF Z0 :=
  sSeq (sSet 0 (xTup (xCons (xTup (xCons (xC (T.str "half")) (xCons (xC (T.int 1)) (xNil)))) (xCons (xTup (xCons (xC (T.str "lock")) (xCons (xC (T.int 2)) (xNil)))) (xCons (xTup (xCons (xC (T.str "mark")) (xCons (xC (T.int 1)) (xNil)))) (xCons (xTup (xCons (xC (T.str "pair")) (xCons (xC (T.int 2)) (xNil)))) (xCons (xTup (xCons (xC (T.str "seal")) (xCons (xC (T.int 2)) (xNil)))) (xCons (xTup (xCons (xC (T.str "sign")) (xCons (xC (T.int 2)) (xNil)))) (xNil)))))))))
    (sSeq (sSet 1 (xTup (xCons (xTup (xCons (xC (T.str "first")) (xCons (xC (T.str "pair")) (xCons (xC (T.int 0)) (xCons (xTup (xNil)) (xNil)))))) (xCons (xTup (xCons (xC (T.str "open")) (xCons (xC (T.str "lock")) (xCons (xC (T.int 0)) (xCons (xTup (xCons (xTup (xCons (xC (T.str "part")) (xCons (xC (T.int 1)) (xNil)))) (xNil))) (xNil)))))) (xCons (xTup (xCons (xC (T.str "second")) (xCons (xC (T.str "pair")) (xCons (xC (T.int 1)) (xCons (xTup (xNil)) (xNil)))))) (xNil))))))
    (sSeq (sSet 1 (x2 addX (xName 1) (xTup (xCons (xTup (xCons (xC (T.str "shown")) (xCons (xC (T.str "sign")) (xCons (xC (T.int 0)) (xCons (xTup (xNil)) (xNil)))))) (xCons (xTup (xCons (xC (T.str "signed")) (xCons (xC (T.str "sign")) (xCons (xC (T.int 0)) (xCons (xTup (xCons (xTup (xCons (xC (T.str "around")) (xCons (xC (T.str "half")) (xCons (xC (T.int 1)) (xNil))))) (xNil))) (xNil)))))) (xNil))))))
    (sRet (xDict [Sum.inr "kinds", Sum.inr "openings"] (xCons (xName 0) (xCons (x2 addX (xName 1) (xTup (xCons (xTup (xCons (xC (T.str "unseal")) (xCons (xC (T.str "seal")) (xCons (xC (T.int 0)) (xCons (xTup (xCons (xTup (xCons (xC (T.str "inside")) (xCons (xC (T.int 1)) (xCons (xC (T.str "half")) (xNil))))) (xNil))) (xNil)))))) (xNil)))) (xNil)))))))
def f_law_standard : FP := fpOf (bodyF 0 2 g_law_standard)
theorem ok_law_standard (T : Txt K mg) : FnOk P w K mg base CX0 1 T.d_law_standard.f T.d_law_standard.fd [] (spP K f_law_standard) :=
  fn_defP T.d_law_standard.F sc_law_standard fun cdv A out z H E hr =>
    ss_cons (sx_set (i := 0) sc_law_standard.nd rfl (ex_tup (el_cons (ex_tup (el_cons (ex_str) (el_cons (ex_int) (el_nil)))) (el_cons (ex_tup (el_cons (ex_str) (el_cons (ex_int) (el_nil)))) (el_cons (ex_tup (el_cons (ex_str) (el_cons (ex_int) (el_nil)))) (el_cons (ex_tup (el_cons (ex_str) (el_cons (ex_int) (el_nil)))) (el_cons (ex_tup (el_cons (ex_str) (el_cons (ex_int) (el_nil)))) (el_cons (ex_tup (el_cons (ex_str) (el_cons (ex_int) (el_nil)))) (el_nil)))))))))
    (ss_cons (sx_set (i := 1) sc_law_standard.nd rfl (ex_tup (el_cons (ex_tup (el_cons (ex_str) (el_cons (ex_str) (el_cons (ex_int) (el_cons (ex_tup (el_nil)) (el_nil)))))) (el_cons (ex_tup (el_cons (ex_str) (el_cons (ex_str) (el_cons (ex_int) (el_cons (ex_tup (el_cons (ex_tup (el_cons (ex_str) (el_cons (ex_int) (el_nil)))) (el_nil))) (el_nil)))))) (el_cons (ex_tup (el_cons (ex_str) (el_cons (ex_str) (el_cons (ex_int) (el_cons (ex_tup (el_nil)) (el_nil)))))) (el_nil))))))
    (ss_cons (sx_set (i := 1) sc_law_standard.nd rfl (ex_add (ex_name 1) (ex_tup (el_cons (ex_tup (el_cons (ex_str) (el_cons (ex_str) (el_cons (ex_int) (el_cons (ex_tup (el_nil)) (el_nil)))))) (el_cons (ex_tup (el_cons (ex_str) (el_cons (ex_str) (el_cons (ex_int) (el_cons (ex_tup (el_cons (ex_tup (el_cons (ex_str) (el_cons (ex_str) (el_cons (ex_int) (el_nil))))) (el_nil))) (el_nil)))))) (el_nil))))))
    (ss_one (sx_ret (ex_of_new (en_dict (ed_cons (ex_name 0) (ed_cons (ex_add (ex_name 1) (ex_tup (el_cons (ex_tup (el_cons (ex_str) (el_cons (ex_str) (el_cons (ex_int) (el_cons (ex_tup (el_cons (ex_tup (el_cons (ex_str) (el_cons (ex_int) (el_cons (ex_str) (el_nil))))) (el_nil))) (el_nil)))))) (el_nil)))) (ed_nil)))))))))
abbrev n_law_need : List Str := ["_law_deck_here", "_law_kinds", "_law_many", "_law_ones", "_law_spot", "_law_kind", "_law_number", "_law_way"]
theorem sc_law_need : FnScope n_law_need ["_law_deck_here", "_law_kinds", "_law_many"] (defScope s_law_need) := ⟨rfl, rfl, rfl, by decide +kernel, rfl, by decide +kernel, by decide +kernel⟩
def g_law_need (d c : Addr) : SF (deckZ d c) :=
  sSeq (sPar 3 4 (xCons (xLc [5, 6] (iTupl (xName 1)) (gTupT 2 (gsCons (gSet 5) (gsCons (gSet 6) gsNil))) (xb (x2 (eqX false) (xName 6) (xC (T.int 1)))) (xName 5)) (xCons (xCallF (drawT dp dq d c) (xCons (xName 0) (xCons (xName 2) (xNil)))) (xNil))))
    (sSeq (sSet 7 (xIf (xb (x2 (eqX true) (xName 3) (xLst (xNil)))) (xCallF (drawT dp dq d c) (xCons (xName 0) (xCons (xC (T.int 3)) (xNil)))) (xC (T.int 0))))
    (sSeq (sIf (xb (x2 (eqX false) (xName 7) (xC (T.int 0)))) (sRet (xTup (xCons (xC (T.str "part")) (xCons (xName 4) (xNil))))) (sSkip))
    (sRet (xIf (xb (x2 (eqX false) (xName 7) (xC (T.int 1)))) (xTup (xCons (xC (T.str "around")) (xCons (xCallF (f_law_pick d c) (xCons (xName 0) (xCons (xName 3) (xNil)))) (xCons (xName 4) (xNil))))) (xTup (xCons (xC (T.str "inside")) (xCons (xName 4) (xCons (xCallF (f_law_pick d c) (xCons (xName 0) (xCons (xName 3) (xNil)))) (xNil)))))))))
def f_law_need (d c : Addr) : FF (deckZ d c) := bodyF 3 8 (g_law_need d c)
theorem ok_law_need (T : Txt K mg) (d c : Addr) : FnOk P w K mg base CX0 3 T.d_law_need.f T.d_law_need.fd ["_law_deck_here", "_law_kinds", "_law_many"] (spS K (deckZ d c) (f_law_need d c)) :=
  fn_def T.d_law_need.F sc_law_need fun cdv A out z H E hr =>
    ss_cons (sx_par (i := 3) (j := 4) rfl sc_law_need.nd rfl rfl (el_cons (ex_of_new (en_lc (own := [("_law_kind", 5), ("_law_number", 6)]) rfl sc_law_need.nd (ix_tupl (ex_name 1)) (blkOk_by (own := [("_law_kind", 5), ("_law_number", 6)]) (N := n_law_need) (sc := defScope s_law_need) (by decide +kernel)) (gb_two sc_law_need.nd rfl rfl (by decide) (fun _ _ => by first | exact Or.inl rfl | exact Or.inr rfl) (fun _ _ => by first | exact Or.inr rfl | exact Or.inl rfl) (fun _ _ => by first | exact Or.inl rfl | exact Or.inr rfl) (fun _ _ => by first | exact Or.inr rfl | exact Or.inl rfl)) rfl (fun _ _ _ _ _ => ets_one (eb_cmp (or_eq hr.units) o2_eq (ex_name 6) (ex_int) (nomark _))) (fun _ _ _ _ _ => ex_name 5))) (el_cons (ex_call (ok_draw T.d_law_draw.F ⟨T.b_int, T.b_list⟩ d c) (hr.mono (by decide)) (by rfl) T.d_law_draw.m T.d_law_draw.F.kp T.d_law_draw.b (el_cons (ex_name 0) (el_cons (ex_name 2) (el_nil)))) (el_nil))))
    (ss_cons (sx_set (i := 7) sc_law_need.nd rfl (ex_if (eb_cmp (or_ne hr.units) o2_eq (ex_name 3) (ex_of_new (en_lst (el_nil))) (nomark _)) (ex_call (ok_draw T.d_law_draw.F ⟨T.b_int, T.b_list⟩ d c) (hr.mono (by decide)) (by rfl) T.d_law_draw.m T.d_law_draw.F.kp T.d_law_draw.b (el_cons (ex_name 0) (el_cons (ex_int) (el_nil)))) (ex_int)))
    (ss_cons (sx_if (eb_cmp (or_eq hr.units) o2_eq (ex_name 7) (ex_int) (nomark _)) (ss_one (sx_ret (ex_tup (el_cons (ex_str) (el_cons (ex_name 4) (el_nil)))))) (ss_nil))
    (ss_one (sx_ret (ex_if (eb_cmp (or_eq hr.units) o2_eq (ex_name 7) (ex_int) (nomark _)) (ex_tup (el_cons (ex_str) (el_cons (ex_call (ok_law_pick T d c) (hr.mono (by decide)) (by rfl) T.d_law_pick.m T.d_law_pick.F.kp T.d_law_pick.b (el_cons (ex_name 0) (el_cons (ex_name 3) (el_nil)))) (el_cons (ex_name 4) (el_nil))))) (ex_tup (el_cons (ex_str) (el_cons (ex_name 4) (el_cons (ex_call (ok_law_pick T d c) (hr.mono (by decide)) (by rfl) T.d_law_pick.m T.d_law_pick.F.kp T.d_law_pick.b (el_cons (ex_name 0) (el_cons (ex_name 3) (el_nil)))) (el_nil))))))))))
abbrev n_law_plan : List Str := ["_law_deck_here", "_law_pool", "_law_kinds", "_law_k", "_law_some", "_law_kind", "_law_many", "_law_needs", "_law_j"]
theorem sc_law_plan : FnScope n_law_plan ["_law_deck_here"] (defScope s_law_plan) := ⟨rfl, rfl, rfl, by decide +kernel, rfl, by decide +kernel, by decide +kernel⟩
def g_law_plan (d c : Addr) : SF (deckZ d c) :=
  sSeq (sIf (xb (x2 (eqX false) (xCallF (drawT dp dq d c) (xCons (xName 0) (xCons (xC (T.int 3)) (xNil)))) (xC (T.int 0)))) (sRet (xCallP (f_law_standard) xNil)) (sSkip))
    (sSeq (sParN 1 2 true true (xLst (xCons (xC (T.str "box")) (xCons (xC (T.str "half")) (xCons (xC (T.str "k")) (xCons (xC (T.str "lock")) (xCons (xC (T.str "open")) (xCons (xC (T.str "pair")) (xCons (xC (T.str "zzzzzzzz")) (xNil))))))))) (xLst (xNil)))
    (sSeq (sForE (iRng (x2 addX (xC (T.int 1)) (xCallF (drawT dp dq d c) (xCons (xName 0) (xCons (xC (T.int 4)) (xNil)))))) (gSet 3) (sDropO (oApp 2 (oTup (oCons (oPopAt 1 (xCallF (drawT dp dq d c) (xCons (xName 0) (xCons (xRead 1 (xCall lenT (xCons (xName 1) (xNil)))) (xNil))))) (oCons (oPure (x2 addX (xC (T.int 1)) (xCallF (drawT dp dq d c) (xCons (xName 0) (xCons (xC (T.int 3)) (xNil)))))) (oNil)))))))
    (sFreeze 2 (sSeq (sParN 2 4 false true (xCall tupleT (xCons (xCall sortedT (xCons (xName 2) (xNil))) (xNil))) (xLst (xNil)))
    (sSeq (sForE (iRng (xCallF (drawT dp dq d c) (xCons (xName 0) (xCons (xC (T.int 5)) (xNil))))) (gSet 3) (sSeq (sAsg (xCallF (f_law_pick d c) (xCons (xName 0) (xCons (xName 2) (xNil)))) (gTupT 2 (gsCons (gSet 5) (gsCons (gSet 6) (gsNil)))))
    (sSeq (sSetO 7 (xLc [8] (iRng (xCallF (f_law_pick d c) (xCons (xName 0) (xCons (xLst (xCons (xC (T.int 0)) (xCons (xC (T.int 1)) (xCons (xC (T.int 1)) (xCons (xC (T.int 2)) (xNil)))))) (xNil))))) (gSet 8) (xYes) (xCallF (f_law_need d c) (xCons (xName 0) (xCons (xName 2) (xCons (xName 6) (xNil)))))))
    (sFreeze 7 (sDropO (oApp 4 (oPure (xTup (xCons (x2 ixT (xLst (xCons (xC (T.str "y")) (xCons (xC (T.str "first")) (xCons (xC (T.str "get")) (xCons (xC (T.str "untie")) (xNil)))))) (xName 3)) (xCons (xName 5) (xCons (xCallF (drawT dp dq d c) (xCons (xName 0) (xCons (xName 6) (xNil)))) (xCons (xCall tupleT (xCons (xName 7) (xNil))) (xNil)))))))))))))
    (sFreeze 4 (sRet (xDict [Sum.inr "kinds", Sum.inr "openings"] (xCons (xName 2) (xCons (xCall tupleT (xCons (xCall sortedT (xCons (xName 4) (xNil))) (xNil))) (xNil)))))))))))
def f_law_plan (d c : Addr) : FF (deckZ d c) := bodyF 1 9 (g_law_plan d c)
theorem ok_law_plan (T : Txt K mg) (d c : Addr) : FnOk P w K mg base CX0 4 T.d_law_plan.f T.d_law_plan.fd ["_law_deck_here"] (spS K (deckZ d c) (f_law_plan d c)) :=
  fn_def T.d_law_plan.F sc_law_plan fun cdv A out z H E hr =>
    ss_cons (sx_if (eb_cmp (or_eq hr.units) o2_eq (ex_call (ok_draw T.d_law_draw.F ⟨T.b_int, T.b_list⟩ d c) (hr.mono (by decide)) (by rfl) T.d_law_draw.m T.d_law_draw.F.kp T.d_law_draw.b (el_cons (ex_name 0) (el_cons (ex_int) (el_nil)))) (ex_int) (nomark _)) (ss_one (sx_ret (ex_callP0 (ok_law_standard T) (hr.mono (by decide)) (by rfl) T.d_law_standard.m T.d_law_standard.F.kp T.d_law_standard.b))) (ss_nil))
    (ss_cons (sx_asgN (i := 1) (j := 2) (k := true) (l := true) rfl sc_law_plan.nd rfl rfl (en_lst (el_cons (ex_str) (el_cons (ex_str) (el_cons (ex_str) (el_cons (ex_str) (el_cons (ex_str) (el_cons (ex_str) (el_cons (ex_str) (el_nil))))))))) (en_lst (el_nil)))
    (ss_cons (sx_for PassesOwn.never rfl (ix_rng (by rfl) T.b_range (ex_add (ex_int) (ex_call (ok_draw T.d_law_draw.F ⟨T.b_int, T.b_list⟩ d c) (hr.mono (by decide)) (by rfl) T.d_law_draw.m T.d_law_draw.F.kp T.d_law_draw.b (el_cons (ex_name 0) (el_cons (ex_int) (el_nil)))))) (gx_name sc_law_plan.nd) (ss_one (sx_exprO (xo_app 2 (xo_tup (elo_cons (xo_popAt 1 (ex_call (ok_draw T.d_law_draw.F ⟨T.b_int, T.b_list⟩ d c) (hr.mono (by decide)) (by rfl) T.d_law_draw.m T.d_law_draw.F.kp T.d_law_draw.b (el_cons (ex_name 0) (el_cons (ex_read 1 (ex_callB call_len op1_len (by rfl) T.b_len (el_cons (ex_name 1) (el_nil)))) (el_nil))))) (elo_cons (xo_of (ex_add (ex_int) (ex_call (ok_draw T.d_law_draw.F ⟨T.b_int, T.b_list⟩ d c) (hr.mono (by decide)) (by rfl) T.d_law_draw.m T.d_law_draw.F.kp T.d_law_draw.b (el_cons (ex_name 0) (el_cons (ex_int) (el_nil)))))) (elo_nil))))))))
    (ss_freeze 2 (ss_cons (sx_asgN (i := 2) (j := 4) (k := false) (l := true) rfl sc_law_plan.nd rfl rfl (ex_callTy call_tupleN op1_tuple (by rfl) T.b_tuple (el_cons (ex_of_new (en_callB (call_sorted rfl) op_sorted (by rfl) T.b_sorted (el_cons (ex_name 2) (el_nil)))) (el_nil))) (en_lst (el_nil)))
    (ss_cons (sx_for PassesOwn.never rfl (ix_rng (by rfl) T.b_range (ex_call (ok_draw T.d_law_draw.F ⟨T.b_int, T.b_list⟩ d c) (hr.mono (by decide)) (by rfl) T.d_law_draw.m T.d_law_draw.F.kp T.d_law_draw.b (el_cons (ex_name 0) (el_cons (ex_int) (el_nil))))) (gx_name sc_law_plan.nd) (ss_cons (sx_asg (ex_call (ok_law_pick T d c) (hr.mono (by decide)) (by rfl) T.d_law_pick.m T.d_law_pick.F.kp T.d_law_pick.b (el_cons (ex_name 0) (el_cons (ex_name 2) (el_nil)))) (gx_tup rfl (gxs_cons (gx_name sc_law_plan.nd) (gxs_cons (gx_name sc_law_plan.nd) (gxs_nil)))))
    (ss_cons (sx_setLc (own := [("_law_j", 8)]) (i := 7) rfl sc_law_plan.nd rfl rfl rfl (ix_rng (by rfl) T.b_range (ex_call (ok_law_pick T d c) (hr.mono (by decide)) (by rfl) T.d_law_pick.m T.d_law_pick.F.kp T.d_law_pick.b (el_cons (ex_name 0) (el_cons (ex_of_new (en_lst (el_cons (ex_int) (el_cons (ex_int) (el_cons (ex_int) (el_cons (ex_int) (el_nil))))))) (el_nil))))) (blkOk_by (own := [("_law_j", 8)]) (N := n_law_plan) (sc := defScope s_law_plan) (by decide +kernel)) (gb_name sc_law_plan.nd rfl (fun _ _ => by first | exact Or.inl rfl | exact Or.inr rfl) (fun _ _ => by first | exact Or.inr rfl | exact Or.inl rfl)) rfl (fun _ _ _ _ _ => ets_nil) (fun _ _ _ _ _ => ex_call (ok_law_need T d c) (hr.mono (by decide)) (by rfl) T.d_law_need.m T.d_law_need.F.kp T.d_law_need.b (el_cons (ex_name 0) (el_cons (ex_name 2) (el_cons (ex_name 6) (el_nil))))))
    (ss_freeze 7 (ss_one (sx_exprO (xo_app 4 (xo_of (ex_tup (el_cons (ex_ix ix_seq op2_ix (ex_of_new (en_lst (el_cons (ex_str) (el_cons (ex_str) (el_cons (ex_str) (el_cons (ex_str) (el_nil))))))) (ex_name 3)) (el_cons (ex_name 5) (el_cons (ex_call (ok_draw T.d_law_draw.F ⟨T.b_int, T.b_list⟩ d c) (hr.mono (by decide)) (by rfl) T.d_law_draw.m T.d_law_draw.F.kp T.d_law_draw.b (el_cons (ex_name 0) (el_cons (ex_name 6) (el_nil)))) (el_cons (ex_callTy call_tupleN op1_tuple (by rfl) T.b_tuple (el_cons (ex_name 7) (el_nil))) (el_nil))))))))))))))
    (ss_freeze 4 (ss_one (sx_ret (ex_of_new (en_dict (ed_cons (ex_name 2) (ed_cons (ex_callTy call_tupleN op1_tuple (by rfl) T.b_tuple (el_cons (ex_of_new (en_callB (call_sorted rfl) op_sorted (by rfl) T.b_sorted (el_cons (ex_name 4) (el_nil)))) (el_nil))) (ed_nil)))))))))))))
abbrev n_law_is_whole : List Str := ["_law_it", "_law_least", "_law_most"]
theorem sc_law_is_whole : FnScope n_law_is_whole ["_law_it", "_law_least", "_law_most"] (defScope s_law_is_whole) := ⟨rfl, rfl, rfl, by decide +kernel, rfl, by decide +kernel, by decide +kernel⟩
def g_law_is_whole : SF Z0 :=
  sRet (xAnd (xIs "int" (xName 0)) (xAnd (xNot (xIs "bool" (xName 0))) (x3 leX leX (xName 1) (xName 0) (xName 2))))
def f_law_is_whole : FP := fpOf (bodyF 3 3 g_law_is_whole)
theorem ok_law_is_whole (T : Txt K mg) : FnOk P w K mg base CX0 1 T.d_law_is_whole.f T.d_law_is_whole.fd ["_law_it", "_law_least", "_law_most"] (spP K f_law_is_whole) :=
  fn_defP T.d_law_is_whole.F sc_law_is_whole fun cdv A out z H E hr =>
    ss_one (sx_ret (ex_and (ex_isi (n := "int") (by rfl) T.b_isinstance (ex_name 0) (by rfl) T.b_int) (ex_and (ex_not (ex_isi (n := "bool") (by rfl) T.b_isinstance (ex_name 0) (by rfl) T.b_bool)) (ex_bop1 (ex_chain or_le o2_le or_le o2_le (ex_name 1) (ex_name 0) (ex_name 2))))))
abbrev n_law_is_kinds : List Str := ["_law_it", "_law_pair", "_law_k"]
theorem sc_law_is_kinds : FnScope n_law_is_kinds ["_law_it"] (defScope s_law_is_kinds) := ⟨rfl, rfl, rfl, by decide +kernel, rfl, by decide +kernel, by decide +kernel⟩
def g_law_is_kinds : SF Z0 :=
  sSeq (sIf (xbOr (xbNot (xTru (xIs "tuple" (xName 0)))) (xb (x2 eqY (xName 0) (xTup (xNil))))) (sRet (xC (T.bl false))) (sSkip))
    (sSeq (sForE (iTupl (xName 0)) (gSet 1) (sSeq (sIf (xbOr (xbNot (xTru (xIs "tuple" (xName 1)))) (xbOr (xb (x2 (eqX true) (xCall lenT (xCons (xName 1) (xNil))) (xC (T.int 2)))) (xbNot (xTru (xCallP (f_law_is_word) (xCons (x2 ixT (xName 1) (xC (T.int 0))) (xNil))))))) (sRet (xC (T.bl false))) (sSkip))
    (sIf (xbNot (xTru (xCallP (f_law_is_whole) (xCons (x2 ixT (xName 1) (xC (T.int 1))) (xCons (xC (T.int 1)) (xCons (xC (T.int 3)) (xNil))))))) (sRet (xC (T.bl false))) (sSkip))))
    (sRet (x2 (eqX false) (xLc [2] (iRngAB (xC (T.int 1)) (xCall lenT (xCons (xName 0) (xNil)))) (gSet 2) (xbNot (xb (x2 ltX (x2 ixT (x2 ixT (xName 0) (x2 subI (xName 2) (xC (T.int 1)))) (xC (T.int 0))) (x2 ixT (x2 ixT (xName 0) (xName 2)) (xC (T.int 0)))))) (xName 2)) (xLst (xNil)))))
def f_law_is_kinds : FP := fpOf (bodyF 1 3 g_law_is_kinds)
theorem ok_law_is_kinds (T : Txt K mg) : FnOk P w K mg base CX0 2 T.d_law_is_kinds.f T.d_law_is_kinds.fd ["_law_it"] (spP K f_law_is_kinds) :=
  fn_defP T.d_law_is_kinds.F sc_law_is_kinds fun cdv A out z H E hr =>
    ss_cons (sx_if (eb_w (ew_or (eb_not (eb_tru (ex_isi (n := "tuple") (by rfl) T.b_isinstance (ex_name 0) (by rfl) T.b_tuple))) (ew_or1 (eb_cmp (or_eqY hr.units) o2_eqY (ex_name 0) (ex_tup (el_nil)) (nomark _))))) (ss_one (sx_ret (ex_bl))) (ss_nil))
    (ss_cons (sx_for PassesOwn.never rfl (ix_tupl (ex_name 0)) (gx_name sc_law_is_kinds.nd) (ss_cons (sx_if (eb_w (ew_or (eb_not (eb_tru (ex_isi (n := "tuple") (by rfl) T.b_isinstance (ex_name 1) (by rfl) T.b_tuple))) (ew_or (eb_cmp (or_ne hr.units) o2_eq (ex_callB call_len op1_len (by rfl) T.b_len (el_cons (ex_name 1) (el_nil))) (ex_int) (nomark _)) (ew_or1 (eb_not (eb_tru (ex_callP (ok_law_is_word T) (hr.mono (by decide)) (by rfl) T.d_law_is_word.m T.d_law_is_word.F.kp T.d_law_is_word.b (el_cons (ex_ix ix_seq op2_ix (ex_name 1) (ex_int)) (el_nil))))))))) (ss_one (sx_ret (ex_bl))) (ss_nil))
    (ss_one (sx_if (eb_not (eb_tru (ex_callP (ok_law_is_whole T) (hr.mono (by decide)) (by rfl) T.d_law_is_whole.m T.d_law_is_whole.F.kp T.d_law_is_whole.b (el_cons (ex_ix ix_seq op2_ix (ex_name 1) (ex_int)) (el_cons (ex_int) (el_cons (ex_int) (el_nil))))))) (ss_one (sx_ret (ex_bl))) (ss_nil)))))
    (ss_one (sx_ret (ex_cmp (or_eq hr.units) o2_eq (ex_of_new (en_lc (own := [("_law_k", 2)]) rfl sc_law_is_kinds.nd (ix_rngAB (by rfl) T.b_range (ex_int) (ex_callB call_len op1_len (by rfl) T.b_len (el_cons (ex_name 0) (el_nil)))) (blkOk_by (own := [("_law_k", 2)]) (N := n_law_is_kinds) (sc := defScope s_law_is_kinds) (by decide +kernel)) (gb_name sc_law_is_kinds.nd rfl (fun _ _ => by first | exact Or.inl rfl | exact Or.inr rfl) (fun _ _ => by first | exact Or.inr rfl | exact Or.inl rfl)) rfl (fun _ _ _ _ _ => ets_one (eb_not (eb_cmp or_lt o2_lt (ex_ix ix_seq op2_ix (ex_ix ix_seq op2_ix (ex_name 0) (ex_sub (ex_name 2) (ex_int))) (ex_int)) (ex_ix ix_seq op2_ix (ex_ix ix_seq op2_ix (ex_name 0) (ex_name 2)) (ex_int)) (nomark _)))) (fun _ _ _ _ _ => ex_name 2))) (ex_of_new (en_lst (el_nil))) (nomark _)))))
abbrev n_law_is_need : List Str := ["_law_numbers", "_law_many", "_law_it", "_law_kind", "_law_spot"]
theorem sc_law_is_need : FnScope n_law_is_need ["_law_numbers", "_law_many", "_law_it"] (defScope s_law_is_need) := ⟨rfl, rfl, rfl, by decide +kernel, rfl, by decide +kernel, by decide +kernel⟩
def g_law_is_need : SF Z0 :=
  sSeq (sIf (xbOr (xbNot (xTru (xIs "tuple" (xName 2)))) (xbOr (xb (x2 (inXD true) (xCall lenT (xCons (xName 2) (xNil))) (xTup (xCons (xC (T.int 2)) (xCons (xC (T.int 3)) (xNil)))))) (xbNot (xTru (xIs "str" (x2 ixT (xName 2) (xC (T.int 0)))))))) (sRet (xC (T.bl false))) (sSkip))
    (sSeq (sIf (xb (x2 (eqX false) (x2 ixT (xName 2) (xC (T.int 0))) (xC (T.str "part")))) (sRet (xAnd (x2 (eqX false) (xCall lenT (xCons (xName 2) (xNil))) (xC (T.int 2))) (xCallP (f_law_is_whole) (xCons (x2 ixT (xName 2) (xC (T.int 1))) (xCons (xC (T.int 0)) (xCons (x2 subI (xName 1) (xC (T.int 1))) (xNil))))))) (sSkip))
    (sSeq (sIf (xbOr (xb (x2 (eqX true) (xCall lenT (xCons (xName 2) (xNil))) (xC (T.int 3)))) (xb (x2 (inXD true) (x2 ixT (xName 2) (xC (T.int 0))) (xTup (xCons (xC (T.str "around")) (xCons (xC (T.str "inside")) (xNil))))))) (sRet (xC (T.bl false))) (sSkip))
    (sSeq (sAsg (xIf (xb (x2 (eqX false) (x2 ixT (xName 2) (xC (T.int 0))) (xC (T.str "around")))) (xTup (xCons (x2 ixT (xName 2) (xC (T.int 1))) (xCons (x2 ixT (xName 2) (xC (T.int 2))) (xNil)))) (xTup (xCons (x2 ixT (xName 2) (xC (T.int 2))) (xCons (x2 ixT (xName 2) (xC (T.int 1))) (xNil))))) (gTupT 2 (gsCons (gSet 3) (gsCons (gSet 4) (gsNil)))))
    (sRet (xAnd (xIs "str" (xName 3)) (xAnd (x2 (eqX false) (xGet1 (xName 0) (xName 3)) (xC (T.int 1))) (xCallP (f_law_is_whole) (xCons (xName 4) (xCons (xC (T.int 0)) (xCons (x2 subI (xName 1) (xC (T.int 1))) (xNil)))))))))))
def f_law_is_need : FP := fpOf (bodyF 3 5 g_law_is_need)
theorem ok_law_is_need (T : Txt K mg) : FnOk P w K mg base CX0 2 T.d_law_is_need.f T.d_law_is_need.fd ["_law_numbers", "_law_many", "_law_it"] (spP K f_law_is_need) :=
  fn_defP T.d_law_is_need.F sc_law_is_need fun cdv A out z H E hr =>
    ss_cons (sx_if (eb_w (ew_or (eb_not (eb_tru (ex_isi (n := "tuple") (by rfl) T.b_isinstance (ex_name 2) (by rfl) T.b_tuple))) (ew_or (eb_cmp (or_niXD (hu_of hr)) op2_inXD (ex_callB call_len op1_len (by rfl) T.b_len (el_cons (ex_name 2) (el_nil))) (ex_tup (el_cons (ex_int) (el_cons (ex_int) (el_nil)))) (by rfl)) (ew_or1 (eb_not (eb_tru (ex_isi (n := "str") (by rfl) T.b_isinstance (ex_ix ix_seq op2_ix (ex_name 2) (ex_int)) (by rfl) T.b_str))))))) (ss_one (sx_ret (ex_bl))) (ss_nil))
    (ss_cons (sx_if (eb_cmp (or_eq hr.units) o2_eq (ex_ix ix_seq op2_ix (ex_name 2) (ex_int)) (ex_str) (nomark _)) (ss_one (sx_ret (ex_and (ex_cmp (or_eq hr.units) o2_eq (ex_callB call_len op1_len (by rfl) T.b_len (el_cons (ex_name 2) (el_nil))) (ex_int) (nomark _)) (ex_bop1 (ex_callP (ok_law_is_whole T) (hr.mono (by decide)) (by rfl) T.d_law_is_whole.m T.d_law_is_whole.F.kp T.d_law_is_whole.b (el_cons (ex_ix ix_seq op2_ix (ex_name 2) (ex_int)) (el_cons (ex_int) (el_cons (ex_sub (ex_name 1) (ex_int)) (el_nil))))))))) (ss_nil))
    (ss_cons (sx_if (eb_w (ew_or (eb_cmp (or_ne hr.units) o2_eq (ex_callB call_len op1_len (by rfl) T.b_len (el_cons (ex_name 2) (el_nil))) (ex_int) (nomark _)) (ew_or1 (eb_cmp (or_niXD (hu_of hr)) op2_inXD (ex_ix ix_seq op2_ix (ex_name 2) (ex_int)) (ex_tup (el_cons (ex_str) (el_cons (ex_str) (el_nil)))) (by rfl))))) (ss_one (sx_ret (ex_bl))) (ss_nil))
    (ss_cons (sx_asg (ex_if (eb_cmp (or_eq hr.units) o2_eq (ex_ix ix_seq op2_ix (ex_name 2) (ex_int)) (ex_str) (nomark _)) (ex_tup (el_cons (ex_ix ix_seq op2_ix (ex_name 2) (ex_int)) (el_cons (ex_ix ix_seq op2_ix (ex_name 2) (ex_int)) (el_nil)))) (ex_tup (el_cons (ex_ix ix_seq op2_ix (ex_name 2) (ex_int)) (el_cons (ex_ix ix_seq op2_ix (ex_name 2) (ex_int)) (el_nil))))) (gx_tup rfl (gxs_cons (gx_name sc_law_is_need.nd) (gxs_cons (gx_name sc_law_is_need.nd) (gxs_nil)))))
    (ss_one (sx_ret (ex_and (ex_isi (n := "str") (by rfl) T.b_isinstance (ex_name 3) (by rfl) T.b_str) (ex_and (ex_cmp (or_eq hr.units) o2_eq (ex_get1 (hu_of hr) (ex_name 0) (ex_name 3) ⟨rfl, rfl, rfl, rfl⟩) (ex_int) (nomark _)) (ex_bop1 (ex_callP (ok_law_is_whole T) (hr.mono (by decide)) (by rfl) T.d_law_is_whole.m T.d_law_is_whole.F.kp T.d_law_is_whole.b (el_cons (ex_name 4) (el_cons (ex_int) (el_cons (ex_sub (ex_name 1) (ex_int)) (el_nil)))))))))))))
abbrev n_law_is_openings : List Str := ["_law_kinds", "_law_it", "_law_numbers", "_law_ahead", "_law_item", "_law_many", "_law_need_here"]
theorem sc_law_is_openings : FnScope n_law_is_openings ["_law_kinds", "_law_it"] (defScope s_law_is_openings) := ⟨rfl, rfl, rfl, by decide +kernel, rfl, by decide +kernel, by decide +kernel⟩
def g_law_is_openings : SF Z0 :=
  sSeq (sIf (xbNot (xTru (xIs "tuple" (xName 1)))) (sRet (xC (T.bl false))) (sSkip))
    (sSeq (sAsg (xTup (xCons (xCall dictX (xCons (xCall listX (xCons (xName 0) (xNil))) (xNil))) (xCons (xC (T.str "")) (xNil)))) (gTupT 2 (gsCons (gSet 2) (gsCons (gSet 3) (gsNil)))))
    (sSeq (sForE (iTupl (xName 1)) (gSet 4) (sSeq (sIf (xbOr (xbNot (xTru (xIs "tuple" (xName 4)))) (xbOr (xb (x2 (eqX true) (xCall lenT (xCons (xName 4) (xNil))) (xC (T.int 4)))) (xbOr (xbNot (xTru (xCallP (f_law_is_word) (xCons (x2 ixT (xName 4) (xC (T.int 0))) (xNil))))) (xbNot (xTru (xIs "str" (x2 ixT (xName 4) (xC (T.int 1))))))))) (sRet (xC (T.bl false))) (sSkip))
    (sSeq (sSet 5 (xGet2 (xName 2) (x2 ixT (xName 4) (xC (T.int 1))) (xC (T.int 0))))
    (sSeq (sIf (xbOr (xbNot (xb (x2 ltX (xName 3) (x2 ixT (xName 4) (xC (T.int 0)))))) (xbOr (xb (x2 (inXD false) (x2 ixT (xName 4) (xC (T.int 0))) (xName 2))) (xbNot (xTru (xCallP (f_law_is_whole) (xCons (x2 ixT (xName 4) (xC (T.int 2))) (xCons (xC (T.int 0)) (xCons (x2 subI (xName 5) (xC (T.int 1))) (xNil))))))))) (sRet (xC (T.bl false))) (sSkip))
    (sSeq (sIf (xbOr (xbNot (xTru (xIs "tuple" (x2 ixT (xName 4) (xC (T.int 3)))))) (xb (x2 gtX (xCall lenT (xCons (x2 ixT (xName 4) (xC (T.int 3))) (xNil))) (xC (T.int 2))))) (sRet (xC (T.bl false))) (sSkip))
    (sSeq (sIf (xb (x2 neY (xLc [6] (iTupl (x2 ixT (xName 4) (xC (T.int 3)))) (gSet 6) (xbNot (xTru (xCallP (f_law_is_need) (xCons (xName 2) (xCons (xName 5) (xCons (xName 6) (xNil))))))) (xName 6)) (xLst (xNil)))) (sRet (xC (T.bl false))) (sSkip))
    (sSet 3 (x2 ixT (xName 4) (xC (T.int 0))))))))))
    (sRet (xC (T.bl true)))))
def f_law_is_openings : FP := fpOf (bodyF 2 7 g_law_is_openings)
theorem ok_law_is_openings (T : Txt K mg) : FnOk P w K mg base CX0 3 T.d_law_is_openings.f T.d_law_is_openings.fd ["_law_kinds", "_law_it"] (spP K f_law_is_openings) :=
  fn_defP T.d_law_is_openings.F sc_law_is_openings fun cdv A out z H E hr =>
    ss_cons (sx_if (eb_not (eb_tru (ex_isi (n := "tuple") (by rfl) T.b_isinstance (ex_name 1) (by rfl) T.b_tuple))) (ss_one (sx_ret (ex_bl))) (ss_nil))
    (ss_cons (sx_asg (ex_tup (el_cons (ex_of_new (en_callTy (call_dictX rfl) op_dictX (by rfl) T.b_dict (el_cons (ex_of_new (en_callTy (call_listX rfl) op_listX (by rfl) T.b_list (el_cons (ex_name 0) (el_nil)))) (el_nil)))) (el_cons (ex_str) (el_nil)))) (gx_tup rfl (gxs_cons (gx_name sc_law_is_openings.nd) (gxs_cons (gx_name sc_law_is_openings.nd) (gxs_nil)))))
    (ss_cons (sx_for PassesOwn.never rfl (ix_tupl (ex_name 1)) (gx_name sc_law_is_openings.nd) (ss_cons (sx_if (eb_w (ew_or (eb_not (eb_tru (ex_isi (n := "tuple") (by rfl) T.b_isinstance (ex_name 4) (by rfl) T.b_tuple))) (ew_or (eb_cmp (or_ne hr.units) o2_eq (ex_callB call_len op1_len (by rfl) T.b_len (el_cons (ex_name 4) (el_nil))) (ex_int) (nomark _)) (ew_or (eb_not (eb_tru (ex_callP (ok_law_is_word T) (hr.mono (by decide)) (by rfl) T.d_law_is_word.m T.d_law_is_word.F.kp T.d_law_is_word.b (el_cons (ex_ix ix_seq op2_ix (ex_name 4) (ex_int)) (el_nil))))) (ew_or1 (eb_not (eb_tru (ex_isi (n := "str") (by rfl) T.b_isinstance (ex_ix ix_seq op2_ix (ex_name 4) (ex_int)) (by rfl) T.b_str)))))))) (ss_one (sx_ret (ex_bl))) (ss_nil))
    (ss_cons (sx_set (i := 5) sc_law_is_openings.nd rfl (ex_get2 (hu_of hr) (ex_name 2) (ex_ix ix_seq op2_ix (ex_name 4) (ex_int)) (ex_int) ⟨rfl, rfl, rfl, rfl⟩))
    (ss_cons (sx_if (eb_w (ew_or (eb_not (eb_cmp or_lt o2_lt (ex_name 3) (ex_ix ix_seq op2_ix (ex_name 4) (ex_int)) (nomark _))) (ew_or (eb_cmp (or_inXD (hu_of hr)) op2_inXD (ex_ix ix_seq op2_ix (ex_name 4) (ex_int)) (ex_name 2) (by rfl)) (ew_or1 (eb_not (eb_tru (ex_callP (ok_law_is_whole T) (hr.mono (by decide)) (by rfl) T.d_law_is_whole.m T.d_law_is_whole.F.kp T.d_law_is_whole.b (el_cons (ex_ix ix_seq op2_ix (ex_name 4) (ex_int)) (el_cons (ex_int) (el_cons (ex_sub (ex_name 5) (ex_int)) (el_nil))))))))))) (ss_one (sx_ret (ex_bl))) (ss_nil))
    (ss_cons (sx_if (eb_w (ew_or (eb_not (eb_tru (ex_isi (n := "tuple") (by rfl) T.b_isinstance (ex_ix ix_seq op2_ix (ex_name 4) (ex_int)) (by rfl) T.b_tuple))) (ew_or1 (eb_cmp or_gt o2_gt (ex_callB call_len op1_len (by rfl) T.b_len (el_cons (ex_ix ix_seq op2_ix (ex_name 4) (ex_int)) (el_nil))) (ex_int) (nomark _))))) (ss_one (sx_ret (ex_bl))) (ss_nil))
    (ss_cons (sx_if (eb_cmp (or_neY hr.units) o2_neY (ex_of_new (en_lc (own := [("_law_need_here", 6)]) rfl sc_law_is_openings.nd (ix_tupl (ex_ix ix_seq op2_ix (ex_name 4) (ex_int))) (blkOk_by (own := [("_law_need_here", 6)]) (N := n_law_is_openings) (sc := defScope s_law_is_openings) (by decide +kernel)) (gb_name sc_law_is_openings.nd rfl (fun _ _ => by first | exact Or.inl rfl | exact Or.inr rfl) (fun _ _ => by first | exact Or.inr rfl | exact Or.inl rfl)) rfl (fun _ _ _ _ _ => ets_one (eb_not (eb_tru (ex_callP (ok_law_is_need T) (hr.mono (by decide)) (by rfl) T.d_law_is_need.m T.d_law_is_need.F.kp T.d_law_is_need.b (el_cons (ex_name 2) (el_cons (ex_name 5) (el_cons (ex_name 6) (el_nil)))))))) (fun _ _ _ _ _ => ex_name 6))) (ex_of_new (en_lst (el_nil))) (nomark _)) (ss_one (sx_ret (ex_bl))) (ss_nil))
    (ss_one (sx_set (i := 3) sc_law_is_openings.nd rfl (ex_ix ix_seq op2_ix (ex_name 4) (ex_int))))))))))
    (ss_one (sx_ret (ex_bl)))))
abbrev n_law_bent : List Str := ["_law_deck_here", "_law_it", "_law_deep", "_law_at", "_law_way", "_law_odd"]
theorem sc_law_bent : FnScope n_law_bent ["_law_deck_here", "_law_it", "_law_deep"] (defScope s_law_bent) := ⟨rfl, rfl, rfl, by decide +kernel, rfl, by decide +kernel, by decide +kernel⟩
def g_law_bent (d c : Addr) (fr : FF (deckZ d c)) : SF (deckZ d c) :=
  sSeq (sIf (xbAnd (xTru (xIs "tuple" (xName 1))) (xbAnd (xb (x2 neY (xName 1) (xTup (xNil)))) (xbAnd (xb (x2 gtX (xName 2) (xC (T.int 0)))) (xb (x2 gtX (xCallF (drawT dp dq d c) (xCons (xName 0) (xCons (xC (T.int 7)) (xNil)))) (xC (T.int 0))))))) (sSeq (sPar 3 4 (xCons (xCallF (drawT dp dq d c) (xCons (xName 0) (xCons (xCall lenT (xCons (xName 1) (xNil))) (xNil)))) (xCons (xCallF (drawT dp dq d c) (xCons (xName 0) (xCons (xC (T.int 9)) (xNil)))) (xNil))))
    (sSeq (sIf (xb (x2 (eqX false) (xName 4) (xC (T.int 0)))) (sRet (x2 addX (xCut (xName 1) (oNone) (oSome (xName 3))) (xCut (xName 1) (oSome (x2 addX (xName 3) (xC (T.int 1)))) (oNone)))) (sSkip))
    (sSeq (sIf (xb (x2 (eqX false) (xName 4) (xC (T.int 1)))) (sRet (x2 addX (xCut (xName 1) (oNone) (oSome (x2 addX (xName 3) (xC (T.int 1))))) (xCut (xName 1) (oSome (xName 3)) (oNone)))) (sSkip))
    (sSeq (sIf (xb (x2 (eqX false) (xName 4) (xC (T.int 2)))) (sRet (x2 addX (x2 addX (xCut (xName 1) (oNone) (oSome (xName 3))) (x1 revU (xCut (xName 1) (oSome (xName 3)) (oSome (x2 addX (xName 3) (xC (T.int 2))))))) (xCut (xName 1) (oSome (x2 addX (xName 3) (xC (T.int 2)))) (oNone)))) (sSkip))
    (sSeq (sIf (xb (x2 (eqX false) (xName 4) (xC (T.int 3)))) (sRet (xCall listX (xCons (xName 1) (xNil)))) (sSkip))
    (sRet (x2 addX (x2 addX (xCut (xName 1) (oNone) (oSome (xName 3))) (xTup (xCons (xCallF (fr) (xCons (xName 0) (xCons (x2 ixT (xName 1) (xName 3)) (xCons (x2 subI (xName 2) (xC (T.int 1))) (xNil))))) (xNil)))) (xCut (xName 1) (oSome (x2 addX (xName 3) (xC (T.int 1)))) (oNone))))))))) (sSkip))
    (sSeq (sIf (xbAnd (xTru (xIs "int" (xName 1))) (xbAnd (xbNot (xTru (xIs "bool" (xName 1)))) (xb (x2 gtX (xCallF (drawT dp dq d c) (xCons (xName 0) (xCons (xC (T.int 4)) (xNil)))) (xC (T.int 0)))))) (sRet (xCallF (f_law_pick d c) (xCons (xName 0) (xCons (xLst (xCons (x2 addX (xName 1) (xC (T.int 1))) (xCons (x2 subI (xName 1) (xC (T.int 1))) (xCons (x2 (eqX false) (xName 1) (xC (T.int 1))) (xCons (xCall strT (xCons (xName 1) (xNil))) (xCons (xC (T.int 0)) (xCons (xC (T.int 3)) (xNil)))))))) (xNil))))) (sSkip))
    (sSeq (sIf (xbAnd (xTru (xIs "str" (xName 1))) (xb (x2 gtX (xCallF (drawT dp dq d c) (xCons (xName 0) (xCons (xC (T.int 4)) (xNil)))) (xC (T.int 0))))) (sSeq (sSet 5 (xLst (xCons (x2 addX (xName 1) (xC (T.str "a"))) (xCons (xCut (xName 1) (oSome (xC (T.int 1))) (oNone)) (xCons (xMeth "str" (strM (fun a => T.str (Txt.upper a)) 5592405) (xName 1) xNil) (xCons (xC (T.str "lock")) (xCons (xC (T.str "pair")) (xCons (xC (T.str "half")) (xCons (xC (T.str "part")) (xCons (xC (T.str "inside")) (xCons (xC (T.str "y")) (xCons (xC (T.str "zzzzzzzzz")) (xNil)))))))))))))
    (sRet (xCallF (f_law_pick d c) (xCons (xName 0) (xCons (xName 5) (xNil)))))) (sSkip))
    (sSeq (sSet 5 (xLst (xCons (xC T.non) (xCons (xC (T.bl true)) (xCons (xC (T.int 0)) (xCons (xC (T.int 1)) (xCons (x1 negI (xC (T.int 1))) (xCons (x2 powI (xC (T.int 10)) (xC (T.int 39))) (xCons (xC (T.str "")) (xCons (xC (T.str "k")) (xCons (xC (T.str "K")) (xCons (xTup (xNil)) (xCons (xTup (xCons (xC (T.str "part")) (xCons (xC (T.int 0)) (xNil)))) (xCons (xLst (xNil)) (xCons (xDnil) (xCons (xTup (xCons (xTup (xCons (xC (T.str "half")) (xCons (xC (T.int 1)) (xNil)))) (xNil))) (xCons (xTup (xCons (xC (T.str "k")) (xCons (xC (T.int 1)) (xNil)))) (xNil))))))))))))))))))
    (sRet (xCallF (f_law_pick d c) (xCons (xName 0) (xCons (xName 5) (xNil))))))))
def f_law_bent (d c : Addr) : Nat → FF (deckZ d c)
  | 0 => fun _ _ => none
  | n + 1 => bodyF 3 6 (g_law_bent d c (f_law_bent d c n))
theorem ok_law_bent (T : Txt K mg) (d c : Addr) : ∀ n : Nat, FnOk P w K mg base CX0 (3 + n) T.d_law_bent.f T.d_law_bent.fd ["_law_deck_here", "_law_it", "_law_deep"] (spS K (deckZ d c) (f_law_bent d c n))
  | 0 => fn_vac T.d_law_bent.F sc_law_bent
  | n + 1 => fn_def T.d_law_bent.F sc_law_bent fun cdv A out z H E hr =>
    ss_cons (sx_if (eb_w (ew_and (eb_tru (ex_isi (n := "tuple") (by rfl) T.b_isinstance (ex_name 1) (by rfl) T.b_tuple)) (ew_and (eb_cmp (or_neY hr.units) o2_neY (ex_name 1) (ex_tup (el_nil)) (nomark _)) (ew_and (eb_cmp or_gt o2_gt (ex_name 2) (ex_int) (nomark _)) (ew_and1 (eb_cmp or_gt o2_gt (ex_call (ok_draw T.d_law_draw.F ⟨T.b_int, T.b_list⟩ d c) (hr.mono (Nat.le_trans (by decide : 1 ≤ 3) (Nat.le_add_right 3 n))) (by rfl) T.d_law_draw.m T.d_law_draw.F.kp T.d_law_draw.b (el_cons (ex_name 0) (el_cons (ex_int) (el_nil)))) (ex_int) (nomark _))))))) (ss_cons (sx_par (i := 3) (j := 4) rfl sc_law_bent.nd rfl rfl (el_cons (ex_call (ok_draw T.d_law_draw.F ⟨T.b_int, T.b_list⟩ d c) (hr.mono (Nat.le_trans (by decide : 1 ≤ 3) (Nat.le_add_right 3 n))) (by rfl) T.d_law_draw.m T.d_law_draw.F.kp T.d_law_draw.b (el_cons (ex_name 0) (el_cons (ex_callB call_len op1_len (by rfl) T.b_len (el_cons (ex_name 1) (el_nil))) (el_nil)))) (el_cons (ex_call (ok_draw T.d_law_draw.F ⟨T.b_int, T.b_list⟩ d c) (hr.mono (Nat.le_trans (by decide : 1 ≤ 3) (Nat.le_add_right 3 n))) (by rfl) T.d_law_draw.m T.d_law_draw.F.kp T.d_law_draw.b (el_cons (ex_name 0) (el_cons (ex_int) (el_nil)))) (el_nil))))
    (ss_cons (sx_if (eb_cmp (or_eq hr.units) o2_eq (ex_name 4) (ex_int) (nomark _)) (ss_one (sx_ret (ex_add (ex_cut (ex_name 1) (eo_none) (eo_some (ex_name 3))) (ex_cut (ex_name 1) (eo_some (ex_add (ex_name 3) (ex_int))) (eo_none))))) (ss_nil))
    (ss_cons (sx_if (eb_cmp (or_eq hr.units) o2_eq (ex_name 4) (ex_int) (nomark _)) (ss_one (sx_ret (ex_add (ex_cut (ex_name 1) (eo_none) (eo_some (ex_add (ex_name 3) (ex_int)))) (ex_cut (ex_name 1) (eo_some (ex_name 3)) (eo_none))))) (ss_nil))
    (ss_cons (sx_if (eb_cmp (or_eq hr.units) o2_eq (ex_name 4) (ex_int) (nomark _)) (ss_one (sx_ret (ex_add (ex_add (ex_cut (ex_name 1) (eo_none) (eo_some (ex_name 3))) (ex_revU (ex_cut (ex_name 1) (eo_some (ex_name 3)) (eo_some (ex_add (ex_name 3) (ex_int)))))) (ex_cut (ex_name 1) (eo_some (ex_add (ex_name 3) (ex_int))) (eo_none))))) (ss_nil))
    (ss_cons (sx_if (eb_cmp (or_eq hr.units) o2_eq (ex_name 4) (ex_int) (nomark _)) (ss_one (sx_ret (ex_of_new (en_callTy (call_listX rfl) op_listX (by rfl) T.b_list (el_cons (ex_name 1) (el_nil)))))) (ss_nil))
    (ss_one (sx_ret (ex_add (ex_add (ex_cut (ex_name 1) (eo_none) (eo_some (ex_name 3))) (ex_tup (el_cons (ex_call (ok_law_bent T d c n) (hr.mono (Nat.le_refl _)) (by rfl) T.d_law_bent.m T.d_law_bent.F.kp T.d_law_bent.b (el_cons (ex_name 0) (el_cons (ex_ix ix_seq op2_ix (ex_name 1) (ex_name 3)) (el_cons (ex_sub (ex_name 2) (ex_int)) (el_nil))))) (el_nil)))) (ex_cut (ex_name 1) (eo_some (ex_add (ex_name 3) (ex_int))) (eo_none)))))))))) (ss_nil))
    (ss_cons (sx_if (eb_w (ew_and (eb_tru (ex_isi (n := "int") (by rfl) T.b_isinstance (ex_name 1) (by rfl) T.b_int)) (ew_and (eb_not (eb_tru (ex_isi (n := "bool") (by rfl) T.b_isinstance (ex_name 1) (by rfl) T.b_bool))) (ew_and1 (eb_cmp or_gt o2_gt (ex_call (ok_draw T.d_law_draw.F ⟨T.b_int, T.b_list⟩ d c) (hr.mono (Nat.le_trans (by decide : 1 ≤ 3) (Nat.le_add_right 3 n))) (by rfl) T.d_law_draw.m T.d_law_draw.F.kp T.d_law_draw.b (el_cons (ex_name 0) (el_cons (ex_int) (el_nil)))) (ex_int) (nomark _)))))) (ss_one (sx_ret (ex_call (ok_law_pick T d c) (hr.mono (Nat.le_trans (by decide : 2 ≤ 3) (Nat.le_add_right 3 n))) (by rfl) T.d_law_pick.m T.d_law_pick.F.kp T.d_law_pick.b (el_cons (ex_name 0) (el_cons (ex_of_new (en_lst (el_cons (ex_add (ex_name 1) (ex_int)) (el_cons (ex_sub (ex_name 1) (ex_int)) (el_cons (ex_cmp (or_eq hr.units) o2_eq (ex_name 1) (ex_int) (nomark _)) (el_cons (ex_callTy call_str_int op_strT (by rfl) T.b_str (el_cons (ex_name 1) (el_nil))) (el_cons (ex_int) (el_cons (ex_int) (el_nil))))))))) (el_nil)))))) (ss_nil))
    (ss_cons (sx_if (eb_w (ew_and (eb_tru (ex_isi (n := "str") (by rfl) T.b_isinstance (ex_name 1) (by rfl) T.b_str)) (ew_and1 (eb_cmp or_gt o2_gt (ex_call (ok_draw T.d_law_draw.F ⟨T.b_int, T.b_list⟩ d c) (hr.mono (Nat.le_trans (by decide : 1 ≤ 3) (Nat.le_add_right 3 n))) (by rfl) T.d_law_draw.m T.d_law_draw.F.kp T.d_law_draw.b (el_cons (ex_name 0) (el_cons (ex_int) (el_nil)))) (ex_int) (nomark _))))) (ss_cons (sx_set (i := 5) sc_law_bent.nd rfl (ex_of_new (en_lst (el_cons (ex_add (ex_name 1) (ex_str)) (el_cons (ex_cut (ex_name 1) (eo_some (ex_int)) (eo_none)) (el_cons (ex_m0 PySem.F.plainAttrs_str PySem.F.slot_str_upper PySem.F.type_str_upper mt_upper (opm_str (is_str Txt.upper)) (ex_name 1)) (el_cons (ex_str) (el_cons (ex_str) (el_cons (ex_str) (el_cons (ex_str) (el_cons (ex_str) (el_cons (ex_str) (el_cons (ex_str) (el_nil))))))))))))))
    (ss_one (sx_ret (ex_call (ok_law_pick T d c) (hr.mono (Nat.le_trans (by decide : 2 ≤ 3) (Nat.le_add_right 3 n))) (by rfl) T.d_law_pick.m T.d_law_pick.F.kp T.d_law_pick.b (el_cons (ex_name 0) (el_cons (ex_name 5) (el_nil))))))) (ss_nil))
    (ss_cons (sx_set (i := 5) sc_law_bent.nd rfl (ex_of_new (en_lst (el_cons (ex_non) (el_cons (ex_bl) (el_cons (ex_int) (el_cons (ex_int) (el_cons (ex_neg ex_int) (el_cons (ex_pow (ex_int) (ex_int)) (el_cons (ex_str) (el_cons (ex_str) (el_cons (ex_str) (el_cons (ex_tup (el_nil)) (el_cons (ex_tup (el_cons (ex_str) (el_cons (ex_int) (el_nil)))) (el_cons (ex_of_new (en_lst (el_nil))) (el_cons (ex_of_new (en_dnil)) (el_cons (ex_tup (el_cons (ex_tup (el_cons (ex_str) (el_cons (ex_int) (el_nil)))) (el_nil))) (el_cons (ex_tup (el_cons (ex_str) (el_cons (ex_int) (el_nil)))) (el_nil)))))))))))))))))))
    (ss_one (sx_ret (ex_call (ok_law_pick T d c) (hr.mono (Nat.le_trans (by decide : 2 ≤ 3) (Nat.le_add_right 3 n))) (by rfl) T.d_law_pick.m T.d_law_pick.F.kp T.d_law_pick.b (el_cons (ex_name 0) (el_cons (ex_name 5) (el_nil)))))))))
abbrev n_law_heard : List Str := ["_law_kinds", "_law_openings", "_law_is_named", "_law_found", "e"]
theorem sc_law_heard : FnScope n_law_heard ["_law_kinds", "_law_openings", "_law_is_named"] (defScope s_law_heard) := ⟨rfl, rfl, rfl, by decide +kernel, rfl, by decide +kernel, by decide +kernel⟩
def g_law_heard (K : PySem.W.Frag) (E : Ec 3) (B : Addr) : SF Z0 :=
  sSeq (sSet 3 (xC (T.str "odd")))
    (sSeq (sTryAs 4 (E.a 1) (fun ea ed => sSet 3 (xIf (xTru (xIsX ea ed (E.a 1) true (xName 4))) (xLst (xCons (xC (T.str "part")) (xCons (xXf ea ed (E.a 1) "part" (xName 4)) (xNil)))) (xC (T.str "odd")))) (sSetR 3 (rIf (xTru (xName 2)) (rMake (m_Book K E B) (xOrd 2 [1, 0] (xCons (xName 1) (xCons (xName 0) (xNil))))) (rMake (m_Book K E B) (xCons (xName 0) (xCons (xName 1) (xNil)))))))
    (sRet (xName 3)))
def f_law_heard (K : PySem.W.Frag) (E : Ec 3) (B : Addr) : FP := fpOf (bodyF 3 5 (g_law_heard K E B))
theorem ok_law_heard (T : Txt K mg) : FnOk P w K mg base CX0 7 T.d_law_heard.f T.d_law_heard.fd ["_law_kinds", "_law_openings", "_law_is_named"] (spP K (f_law_heard K T.E T.B)) :=
  fn_defP T.d_law_heard.F sc_law_heard fun cdv A out z H E hr =>
    ss_cons (sx_set (i := 3) sc_law_heard.nd rfl (ex_str))
    (ss_cons (sx_tryAs (i := 4) rfl rfl sc_law_heard.nd rfl rfl ⟨by rfl, by decide, .inl T.mE_BadBook⟩ (exm_of (T.cE 1 (by decide)) (T.cE 1 (by decide)) (by decide) (by decide)) (fun pn xe pw => ss_one (sx_setR (i := 3) sc_law_heard.nd rfl (er_if (eb_tru (ex_name 2)) (er_makeK (ks := ["openings", "kinds"]) (n := 2) T.MB (ok_Book_init T) (hr.mono (by decide)) (by rfl) T.mB T.kB (elk_cons (ex_name 1) (elk_cons (ex_name 0) (elk_nil)))) (er_make T.MB (ok_Book_init T) (hr.mono (by decide)) (by rfl) T.mB T.bB (el_cons (ex_name 0) (el_cons (ex_name 1) (el_nil))))))) (fun ea oe ed pn hz hf => ss_one (sx_set (i := 3) sc_law_heard.nd rfl (ex_if (eb_tru (ex_isP (T.cE 1 (by decide)).xc ((T.cE 1 (by decide)).xi T.oC) List.mem_cons_self hz hf (kit_of (T.cE 1 (by decide)) (T.cE 0 (by decide)) (by decide) (by decide)) (by rfl) T.b_isinstance (ex_name 4) (by rfl) T.mE_CircleError)) (ex_of_new (en_lst (el_cons (ex_str) (el_cons (ex_xf (T.cE 1 (by decide)).xc T.iE_BadBook.no hz hf (ex_name 4)) (el_nil))))) (ex_str)))))
    (ss_one (sx_ret (ex_name 3))))
abbrev n_law_right : List Str := ["_law_kinds", "_law_openings", "_law_is_named", "_law_was", "_law_due", "_law_heard_here"]
theorem sc_law_right : FnScope n_law_right ["_law_kinds", "_law_openings", "_law_is_named"] (defScope s_law_right) := ⟨rfl, rfl, rfl, by decide +kernel, rfl, by decide +kernel, by decide +kernel⟩
def g_law_right (K : PySem.W.Frag) (E : Ec 3) (B : Addr) : SF Z0 :=
  sSeq (sPar 3 4 (xCons (xCall reprT2 (xCons (xTup (xCons (xName 0) (xCons (xName 1) (xNil)))) (xNil))) (xCons (xC T.non) (xNil))))
    (sSeq (sIf (xbNot (xTru (xCallP (f_law_is_kinds) (xCons (xName 0) (xNil))))) (sSet 4 (xLst (xCons (xC (T.str "part")) (xCons (xC (T.str "kinds")) (xNil))))) (sIf (xbNot (xTru (xCallP (f_law_is_openings) (xCons (xName 0) (xCons (xName 1) (xNil)))))) (sSet 4 (xLst (xCons (xC (T.str "part")) (xCons (xC (T.str "openings")) (xNil))))) (sSkip)))
    (sSeq (sSet 5 (xCallP (f_law_heard K E B) (xCons (xName 0) (xCons (xName 1) (xCons (xName 2) (xNil))))))
    (sSeq (sIf (xb (x2 (eqX true) (xCall reprT2 (xCons (xTup (xCons (xName 0) (xCons (xName 1) (xNil)))) (xNil))) (xName 3))) (sRet (xC (T.bl false))) (sSkip))
    (sSeq (sIf (xb (x1 notNT (xName 4))) (sRet (x2 (eqX false) (xCall reprT2 (xCons (xName 5) (xNil))) (xCall reprT2 (xCons (xName 4) (xNil))))) (sSkip))
    (sSeq (sIf (xbOr (xbNot (xTru (xIsC [(B, true)] (xName 5)))) (xb (x2 (eqX true) (xCall reprT2 (xCons (xTup (xCons (xFld [B] "kinds" (xName 5)) (xCons (xFld [B] "openings" (xName 5)) (xNil)))) (xNil))) (xName 3)))) (sRet (xC (T.bl false))) (sSkip))
    (sRet (xAnd (x2 (eqBk K E B) (xName 5) (xGood (rMake (m_Book K E B) (xCons (xName 0) (xCons (xName 1) (xNil)))))) (xAnd (xNot (x2 (eqBk K E B) (xName 5) (xTup (xCons (xName 0) (xCons (xName 1) (xNil)))))) (xNot (x2 (eqBk K E B) (xName 5) (xC (T.int 0))))))))))))
def f_law_right (K : PySem.W.Frag) (E : Ec 3) (B : Addr) : FP := fpOf (bodyF 3 6 (g_law_right K E B))
theorem ok_law_right (T : Txt K mg) : FnG P w K mg base 8 T.d_law_right.f T.d_law_right.fd ["_law_kinds", "_law_openings", "_law_is_named"] (spP K (f_law_right K T.E T.B)) :=
  fn_defGP T.d_law_right.F sc_law_right fun cdv A out z H E gd hr =>
    ss_cons (sx_par (i := 3) (j := 4) rfl sc_law_right.nd rfl rfl (el_cons (ex_callB (call_repr2 gd hr.units) op1_repr2 (by rfl) T.b_repr (el_cons (ex_tup (el_cons (ex_name 0) (el_cons (ex_name 1) (el_nil)))) (el_nil))) (el_cons (ex_non) (el_nil))))
    (ss_cons (sx_if (eb_not (eb_tru (ex_callP (ok_law_is_kinds T) (hr.mono (by decide)) (by rfl) T.d_law_is_kinds.m T.d_law_is_kinds.F.kp T.d_law_is_kinds.b (el_cons (ex_name 0) (el_nil))))) (ss_one (sx_set (i := 4) sc_law_right.nd rfl (ex_of_new (en_lst (el_cons (ex_str) (el_cons (ex_str) (el_nil))))))) (ss_one (sx_if (eb_not (eb_tru (ex_callP (ok_law_is_openings T) (hr.mono (by decide)) (by rfl) T.d_law_is_openings.m T.d_law_is_openings.F.kp T.d_law_is_openings.b (el_cons (ex_name 0) (el_cons (ex_name 1) (el_nil)))))) (ss_one (sx_set (i := 4) sc_law_right.nd rfl (ex_of_new (en_lst (el_cons (ex_str) (el_cons (ex_str) (el_nil))))))) (ss_nil))))
    (ss_cons (sx_set (i := 5) sc_law_right.nd rfl (ex_callP (ok_law_heard T) (hr.mono (by decide)) (by rfl) T.d_law_heard.m T.d_law_heard.F.kp T.d_law_heard.b (el_cons (ex_name 0) (el_cons (ex_name 1) (el_cons (ex_name 2) (el_nil))))))
    (ss_cons (sx_if (eb_cmp (or_ne hr.units) o2_eq (ex_callB (call_repr2 gd hr.units) op1_repr2 (by rfl) T.b_repr (el_cons (ex_tup (el_cons (ex_name 0) (el_cons (ex_name 1) (el_nil)))) (el_nil))) (ex_name 3) (nomark _)) (ss_one (sx_ret (ex_bl))) (ss_nil))
    (ss_cons (sx_if (eb_notN (ex_name 4)) (ss_one (sx_ret (ex_cmp (or_eq hr.units) o2_eq (ex_callB (call_repr2 gd hr.units) op1_repr2 (by rfl) T.b_repr (el_cons (ex_name 5) (el_nil))) (ex_callB (call_repr2 gd hr.units) op1_repr2 (by rfl) T.b_repr (el_cons (ex_name 4) (el_nil))) (nomark _)))) (ss_nil))
    (ss_cons (sx_if (eb_w (ew_or (eb_not (eb_tru (ex_isC T.ktB (by rfl) T.b_isinstance (ex_name 5) (by rfl) T.mB))) (ew_or1 (eb_cmp (or_ne hr.units) o2_eq (ex_callB (call_repr2 gd hr.units) op1_repr2 (by rfl) T.b_repr (el_cons (ex_tup (el_cons (ex_fld (Cs := [T.B]) (List.forall_mem_cons.mpr ⟨⟨T.clB, T.no_kinds⟩, fun _ h => nomatch h⟩) (ex_name 5)) (el_cons (ex_fld (Cs := [T.B]) (List.forall_mem_cons.mpr ⟨⟨T.clB, T.no_openings⟩, fun _ h => nomatch h⟩) (ex_name 5)) (el_nil)))) (el_nil))) (ex_name 3) (nomark _))))) (ss_one (sx_ret (ex_bl))) (ss_nil))
    (ss_one (sx_ret (ex_and (ex_cmp (OpR.or (OpR.or (or_eq hr.units) (op_eqD (hu70 hr))) (op_eqO (ok_Book_eq T) (hr.mono (by decide)) T.hQ T.iQ T.bQ)) (Op2.or (Op2.or o2_eq op2_eqD) (op2_eqO T.ktB T.clB T.xiB)) (ex_name 5) (ex_good (er_make T.MB (ok_Book_init T) (hr.mono (by decide)) (by rfl) T.mB T.bB (el_cons (ex_name 0) (el_cons (ex_name 1) (el_nil))))) (nomark _)) (ex_and (ex_not (ex_cmp (OpR.or (OpR.or (or_eq hr.units) (op_eqD (hu70 hr))) (op_eqO (ok_Book_eq T) (hr.mono (by decide)) T.hQ T.iQ T.bQ)) (Op2.or (Op2.or o2_eq op2_eqD) (op2_eqO T.ktB T.clB T.xiB)) (ex_name 5) (ex_tup (el_cons (ex_name 0) (el_cons (ex_name 1) (el_nil)))) (nomark _))) (ex_bop1 (ex_not (ex_cmp (OpR.or (OpR.or (or_eq hr.units) (op_eqD (hu70 hr))) (op_eqO (ok_Book_eq T) (hr.mono (by decide)) T.hQ T.iQ T.bQ)) (Op2.or (Op2.or o2_eq op2_eqD) (op2_eqO T.ktB T.clB T.xiB)) (ex_name 5) (ex_int) (nomark _)))))))))))))
abbrev n_law : List Str := ["_law_script", "_law_deck_here", "_law_turn", "_law_w", "_law_some", "_law_k", "_law_kinds", "_law_openings", "_law_it", "_law_v", "_law_one", "_law_other"]
theorem sc_law : FnScope n_law ["_law_script"] (defScope s_law) := ⟨rfl, rfl, rfl, by decide +kernel, rfl, by decide +kernel, by decide +kernel⟩
def g_law (K : PySem.W.Frag) (E : Ec 3) (B : Addr) (d c : Addr) : SF (deckZ d c) :=
  sSeq (sForE (iRng (xC (T.int 4))) (gSet 2) (sSeq (sSet 3 (xCallF (f_law_plan d c) (xCons (xName 1) (xNil))))
    (sSeq (sSetO 4 (xLst (xCons (xTup (xCons (x2 dgetT (xName 3) (xC (T.str "kinds"))) (xCons (x2 dgetT (xName 3) (xC (T.str "openings"))) (xNil)))) (xNil))))
    (sSeq (sForE (iRng (xC (T.int 6))) (gSet 5) (sSeq (sAsg (xIf (xb (x2 ltX (xName 5) (xC (T.int 4)))) (xIxO 4 (xC (T.int 0))) (xIxO 4 (x1 negI (xC (T.int 1))))) (gTupT 2 (gsCons (gSet 6) (gsCons (gSet 7) (gsNil)))))
    (sSeq (sIf (xb (x2 (eqX false) (xCallF (drawT dp dq d c) (xCons (xName 1) (xCons (xC (T.int 3)) (xNil)))) (xC (T.int 0)))) (sSet 6 (xCallF (f_law_bent d c 5) (xCons (xName 1) (xCons (xName 6) (xCons (xC (T.int 2)) (xNil)))))) (sSet 7 (xCallF (f_law_bent d c 5) (xCons (xName 1) (xCons (xName 7) (xCons (xC (T.int 4)) (xNil)))))))
    (sDropO (oApp 4 (oPure (xTup (xCons (xName 6) (xCons (xName 7) (xNil))))))))))
    (sFreeze 4 (sSeq (sIf (xb (x2 (eqX true) (xLc [5, 8] (iEnumT (xName 4)) (gTupT 2 (gsCons (gSet 5) (gsCons (gSet 8) gsNil))) (xbNot (xTru (xCallP (f_law_right K E B) (xCons (x2 ixT (xName 8) (xC (T.int 0))) (xCons (x2 ixT (xName 8) (xC (T.int 1))) (xCons (x2 (eqX false) (x2 modI (xName 5) (xC (T.int 2))) (xC (T.int 0))) (xNil))))))) (xName 5)) (xLst (xNil)))) (sRet (xC (T.bl false))) (sSkip))
    (sSeq (sSet 9 (xCallF (f_law_plan d c) (xCons (xName 1) (xNil))))
    (sSeq (sPar 10 11 (xCons (xGood (rMake (m_Book K E B) (xCons (x2 dgetT (xName 3) (xC (T.str "kinds"))) (xCons (x2 dgetT (xName 3) (xC (T.str "openings"))) (xNil))))) (xCons (xGood (rMake (m_Book K E B) (xCons (x2 dgetT (xName 9) (xC (T.str "kinds"))) (xCons (x2 dgetT (xName 9) (xC (T.str "openings"))) (xNil))))) (xNil))))
    (sIf (xb (x2 (eqX true) (x2 (eqBk K E B) (xName 10) (xName 11)) (x2 (eqBk K E B) (xName 3) (xName 9)))) (sRet (xC (T.bl false))) (sSkip))))))))))
    (sSeq (sSet 3 (xCallP (f_law_standard) xNil))
    (sRet (x2 (eqX false) (xCall reprT2 (xCons (xLst (xCons (xFld [B] "kinds" (xCallP (f_standard_book K E B) xNil)) (xCons (xFld [B] "openings" (xCallP (f_standard_book K E B) xNil)) (xNil)))) (xNil))) (xCall reprT2 (xCons (xLst (xCons (x2 dgetT (xName 3) (xC (T.str "kinds"))) (xCons (x2 dgetT (xName 3) (xC (T.str "openings"))) (xNil)))) (xNil))))))
theorem rest_law (T : Txt K mg) (d c f : Addr) (cdv : Value) (A : Around) (out : List Env) (z : Shared) (H : Hp) (E : XK) (gd : A.guards = some []) (hr : Room 8 (A.deeper (envOfC "law" (defScope s_law) z.heap.objs.size f cdv))) :
    SS (cxOf CX0 P w K mg base n_law "law" (defScope s_law) f cdv A out z H E).nox (deckZ d c) ((defBody s_law).drop 1) (g_law K T.E T.B d c) :=
    ss_cons (sx_for PassesOwn.never rfl (ix_rng (by rfl) T.b_range (ex_int)) (gx_name sc_law.nd) (ss_cons (sx_set (i := 3) sc_law.nd rfl (ex_call (ok_law_plan T d c) (hr.mono (by decide)) (by rfl) T.d_law_plan.m T.d_law_plan.F.kp T.d_law_plan.b (el_cons (ex_name 1) (el_nil))))
    (ss_cons (sx_setO (i := 4) sc_law.nd rfl (en_lst (el_cons (ex_tup (el_cons (ex_dget (hu_of hr) (ex_name 3) (ex_str)) (el_cons (ex_dget (hu_of hr) (ex_name 3) (ex_str)) (el_nil)))) (el_nil))))
    (ss_cons (sx_for PassesOwn.never rfl (ix_rng (by rfl) T.b_range (ex_int)) (gx_name sc_law.nd) (ss_cons (sx_asg (ex_if (eb_cmp or_lt o2_lt (ex_name 5) (ex_int) (nomark _)) (ex_ixO 4 (ex_int)) (ex_ixO 4 (ex_neg ex_int))) (gx_tup rfl (gxs_cons (gx_name sc_law.nd) (gxs_cons (gx_name sc_law.nd) (gxs_nil)))))
    (ss_cons (sx_if (eb_cmp (or_eq hr.units) o2_eq (ex_call (ok_draw T.d_law_draw.F ⟨T.b_int, T.b_list⟩ d c) (hr.mono (by decide)) (by rfl) T.d_law_draw.m T.d_law_draw.F.kp T.d_law_draw.b (el_cons (ex_name 1) (el_cons (ex_int) (el_nil)))) (ex_int) (nomark _)) (ss_one (sx_set (i := 6) sc_law.nd rfl (ex_call (ok_law_bent T d c 5) (hr.mono (by decide)) (by rfl) T.d_law_bent.m T.d_law_bent.F.kp T.d_law_bent.b (el_cons (ex_name 1) (el_cons (ex_name 6) (el_cons (ex_int) (el_nil))))))) (ss_one (sx_set (i := 7) sc_law.nd rfl (ex_call (ok_law_bent T d c 5) (hr.mono (by decide)) (by rfl) T.d_law_bent.m T.d_law_bent.F.kp T.d_law_bent.b (el_cons (ex_name 1) (el_cons (ex_name 7) (el_cons (ex_int) (el_nil))))))))
    (ss_one (sx_exprO (xo_app 4 (xo_of (ex_tup (el_cons (ex_name 6) (el_cons (ex_name 7) (el_nil)))))))))))
    (ss_freeze 4 (ss_cons (sx_if (eb_cmp (or_ne hr.units) o2_eq (ex_of_new (en_lc (own := [("_law_k", 5), ("_law_it", 8)]) rfl sc_law.nd (ix_enum (by rfl) T.b_enumerate (ex_name 4)) (blkOk_by (own := [("_law_k", 5), ("_law_it", 8)]) (N := n_law) (sc := defScope s_law) (by decide +kernel)) (gb_two sc_law.nd rfl rfl (by decide) (fun _ _ => by first | exact Or.inl rfl | exact Or.inr rfl) (fun _ _ => by first | exact Or.inr rfl | exact Or.inl rfl) (fun _ _ => by first | exact Or.inl rfl | exact Or.inr rfl) (fun _ _ => by first | exact Or.inr rfl | exact Or.inl rfl)) rfl (fun _ _ _ _ _ => ets_one (eb_not (eb_tru (ex_callGP (ok_law_right T) gd (hr.mono (by decide)) (by rfl) T.d_law_right.m T.d_law_right.F.kp T.d_law_right.b (el_cons (ex_ix ix_seq op2_ix (ex_name 8) (ex_int)) (el_cons (ex_ix ix_seq op2_ix (ex_name 8) (ex_int)) (el_cons (ex_cmp (or_eq hr.units) o2_eq (ex_mod (ex_name 5) (ex_int)) (ex_int) (nomark _)) (el_nil)))))))) (fun _ _ _ _ _ => ex_name 5))) (ex_of_new (en_lst (el_nil))) (nomark _)) (ss_one (sx_ret (ex_bl))) (ss_nil))
    (ss_cons (sx_set (i := 9) sc_law.nd rfl (ex_call (ok_law_plan T d c) (hr.mono (by decide)) (by rfl) T.d_law_plan.m T.d_law_plan.F.kp T.d_law_plan.b (el_cons (ex_name 1) (el_nil))))
    (ss_cons (sx_par (i := 10) (j := 11) rfl sc_law.nd rfl rfl (el_cons (ex_good (er_make T.MB (ok_Book_init T) (hr.mono (by decide)) (by rfl) T.mB T.bB (el_cons (ex_dget (hu_of hr) (ex_name 3) (ex_str)) (el_cons (ex_dget (hu_of hr) (ex_name 3) (ex_str)) (el_nil))))) (el_cons (ex_good (er_make T.MB (ok_Book_init T) (hr.mono (by decide)) (by rfl) T.mB T.bB (el_cons (ex_dget (hu_of hr) (ex_name 9) (ex_str)) (el_cons (ex_dget (hu_of hr) (ex_name 9) (ex_str)) (el_nil))))) (el_nil))))
    (ss_one (sx_if (eb_cmp (or_ne hr.units) o2_eq (ex_cmp (OpR.or (OpR.or (or_eq hr.units) (op_eqD (hu70 hr))) (op_eqO (ok_Book_eq T) (hr.mono (by decide)) T.hQ T.iQ T.bQ)) (Op2.or (Op2.or o2_eq op2_eqD) (op2_eqO T.ktB T.clB T.xiB)) (ex_name 10) (ex_name 11) (nomark _)) (ex_cmp (OpR.or (OpR.or (or_eq hr.units) (op_eqD (hu70 hr))) (op_eqO (ok_Book_eq T) (hr.mono (by decide)) T.hQ T.iQ T.bQ)) (Op2.or (Op2.or o2_eq op2_eqD) (op2_eqO T.ktB T.clB T.xiB)) (ex_name 3) (ex_name 9) (nomark _)) (nomark _)) (ss_one (sx_ret (ex_bl))) (ss_nil)))))))))))
    (ss_cons (sx_set (i := 3) sc_law.nd rfl (ex_callP0 (ok_law_standard T) (hr.mono (by decide)) (by rfl) T.d_law_standard.m T.d_law_standard.F.kp T.d_law_standard.b))
    (ss_one (sx_ret (ex_cmp (or_eq hr.units) o2_eq (ex_callB (call_repr2 gd hr.units) op1_repr2 (by rfl) T.b_repr (el_cons (ex_of_new (en_lst (el_cons (ex_fld (Cs := [T.B]) (List.forall_mem_cons.mpr ⟨⟨T.clB, T.no_kinds⟩, fun _ h => nomatch h⟩) (ex_callP0 (ok_standard_book T) (hr.mono (by decide)) (by rfl) T.d_standard_book.m T.d_standard_book.F.kp T.d_standard_book.b)) (el_cons (ex_fld (Cs := [T.B]) (List.forall_mem_cons.mpr ⟨⟨T.clB, T.no_openings⟩, fun _ h => nomatch h⟩) (ex_callP0 (ok_standard_book T) (hr.mono (by decide)) (by rfl) T.d_standard_book.m T.d_standard_book.F.kp T.d_standard_book.b)) (el_nil))))) (el_nil))) (ex_callB (call_repr2 gd hr.units) op1_repr2 (by rfl) T.b_repr (el_cons (ex_of_new (en_lst (el_cons (ex_dget (hu_of hr) (ex_name 3) (ex_str)) (el_cons (ex_dget (hu_of hr) (ex_name 3) (ex_str)) (el_nil))))) (el_nil))) (nomark _)))))
end
end L2.TL
-- builtins ['all', 'bool', 'dict', 'enumerate', 'int', 'isinstance', 'len', 'list', 'range', 'repr', 'sorted', 'str', 'tuple'] consts ['LONGEST', 'MOST_NEEDS', 'MOST_PARTS']
-- classes 3 CircleError BadBook BadText
-- G ['_law_right', 'law']
-- levels {'is_whole': 1, 'ascends': 1, 'is_word': 1, 'is_kind': 2, 'are_kinds': 3, 'is_single': 1, 'is_need': 2, 'is_opening': 3, 'are_openings': 4, 'standard_book': 7, 'Book.__init__': 5, '_law_deck': 1, '_law_draw': 1, '_law_pick': 2, '_law_is_word': 1, '_law_standard': 1, '_law_need': 3, '_law_plan': 4, '_law_is_whole': 1, '_law_is_kinds': 2, '_law_is_need': 2, '_law_is_openings': 3, '_law_bent': 8, '_law_heard': 7, '_law_right': 8, 'Book.__eq__': 1, 'law': 9}
namespace L2.TL
open PySem PySem.Spec
open PyProof.Rows
def lo (c : Nat) : Bool := decide (97 ≤ c) && decide (c ≤ 122)
def up (c : Nat) : Bool := decide (65 ≤ c) && decide (c ≤ 90)
def di (c : Nat) : Bool := decide (48 ≤ c) && decide (c ≤ 57)
theorem u_alpha : (List.range 128).all (fun c => Unicode.isAlpha c == (lo c || up c)) = true := by decide +kernel
theorem u_upper : (List.range 128).all (fun c => Unicode.isUpper c == up c) = true := by decide +kernel
theorem u_lower : (List.range 128).all (fun c => Unicode.isLower c == lo c) = true := by decide +kernel
theorem u_title : (List.range 128).all (fun c => Unicode.isTitle c == false) = true := by decide +kernel
abbrev ltS : Str := Str.ofString "abcdefghijklmnopqrstuvwxyz"
theorem tab {p q : Nat → Bool} (h : (List.range 128).all (fun c => p c == q c) = true) {c : Nat} (hc : c < 128) : p c = q c := by
  have := List.all_eq_true.mp h c (List.mem_range.mpr hc)
  simpa using this
theorem m_lt : (List.range 128).all (fun c => decide (c ∈ ltS.cps.toList) == lo c) = true := by decide +kernel
theorem b_lt : ltS.cps.toList.all (fun c => decide (c < 128)) = true := by decide +kernel
theorem mem_lt {l : List Nat} {p : Nat → Bool} (h : (List.range 128).all (fun c => decide (c ∈ l) == p c) = true) (b : l.all (fun c => decide (c < 128)) = true) (c : Nat) : decide (c ∈ l) = (decide (c < 128) && p c) := by
  by_cases hc : c < 128
  · have e : decide (c ∈ l) = p c := tab (p := fun c => decide (c ∈ l)) h hc
    rw [e]
    simp [hc]
  · have : ¬ c ∈ l := fun m => hc (of_decide_eq_true (List.all_eq_true.mp b c m))
    simp [this, hc]
theorem ascii_all (x : Str) : Txt.isascii x = x.cps.toList.all fun c => decide (c < 128) := by
  unfold Txt.isascii
  rw [← Array.all_toList]
theorem all_congr {l : List Nat} {p q : Nat → Bool} (h : ∀ c ∈ l, p c = q c) : l.all p = l.all q := by
  induction l with
  | nil => rfl
  | cons a r ih => rw [List.all_cons, List.all_cons, h a (by simp), ih fun c hc => h c (by simp [hc])]
theorem any_congr {l : List Nat} {p q : Nat → Bool} (h : ∀ c ∈ l, p c = q c) : l.any p = l.any q := by
  induction l with
  | nil => rfl
  | cons a r ih => rw [List.any_cons, List.any_cons, h a (by simp), ih fun c hc => h c (by simp [hc])]
theorem word_math (x : Str) (h1 : 1 ≤ x.length) : (Txt.isascii x && Txt.isalpha x && Txt.islower x) = x.cps.toList.all fun c => decide (c ∈ ltS.cps.toList) := by
  have hne : x.cps.toList ≠ [] := by
    intro e
    unfold Str.length at h1
    rw [← Array.length_toList, e] at h1
    exact absurd h1 (by decide)
  have hpos : decide (x.length > 0) = true := decide_eq_true h1
  rw [all_congr fun c _ => mem_lt m_lt b_lt c, ascii_all]
  unfold Txt.isalpha Txt.islower
  rw [hpos, Bool.true_and, ← Array.all_toList, ← Array.any_toList, ← Array.any_toList]
  generalize x.cps.toList = l at hne
  cases ha : l.all fun c => decide (c < 128) with
  | false =>
    rw [Bool.false_and, Bool.false_and]
    obtain ⟨c, hc, hn⟩ := List.all_eq_false.mp ha
    symm
    exact List.all_eq_false.mpr ⟨c, hc, by simp at hn; simp; omega⟩
  | true =>
    have small : ∀ c ∈ l, c < 128 := fun c hc => of_decide_eq_true (List.all_eq_true.mp ha c hc)
    have eA : l.all Unicode.isAlpha = l.all fun c => lo c || up c := all_congr fun c hc => tab u_alpha (small c hc)
    have eL : l.any Unicode.isLower = l.any lo := any_congr fun c hc => tab u_lower (small c hc)
    have eU : (l.any fun c => Unicode.isUpper c || Unicode.isTitle c) = l.any up := any_congr fun c hc => by
      have e1 := tab u_upper (small c hc)
      have e2 : Unicode.isTitle c = false := tab (q := fun _ => false) u_title (small c hc)
      rw [e1, e2, Bool.or_false]
    have eR : (l.all fun c => decide (c < 128) && lo c) = l.all lo := all_congr fun c hc => by simp [small c hc]
    rw [eA, eL, eU, eR, Bool.true_and]
    cases hl : l.all lo with
    | true =>
      have hlo : ∀ c ∈ l, lo c = true := fun c hc => List.all_eq_true.mp hl c hc
      have e1 : (l.all fun c => lo c || up c) = true := List.all_eq_true.mpr fun c hc => by rw [hlo c hc]; rfl
      have e2 : l.any lo = true := by
        cases l with
        | nil => exact absurd rfl hne
        | cons a r => rw [List.any_cons, hlo a (by simp)]; rfl
      have e3 : l.any up = false := List.any_eq_false.mpr fun c hc => by
        have := hlo c hc
        unfold lo at this
        unfold up
        simp at this ⊢
        omega
      rw [e1, e2, e3]
      rfl
    | false =>
      obtain ⟨c, hc, hn⟩ := List.all_eq_false.mp hl
      cases hu : up c with
      | true =>
        have e3 : l.any up = true := List.any_eq_true.mpr ⟨c, hc, hu⟩
        rw [e3]
        simp
      | false =>
        have e1 : (l.all fun c => lo c || up c) = false := List.all_eq_false.mpr ⟨c, hc, by simp at hn; simp [hn, hu]⟩
        rw [e1]
        rfl
def lenB (x : Str) : Bool := decide (1 ≤ x.length) && decide (x.length ≤ 8)
theorem is_word_str (x : Str) (hx : x.length ≤ 1000) : f_is_word [.str x] = some (.bl (lenB x && Txt.isascii x && Txt.isalpha x && Txt.islower x)) := by
  have hz : x.length ≤ sizeLine := by rw [sizeLine_eq]; omega
  unfold lenB
  by_cases h1 : 1 ≤ x.length
  · by_cases h2 : x.length ≤ 8
    · have e1 : (1 : Int) ≤ x.length := by omega
      have e2 : (x.length : Int) ≤ 8 := by omega
      cases ha : Txt.isascii x <;> cases hb : Txt.isalpha x <;> cases hc : Txt.islower x <;>
      simp [f_is_word, fpOf, bodyF, g_is_word, sSeq, sIf, xbOr, xbNot, xTru, xIs, xName, isTy, tyName, tru, xb, x3, xC, xCall, xCons, xNil, lenT, leX, orT, cmpI, sRet, sSkip, hz, e1, e2, h1, h2, xAnd, xMeth, strMT, ha, hb, hc]
    · have e1 : (1 : Int) ≤ x.length := by omega
      have e2 : ¬ (x.length : Int) ≤ 8 := by omega
      simp [f_is_word, fpOf, bodyF, g_is_word, sSeq, sIf, xbOr, xbNot, xTru, xIs, xName, isTy, tyName, tru, xb, x3, xC, xCall, xCons, xNil, lenT, leX, orT, cmpI, sRet, sSkip, hz, e1, e2, h1, h2]
  · have e1 : ¬ (1 : Int) ≤ x.length := by omega
    simp [f_is_word, fpOf, bodyF, g_is_word, sSeq, sIf, xbOr, xbNot, xTru, xIs, xName, isTy, tyName, tru, xb, x3, xC, xCall, xCons, xNil, lenT, leX, orT, cmpI, sRet, sSkip, hz, e1, h1]
def oddP (z : Str) : T → Bool := fun t => match t with
  | .str ⟨⟨[c]⟩⟩ => !decide (c ∈ z.cps.toList)
  | _ => false
theorem odd_filter (y z : Str) : ((signs y).filter (oddP z)).isEmpty = y.cps.toList.all fun c => decide (c ∈ z.cps.toList) := by
  unfold signs
  generalize y.cps.toList = l
  induction l with
  | nil => rfl
  | cons c r ih =>
    rw [List.map_cons, List.filter_cons]
    have e : oddP z (.str ⟨#[c]⟩) = !decide (c ∈ z.cps.toList) := rfl
    rw [e, List.all_cons]
    cases decide (c ∈ z.cps.toList) with
    | true =>
      rw [Bool.true_and, ← ih]
      rfl
    | false => rfl
theorem no_odd (y z : Str) (hy : ∀ c ∈ y.cps.toList, c < 1114112) : eqX false (.lst ((signs y).filter (oddP z))) (.lst []) = some (.bl (y.cps.toList.all fun c => decide (c ∈ z.cps.toList))) := by
  rw [eq_nil, ← odd_filter]
  · rfl
  · intro t ht
    have := (List.mem_filter.mp ht).1
    unfold signs at this
    obtain ⟨c, hc, rfl⟩ := List.mem_map.mp this
    refine ⟨rfl, ?_, Nat.zero_le _⟩
    have := hy c hc
    show ((#[c] : Array Nat).all fun c => decide (c < 0x110000)) = true
    simp
    omega
theorem odd_go {Z : Res} (y z : Str) (i : Nat) (τ : List SV) (s : Z.S) (j : Nat) (hi : i < τ.length) (hj : τ[j]? = some (.im (.str z))) (hij : j ≠ i) : lcGo (gSet i) (xb (x2 (inXD true) (xName i) (xName j))) (xName i) τ (signs y) s = some ((signs y).filter (oddP z), s) := by
  refine lcGo_filter (signs y) fun a ha => ?_
  unfold signs at ha
  obtain ⟨c, hc, rfl⟩ := List.mem_map.mp ha
  refine ⟨τ.set i (.im (.str ⟨#[c]⟩)), by unfold gSet; rw [if_pos hi], ?_, ?_⟩
  · unfold xb x2 xName
    rw [List.getElem?_set_self hi, List.getElem?_set_ne (fun e => hij e.symm), hj]
    rfl
  · unfold xName
    rw [List.getElem?_set_self hi]
theorem comp_odd {Z : Res} {y z : Str} {i j : Nat} {f : EFs Z} {τ : List SV} {s : Z.S} (hf : f τ s = some (signs y, s)) (hi : τ[i]? = some .un) (hw : wipeT τ [i] = τ) (hj : τ[j]? = some (.im (.str z))) (hij : j ≠ i) (hy : y.length ≤ 1000) (hc : ∀ c ∈ y.cps.toList, c < 1114112) :
    x2 (eqX false) (xLc [i] f (gSet i) (xb (x2 (inXD true) (xName i) (xName j))) (xName i)) (xLst xNil) τ s = some (.bl (y.cps.toList.all fun c => decide (c ∈ z.cps.toList)), s) := by
  have hl : i < τ.length := (List.getElem?_eq_some_iff.mp hi).1
  have h1 : (signs y).length ≤ sizeLine := by
    rw [signs_len, sizeLine_eq]
    omega
  have go := odd_go (Z := Z) y z i τ s j hl hj hij
  have h2 : ([i].all fun v => match τ[v]? with
      | some x => !isOw x
      | none => true) = true := by simp [hi, isOw]
  exact ev_x2 (ev_lc hf h1 h2 (by rw [hw]; exact go)) (ev_lst ev_nil (Nat.zero_le _)) (no_odd y z hc)
theorem law_is_word_str (x : Str) (hx : x.length ≤ 1000) (hc : ∀ c ∈ x.cps.toList, c < 1114112) : f_law_is_word [.str x] = some (.bl (lenB x && x.cps.toList.all fun c => decide (c ∈ (Str.ofString "abcdefghijklmnopqrstuvwxyz").cps.toList))) := by
  have hz : x.length ≤ sizeLine := by rw [sizeLine_eq]; omega
  unfold lenB
  by_cases h1 : 1 ≤ x.length
  · have e0 : 0 < x.length := h1
    by_cases h2 : x.length ≤ 8
    · have e2 : x.length < 9 := by omega
      have e3 : (x.length : Int) < 9 := by omega
      have co := comp_odd (Z := Z0) (y := x) (z := Str.ofString "abcdefghijklmnopqrstuvwxyz") (i := 2) (j := 1) (f := iStr (xName 0)) (τ := [SV.im (T.str x), SV.im (T.str (Str.ofString "abcdefghijklmnopqrstuvwxyz")), SV.un]) (s := ()) rfl rfl rfl rfl (by decide) hx hc
      simp [f_law_is_word, fpOf, bodyF, g_law_is_word, sSeq, sSet, xName, xIs, isTy, tyName, tru, x3, xC, xCall, xCons, xNil, lenT, ltX, orT, cmpI, sRet, hz, e0, e2, e3, h1, h2, xAnd, co]
    · have e2 : ¬ x.length < 9 := by omega
      have e3 : ¬ (x.length : Int) < 9 := by omega
      simp [f_law_is_word, fpOf, bodyF, g_law_is_word, sSeq, sSet, xName, xIs, isTy, tyName, tru, x3, xC, xCall, xCons, xNil, lenT, ltX, orT, cmpI, sRet, hz, e0, e2, e3, h1, h2, xAnd]
  · have e0 : ¬ 0 < x.length := by omega
    simp [f_law_is_word, fpOf, bodyF, g_law_is_word, sSeq, sSet, xName, xIs, isTy, tyName, tru, x3, xC, xCall, xCons, xNil, lenT, ltX, orT, cmpI, sRet, hz, e0, h1, xAnd]
/-- a word -/
def wordB (x : Str) : Bool := lenB x && x.cps.toList.all fun c => decide (c ∈ ltS.cps.toList)
/-- a text that may be drawn -/
def Sm (x : Str) : Prop := x.length ≤ 1000 ∧ ∀ c ∈ x.cps.toList, c < 1114112
theorem word_p (x : Str) (h : Sm x) : f_is_word [.str x] = some (.bl (wordB x)) := by
  rw [is_word_str x h.1]
  unfold wordB
  by_cases h1 : lenB x = true
  · have : 1 ≤ x.length := by
      unfold lenB at h1
      rw [Bool.and_eq_true, decide_eq_true_eq] at h1
      exact h1.1
    rw [h1, Bool.true_and, Bool.true_and, word_math x this]
  · have : lenB x = false := by simpa using h1
    rw [this]
    rfl
theorem word_l (x : Str) (h : Sm x) : f_law_is_word [.str x] = some (.bl (wordB x)) := law_is_word_str x h.1 h.2
theorem word_no {t : T} {m : String} (ht : tyName t = some m) (hm : (m == "str") = false) : f_is_word [t] = some (.bl false) ∧ f_law_is_word [t] = some (.bl false) := by
  have hi : isTy "str" t = some false := by
    unfold isTy
    simp only [ht]
    have : (m == "bool" && "str" == "int") = false := by
      have : ("str" == "int") = false := by decide
      rw [this, Bool.and_false]
    rw [hm, this]
    rfl
  exact ⟨ev_fp rfl (ev_seq_rt (ev_if_t (ev_or_t (ev_bnot (k := false) (ev_tru (ev_is (ev_name rfl) hi) rfl))) (ev_ret rfl))), ev_fp rfl (ev_seq (ev_set rfl (by simp)) (ev_ret (ev_and_f (a := .bl false) (ev_is (ev_name rfl) hi) rfl)))⟩
/-- whether a tree is a word -/
def isWord : T → Bool
  | .str x => wordB x
  | _ => false
end L2.TL
namespace L2.TL
open PySem PySem.Spec
open PyProof.Rows
theorem sz {n : Nat} (h : n ≤ 100000) : n ≤ sizeLine := Nat.le_trans h (by rw [sizeLine_eq]; decide)
mutual
/-- what may come of bending -/
def bT : T → Prop
  | .non => True
  | .bl _ => True
  | .int i => i.natAbs < 10 ^ 45
  | .str x => Sm x
  | .tup ts => bL ts ∧ ts.length ≤ 1000
  | .lst ts => bL ts ∧ ts.length ≤ 1000
  | .dct ps => ps = []
  | _ => False
def bL : List T → Prop
  | [] => True
  | t :: r => bT t ∧ bL r
end
theorem bL_mem : ∀ {ts : List T} {t : T}, bL ts → t ∈ ts → bT t
  | _ :: _, _, h, hm => by
    rcases List.mem_cons.mp hm with rfl | hm
    · exact h.1
    · exact bL_mem h.2 hm
/-- a whole number from lo, below hi -/
def wholeB (lo hi : Int) : T → Bool
  | .int n => decide (lo ≤ n) && decide (n < hi)
  | _ => false
theorem whole_p (t : T) (h : bT t) (lo hi : Int) : f_is_whole [t, .int lo, .int hi] = some (.bl (wholeB lo hi t)) := by
  cases t with
  | int n =>
    by_cases h1 : lo ≤ n <;> by_cases h2 : n < hi <;>
    simp [f_is_whole, fpOf, bodyF, g_is_whole, sRet, xAnd, xIs, xName, isTy, tyName, tru, xNot, xTru, x3, leX, ltX, orT, cmpI, wholeB, h1, h2]
  | bl b => rfl
  | non => rfl
  | str x => rfl
  | tup ts => rfl
  | lst ts => rfl
  | dct ps => rfl
  | _ => exact h.elim
theorem whole_l (t : T) (h : bT t) (lo hi : Int) : f_law_is_whole [t, .int lo, .int hi] = some (.bl (wholeB lo (hi + 1) t)) := by
  cases t with
  | int n =>
    have e : decide (n < hi + 1) = decide (n ≤ hi) := by
      by_cases h2 : n ≤ hi
      · rw [decide_eq_true h2, decide_eq_true (by omega)]
      · rw [decide_eq_false h2, decide_eq_false (by omega)]
    by_cases h1 : lo ≤ n <;> by_cases h2 : n ≤ hi <;>
    simp [f_law_is_whole, fpOf, bodyF, g_law_is_whole, sRet, xAnd, xIs, xName, isTy, tyName, tru, xNot, xTru, x3, leX, ltX, orT, cmpI, wholeB, e, h1, h2]
  | bl b => rfl
  | non => rfl
  | str x => rfl
  | tup ts => rfl
  | lst ts => rfl
  | dct ps => rfl
  | _ => exact h.elim
theorem word_t (t : T) (h : bT t) : f_is_word [t] = some (.bl (isWord t)) ∧ f_law_is_word [t] = some (.bl (isWord t)) := by
  cases t with
  | str x => exact ⟨word_p x h, word_l x h⟩
  | non => exact word_no (m := "NoneType") rfl (by decide)
  | bl b => exact word_no (m := "bool") rfl (by decide)
  | int b => exact word_no (m := "int") rfl (by decide)
  | tup b => exact word_no (m := "tuple") rfl (by decide)
  | lst b => exact word_no (m := "list") rfl (by decide)
  | dct b => exact word_no (m := "dict") rfl (by decide)
  | _ => exact h.elim
/-- a kind -/
def kindB : T → Bool
  | .tup [a, b] => isWord a && wholeB 1 4 b
  | _ => false
theorem len_tup {Z : Res} {τ : List SV} {s : Z.S} {i : Nat} {ts : List T} (h : τ[i]? = some (.im (.tup ts))) : xCall (Z := Z) lenT (xCons (xName i) xNil) τ s = some (.int ts.length, s) := ev_call (ev_cons (ev_name h) ev_nil) rfl
theorem not_tup {Z : Res} {τ : List SV} {s : Z.S} {i : Nat} {ts : List T} (h : τ[i]? = some (.im (.tup ts))) : xbNot (xTru (xIs "tuple" (xName (Z := Z) i))) τ s = some (false, s) := ev_bnot (k := true) (ev_tru (ev_is (ev_name h) rfl) rfl)
theorem kind_p (t : T) (h : bT t) : f_is_kind [t] = some (.bl (kindB t)) := by
  cases t with
  | tup ts =>
    have hb := h.1
    match ts, hb with
    | [a, b], hb =>
      obtain ⟨ha, hb, _⟩ := hb
      have e1 := (word_t a ha).1
      have e2 := whole_p b hb 1 4
      refine ev_fp rfl (ev_seq (ev_if_f (ev_or_f (not_tup (Z := Z0) rfl) (ev_xb (ev_x2 (len_tup rfl) rfl (by rw [eq_int]; rfl)))) rfl) (ev_ret ?_))
      have w : xCallP (Z := Z0) f_is_word (xCons (x2 ixT (xName 0) (xC (T.int 0))) xNil) [.im (.tup [a, b])] () = some (.bl (isWord a), ()) := ev_callP (Z := Z0) (s1 := (() : Z0.S)) (ev_cons (ev_x2 (ev_name rfl) rfl rfl) ev_nil) e1
      cases hw : isWord a with
      | false =>
        rw [hw] at w
        show xAnd (Z := Z0) _ _ [SV.im (.tup [a, b])] () = some (T.bl (isWord a && wholeB 1 4 b), ())
        rw [hw]
        exact ev_and_f w rfl
      | true =>
        rw [hw] at w
        show xAnd (Z := Z0) _ _ [SV.im (.tup [a, b])] () = some (T.bl (isWord a && wholeB 1 4 b), ())
        rw [hw, Bool.true_and]
        exact ev_and_t w rfl (ev_callP (Z := Z0) (s1 := (() : Z0.S)) (ev_cons (ev_x2 (ev_name rfl) rfl rfl) (ev_cons rfl (ev_cons (ev_x2 rfl rfl rfl) ev_nil))) e2)
    | [], _ => exact ev_fp rfl (ev_seq_rt (ev_if_t (ev_or_f (not_tup (Z := Z0) rfl) (ev_xb (ev_x2 (len_tup rfl) rfl (by rw [eq_int]; rfl)))) (ev_ret rfl)))
    | [a], _ => exact ev_fp rfl (ev_seq_rt (ev_if_t (ev_or_f (not_tup (Z := Z0) rfl) (ev_xb (ev_x2 (len_tup rfl) rfl (by rw [eq_int]; rfl)))) (ev_ret rfl)))
    | a :: b :: c :: r, _ =>
      refine ev_fp rfl (ev_seq_rt (ev_if_t (ev_or_f (not_tup (Z := Z0) rfl) (ev_xb (ev_x2 (len_tup rfl) rfl (by
        rw [eq_int]
        have : ¬ (((a :: b :: c :: r).length : Nat) : Int) = 2 := by
          simp only [List.length_cons]
          omega
        simp only [if_true, this, decide_false, Bool.not_false])))) (ev_ret rfl)))
  | str x => rfl
  | non => rfl
  | bl b => rfl
  | int b => rfl
  | lst b => rfl
  | dct b => rfl
  | _ => exact h.elim
end L2.TL
namespace L2.TL
open PySem PySem.Spec
open PyProof.Rows
theorem ev_tupl {Z : Res} {f : EF Z} {τ : List SV} {s s1 : Z.S} {ts : List T} (h : f τ s = some (.tup ts, s1)) : iTupl f τ s = some (ts, s1) := by
  unfold iTupl
  rw [h]
theorem lcGo_mapped {α : Type} {Z : Res} {gt : GF} {fe : EF Z} {τ : List SV} {s : Z.S} {f h : α → T} : ∀ (l : List α), (∀ a ∈ l, ∃ τ', gt (f a) τ = some τ' ∧ fe τ' s = some (h a, s)) → lcGo gt xYes fe τ (l.map f) s = some (l.map h, s)
  | [], _ => rfl
  | a :: r, k => by
    obtain ⟨τ', e1, e2⟩ := k a (List.mem_cons_self ..)
    have e3 := lcGo_mapped r (fun b hb => k b (List.mem_cons_of_mem _ hb))
    have e4 : (xYes (Z := Z) τ' s) = some (true, s) := rfl
    rw [List.map_cons]
    unfold lcGo
    simp only [e1, e4, e2, e3, List.map_cons]
theorem lcGo_kept {α : Type} {Z : Res} {gt : GF} {ft : EFb Z} {fe : EF Z} {τ : List SV} {s : Z.S} {f h : α → T} {p : α → Bool} : ∀ (l : List α), (∀ a ∈ l, ∃ τ', gt (f a) τ = some τ' ∧ ft τ' s = some (p a, s) ∧ fe τ' s = some (h a, s)) →
    lcGo gt ft fe τ (l.map f) s = some ((l.filter p).map h, s)
  | [], _ => rfl
  | a :: r, k => by
    obtain ⟨τ', e1, e2, e4⟩ := k a (List.mem_cons_self ..)
    have e3 := lcGo_kept r (fun b hb => k b (List.mem_cons_of_mem _ hb))
    rw [List.map_cons, List.filter_cons]
    unfold lcGo
    cases hp : p a with
    | true =>
      rw [hp] at e2
      simp only [e1, e2, e4, e3, if_true, List.map_cons]
    | false =>
      rw [hp] at e2
      simp only [e1, e2, e3, Bool.false_eq_true, if_false]
theorem intsFrom_eq : ∀ (n : Nat) (lo : Int), intsFrom lo n = (List.range n).map fun k => T.int (lo + (k : Nat))
  | 0, _ => rfl
  | n + 1, lo => by
    rw [intsFrom, intsFrom_eq n (lo + 1), List.range_succ_eq_map, List.map_cons, List.map_map]
    congr 1
    · simp
    · apply List.map_congr_left
      intro k _
      show T.int (lo + 1 + (k : Nat)) = T.int (lo + ((k + 1 : Nat) : Int))
      congr 1
      omega
theorem bools?_map : ∀ bs : List Bool, bools? (bs.map T.bl) = some bs
  | [] => rfl
  | b :: r => by
    rw [List.map_cons, bools?, bools?_map r]
theorem allT_map (bs : List Bool) : allT [.lst (bs.map T.bl)] = some (.bl (bs.all id)) := by
  unfold allT
  simp only [bools?_map]
/-- each is smaller than the next one -/
def ascB (l : List Str) : Bool := (List.range (l.length - 1)).all fun i => sLt (l.getD i "") (l.getD (i + 1) "")
theorem at_lst {l : List Str} {i : Nat} (h : i < l.length) : ixT (.lst (l.map T.str)) (.int (i : Int)) = some (.str (l.getD i "")) := by
  show atI (l.map T.str) (i : Int) = _
  rw [atI_nat' (by simpa using h)]
  simp [List.getD, h]
theorem ascends_eq (l : List Str) (h : l.length ≤ 1000) : f_ascends [.lst (l.map T.str)] = some (.bl (ascB l)) := by
  have hl : xCall (Z := Z0) lenT (xCons (xName 0) xNil) [.im (.lst (l.map T.str)), .un] () = some (.int l.length, ()) := ev_call (ev_cons (ev_name rfl) ev_nil) (by
    show some (T.int ((l.map T.str).length : Nat)) = _
    rw [List.length_map])
  have r : iRng (Z := Z0) (x2 subI (xCall lenT (xCons (xName 0) xNil)) (xC (T.int 1))) [.im (.lst (l.map T.str)), .un] () = some (intsFrom 0 (l.length - 1), ()) := by
    have e0 : x2 (Z := Z0) subI (xCall lenT (xCons (xName 0) xNil)) (xC (T.int 1)) [.im (.lst (l.map T.str)), .un] () = some (.int ((l.length : Int) - 1), ()) := ev_x2 (op := subI) (b := .int 1) hl rfl rfl
    have e := ev_rng (Z := Z0) (s1 := (() : Z0.S)) (n := (l.length : Int) - 1) e0 ⟨by omega, by omega⟩
    rw [e]
    congr 3
    omega
  have c : xLc (Z := Z0) [1] (iRng (x2 subI (xCall lenT (xCons (xName 0) xNil)) (xC (T.int 1)))) (gSet 1) xYes (x2 ltX (x2 ixT (xName 0) (xName 1)) (x2 ixT (xName 0) (x2 addX (xName 1) (xC (T.int 1))))) [.im (.lst (l.map T.str)), .un] () =
      some (.lst (((List.range (l.length - 1)).map fun i => sLt (l.getD i "") (l.getD (i + 1) "")).map T.bl), ()) := by
    refine ev_lc r (by rw [intsFrom_len]; exact sz (by omega)) rfl ?_
    rw [intsFrom_eq, List.map_map]
    refine lcGo_mapped _ fun i hi => ?_
    have hi := List.mem_range.mp hi
    refine ⟨[.im (.lst (l.map T.str)), .im (.int (0 + (i : Nat)))], rfl, ?_⟩
    rw [Int.zero_add]
    exact ev_x2 (Z := Z0) (s1 := (() : Z0.S)) (s2 := (() : Z0.S)) (ev_x2 (ev_name rfl) (ev_name rfl) (at_lst (by omega))) (ev_x2 (ev_name rfl) (ev_x2 (ev_name rfl) rfl (show addX (.int (i : Int)) (.int 1) = some (.int ((i + 1 : Nat) : Int)) from rfl)) (at_lst (by omega))) rfl
  refine ev_fp rfl (ev_ret (ev_call (ev_cons c ev_nil) ?_))
  rw [allT_map, List.all_map]
  rfl
/-- a pair's word -/
def headS : T → Str
  | .tup (.str x :: _) => x
  | _ => ""
def kindsB : T → Bool
  | .tup ts => !ts.isEmpty && ts.all kindB && ascB (ts.map headS)
  | _ => false
theorem kind_head {t : T} (h : kindB t = true) : ∃ x n, t = .tup [.str x, .int n] ∧ wordB x = true ∧ 1 ≤ n ∧ n ≤ 3 := by
  unfold kindB at h
  split at h
  · rename_i a b
    rw [Bool.and_eq_true] at h
    obtain ⟨h1, h2⟩ := h
    cases a <;> first | (cases h1; done) | skip
    cases b <;> first | (cases h2; done) | skip
    rename_i x n
    have h2 : (decide (1 ≤ n) && decide (n < 4)) = true := h2
    rw [Bool.and_eq_true, decide_eq_true_eq, decide_eq_true_eq] at h2
    exact ⟨x, n, rfl, h1, h2.1, by omega⟩
  · cases h
theorem kinds_p (t : T) (h : bT t) : f_are_kinds [t] = some (.bl (kindsB t)) := by
  cases t with
  | tup ts =>
    obtain ⟨hb, hz⟩ := h
    cases ts with
    | nil => exact ev_fp rfl (ev_seq_rt (ev_if_t (ev_or_f (not_tup (Z := Z0) rfl) (ev_or_t (ev_bnot (k := false) (ev_tru (ev_name rfl) rfl)))) (ev_ret rfl)))
    | cons a r =>
      have c : xLc (Z := Z0) [1] (iTupl (xName 0)) (gSet 1) xYes (xCallP f_is_kind (xCons (xName 1) xNil)) [.im (.tup (a :: r)), .un] () = some (.lst (((a :: r).map kindB).map T.bl), ()) := by
        refine ev_lc (items := a :: r) (s1 := (() : Z0.S)) ?_ (sz (by omega)) rfl ?_
        · exact ev_tupl (Z := Z0) (ev_name rfl)
        · have := lcGo_mapped (Z := Z0) (gt := gSet 1) (fe := xCallP f_is_kind (xCons (xName 1) xNil)) (τ := [.im (.tup (a :: r)), .un]) (s := (() : Z0.S)) (f := id) (h := fun t => T.bl (kindB t)) (a :: r) fun t ht =>
            ⟨[.im (.tup (a :: r)), .im t], rfl, ev_callP (ev_cons (ev_name rfl) ev_nil) (kind_p t (bL_mem hb ht))⟩
          rw [List.map_id] at this
          rw [List.map_map]
          exact this
      have al : xTru (Z := Z0) (xCall allT (xCons (xLc [1] (iTupl (xName 0)) (gSet 1) xYes (xCallP f_is_kind (xCons (xName 1) xNil))) xNil)) [.im (.tup (a :: r)), .un] () = some ((a :: r).all kindB, ()) := by
        refine ev_tru (ev_call (ev_cons c ev_nil) (allT_map _)) ?_
        rw [List.all_map]
        rfl
      have em : xbNot (Z := Z0) (xTru (xName 0)) [.im (.tup (a :: r)), .un] () = some (false, ()) := ev_bnot (k := true) (ev_tru (ev_name rfl) rfl)
      cases hk : (a :: r).all kindB with
      | false =>
        rw [hk] at al
        show _ = some (T.bl (!(a :: r).isEmpty && (a :: r).all kindB && ascB ((a :: r).map headS)))
        rw [hk, Bool.and_false, Bool.false_and]
        exact ev_fp rfl (ev_seq_rt (ev_if_t (ev_or_f (not_tup (Z := Z0) rfl) (ev_or_f em (ev_bnot (k := false) al))) (ev_ret rfl)))
      | true =>
        rw [hk] at al
        show _ = some (T.bl (!(a :: r).isEmpty && (a :: r).all kindB && ascB ((a :: r).map headS)))
        rw [hk]
        have c2 : xLc (Z := Z0) [1] (iTupl (xName 0)) (gSet 1) xYes (x2 ixT (xName 1) (xC (T.int 0))) [.im (.tup (a :: r)), .un] () = some (.lst (((a :: r).map headS).map T.str), ()) := by
          refine ev_lc (items := a :: r) (s1 := (() : Z0.S)) ?_ (sz (by omega)) rfl ?_
          · exact ev_tupl (Z := Z0) (ev_name rfl)
          · have := lcGo_mapped (Z := Z0) (gt := gSet 1) (fe := x2 ixT (xName 1) (xC (T.int 0))) (τ := [.im (.tup (a :: r)), .un]) (s := (() : Z0.S)) (f := id) (h := fun t => T.str (headS t)) (a :: r) fun t ht => by
              obtain ⟨x, n, rfl, _⟩ := kind_head (List.all_eq_true.mp hk t ht)
              exact ⟨[.im (.tup (a :: r)), .im (.tup [.str x, .int n])], rfl, ev_x2 (ev_name rfl) rfl rfl⟩
            rw [List.map_id] at this
            rw [List.map_map]
            exact this
        exact ev_fp rfl (ev_seq (ev_if_f (ev_or_f (not_tup (Z := Z0) rfl) (ev_or_f em (ev_bnot (k := true) al))) rfl) (ev_ret (ev_callP (Z := Z0) (s1 := (() : Z0.S)) (ev_cons c2 ev_nil) (ascends_eq _ (by rw [List.length_map]; exact hz)))))
  | str x => rfl
  | non => rfl
  | bl b => rfl
  | int b => rfl
  | lst b => rfl
  | dct b => rfl
  | _ => exact h.elim
end L2.TL
namespace L2.TL
open PySem PySem.Spec
open PyProof.Rows
theorem eqX_nil {ts : List T} {c : T} {neg : Bool} (h : eqX neg (.tup ts) (.tup []) = some c) : c = .bl (if neg then !ts.isEmpty else ts.isEmpty) := by
  have e : eqX neg (.tup ts) (.tup []) = eqT neg (.tup ts) (.tup []) := rfl
  rw [e] at h
  unfold eqT at h
  split at h
  · cases h
    have : PyData.eqv (T.d (.tup ts)) (T.d (.tup [])) = ts.isEmpty := by
      cases ts with
      | nil => simp [T.d, dL, PyData.eqv, PyData.eqvAll]
      | cons a r => simp [T.d, dL, PyData.eqv, PyData.eqvAll]
    rw [this]
  · cases h
theorem eqY_nil (ts : List T) : eqY (.tup ts) (.tup []) = some (.bl ts.isEmpty) := by
  unfold eqY orT
  cases h : eqX false (.tup ts) (.tup []) with
  | some c =>
    rw [eqX_nil h]
    rfl
  | none => rfl
theorem neY_nil (ts : List T) : neY (.tup ts) (.tup []) = some (.bl (!ts.isEmpty)) := by
  unfold neY orT
  cases h : eqX true (.tup ts) (.tup []) with
  | some c =>
    rw [eqX_nil h]
    rfl
  | none => rfl
theorem ev_rngAB {Z : Res} {f1 f2 : EF Z} {τ : List SV} {s s1 s2 : Z.S} {m n : Int} (h1 : f1 τ s = some (.int m, s1)) (h2 : f2 τ s1 = some (.int n, s2)) (hz : -(2 ^ 62) ≤ m ∧ m < 2 ^ 62 ∧ -(2 ^ 62) ≤ n ∧ n < 2 ^ 62) : iRngAB f1 f2 τ s = some (intsFrom m (n - m).toNat, s2) := by
  unfold iRngAB
  simp only [h1, h2]
  rw [if_pos hz]
theorem sFor_all {Z : Res} {gt : GF} {gb : SF Z} {s : Z.S} {v : T} (p : T → Bool) (Inv : List SV → Prop) : ∀ (items : List T), (∀ a ∈ items, ∀ τ, Inv τ → ∃ τ1, gt a τ = some τ1 ∧ (p a = true → ∃ τ2, gb τ1 s = some (.nx τ2 s) ∧ Inv τ2) ∧ (p a = false → gb τ1 s = some (.rt v s))) →
    ∀ τ, Inv τ → (items.all p = true → ∃ τ2, sFor gt gb items τ s = some (.nx τ2 s) ∧ Inv τ2) ∧ (items.all p = false → sFor gt gb items τ s = some (.rt v s))
  | [], _, τ, i => ⟨fun _ => ⟨τ, rfl, i⟩, fun h => by cases h⟩
  | a :: r, h, τ, i => by
    obtain ⟨τ1, e1, ht, hf⟩ := h a (List.mem_cons_self ..) τ i
    rw [List.all_cons]
    cases hp : p a with
    | false =>
      have e2 := hf hp
      refine ⟨fun z => (by cases z), fun _ => ?_⟩
      unfold sFor
      simp only [e1, e2]
    | true =>
      obtain ⟨τ2, e2, i2⟩ := ht hp
      obtain ⟨h1, h2⟩ := sFor_all p Inv r (fun b hb => h b (List.mem_cons_of_mem _ hb)) τ2 i2
      rw [Bool.true_and]
      refine ⟨fun z => ?_, fun z => ?_⟩
      · obtain ⟨τ3, e3, i3⟩ := h1 z
        refine ⟨τ3, ?_, i3⟩
        unfold sFor
        simp only [e1, e2]
        exact e3
      · unfold sFor
        simp only [e1, e2]
        exact h2 z
abbrev kindBody : SF Z0 := sSeq (sIf (xbOr (xbNot (xTru (xIs "tuple" (xName 1)))) (xbOr (xb (x2 (eqX true) (xCall lenT (xCons (xName 1) (xNil))) (xC (T.int 2)))) (xbNot (xTru (xCallP (f_law_is_word) (xCons (x2 ixT (xName 1) (xC (T.int 0))) (xNil))))))) (sRet (xC (T.bl false))) (sSkip))
    (sIf (xbNot (xTru (xCallP (f_law_is_whole) (xCons (x2 ixT (xName 1) (xC (T.int 1))) (xCons (xC (T.int 1)) (xCons (xC (T.int 3)) (xNil))))))) (sRet (xC (T.bl false))) (sSkip))
theorem kind_body (t : T) (h : bT t) (u : T) : kindBody [.im u, .im t, .un] () = if kindB t = true then some (.nx [.im u, .im t, .un] ()) else some (.rt (.bl false) ()) := by
  have no : ∀ m, tyName t = some m → (m == "tuple") = false → kindBody [.im u, .im t, .un] () = some (.rt (.bl false) ()) := fun m ht hm => by
    have hi : isTy "tuple" t = some false := by
      unfold isTy
      simp only [ht]
      have : (m == "bool" && "tuple" == "int") = false := by
        have : ("tuple" == "int") = false := by decide
        rw [this, Bool.and_false]
      rw [hm, this]
      rfl
    exact ev_seq_rt (ev_if_t (ev_or_t (ev_bnot (k := false) (ev_tru (ev_is (ev_name rfl) hi) rfl))) (ev_ret rfl))
  cases t with
  | tup ts =>
    have hb := h.1
    match ts, hb with
    | [a, b], hb =>
      obtain ⟨ha, hb, _⟩ := hb
      have e1 := (word_t a ha).2
      have e2 : f_law_is_whole [b, .int 1, .int 3] = some (.bl (wholeB 1 4 b)) := whole_l b hb 1 3
      have w : xbNot (Z := Z0) (xTru (xCallP f_law_is_word (xCons (x2 ixT (xName 1) (xC (T.int 0))) xNil))) [.im u, .im (.tup [a, b]), .un] () = some (!isWord a, ()) := ev_bnot (ev_tru (ev_callP (Z := Z0) (s1 := (() : Z0.S)) (ev_cons (ev_x2 (ev_name rfl) rfl rfl) ev_nil) e1) rfl)
      have l2 : xb (Z := Z0) (x2 (eqX true) (xCall lenT (xCons (xName 1) xNil)) (xC (T.int 2))) [.im u, .im (.tup [a, b]), .un] () = some (false, ()) := ev_xb (ev_x2 (len_tup rfl) rfl (by rw [eq_int]; rfl))
      have wh : xbNot (Z := Z0) (xTru (xCallP f_law_is_whole (xCons (x2 ixT (xName 1) (xC (T.int 1))) (xCons (xC (T.int 1)) (xCons (xC (T.int 3)) xNil))))) [.im u, .im (.tup [a, b]), .un] () = some (!wholeB 1 4 b, ()) := ev_bnot (ev_tru (ev_callP (Z := Z0) (s1 := (() : Z0.S)) (ev_cons (ev_x2 (ev_name rfl) rfl rfl) (ev_cons rfl (ev_cons rfl ev_nil))) e2) rfl)
      show _ = if (isWord a && wholeB 1 4 b) = true then _ else _
      cases hw : isWord a with
      | false =>
        rw [hw] at w
        rw [Bool.false_and, if_neg (by decide)]
        exact ev_seq_rt (ev_if_t (ev_or_f (not_tup rfl) (ev_or_f l2 w)) (ev_ret rfl))
      | true =>
        rw [hw] at w
        rw [Bool.true_and]
        cases hh : wholeB 1 4 b with
        | false =>
          rw [hh] at wh
          rw [if_neg (by decide)]
          exact ev_seq (Z := Z0) (τ' := [.im u, .im (.tup [a, b]), .un]) (s1 := (() : Z0.S)) (ev_if_f (s1 := (() : Z0.S)) (ev_or_f (not_tup (Z := Z0) (ts := [a, b]) rfl) (ev_or_f (Z := Z0) (s2 := (() : Z0.S)) (k := false) l2 w)) rfl) (ev_if_t wh (ev_ret rfl))
        | true =>
          rw [hh] at wh
          rw [if_pos rfl]
          exact ev_seq (Z := Z0) (τ' := [.im u, .im (.tup [a, b]), .un]) (s1 := (() : Z0.S)) (ev_if_f (s1 := (() : Z0.S)) (ev_or_f (not_tup (Z := Z0) (ts := [a, b]) rfl) (ev_or_f (Z := Z0) (s2 := (() : Z0.S)) (k := false) l2 w)) rfl) (ev_if_f wh rfl)
    | [], _ => exact ev_seq_rt (ev_if_t (ev_or_f (not_tup rfl) (ev_or_t (ev_xb (ev_x2 (len_tup rfl) rfl (by rw [eq_int]; rfl))))) (ev_ret rfl))
    | [a], _ => exact ev_seq_rt (ev_if_t (ev_or_f (not_tup rfl) (ev_or_t (ev_xb (ev_x2 (len_tup rfl) rfl (by rw [eq_int]; rfl))))) (ev_ret rfl))
    | a :: b :: c :: r, _ =>
      refine ev_seq_rt (ev_if_t (ev_or_f (not_tup rfl) (ev_or_t (ev_xb (ev_x2 (len_tup rfl) rfl (by
        rw [eq_int]
        have : ¬ (((a :: b :: c :: r).length : Nat) : Int) = 2 := by
          simp only [List.length_cons]
          omega
        simp only [if_true, this, decide_false, Bool.not_false]))))) (ev_ret rfl))
  | str x => exact no "str" rfl (by decide)
  | non => exact no "NoneType" rfl (by decide)
  | bl b => exact no "bool" rfl (by decide)
  | int b => exact no "int" rfl (by decide)
  | lst b => exact no "list" rfl (by decide)
  | dct b => exact no "dict" rfl (by decide)
  | _ => exact h.elim
theorem not_some {l : List Nat} {p : Nat → Bool} : (l.filter fun i => !p i).isEmpty = l.all p := by
  induction l with
  | nil => rfl
  | cons a r ih =>
    rw [List.filter_cons, List.all_cons]
    cases p a with
    | true => simpa using ih
    | false => rfl
theorem kinds_l (t : T) (h : bT t) : f_law_is_kinds [t] = some (.bl (kindsB t)) := by
  cases t with
  | tup ts =>
    obtain ⟨hb, hz⟩ := h
    have e0 : xb (Z := Z0) (x2 eqY (xName 0) (xTup xNil)) [.im (.tup ts), .un, .un] () = some (ts.isEmpty, ()) := ev_xb (ev_x2 (ev_name rfl) (ev_tup ev_nil (sz (by simp))) (eqY_nil ts))
    cases ts with
    | nil => exact ev_fp rfl (ev_seq_rt (ev_if_t (ev_or_f (not_tup (Z := Z0) rfl) e0) (ev_ret rfl)))
    | cons a r =>
      have lp := sFor_all (Z := Z0) (gt := gSet 1) (gb := kindBody) (s := (() : Z0.S)) (v := .bl false) kindB (fun τ => ∃ x, τ = [.im (.tup (a :: r)), x, .un]) (a :: r) (fun t ht τ i => by
        obtain ⟨x, rfl⟩ := i
        have e := kind_body t (bL_mem hb ht) (.tup (a :: r))
        refine ⟨[.im (.tup (a :: r)), .im t, .un], rfl, fun hp => ⟨_, ?_, .im t, rfl⟩, fun hp => ?_⟩
        · rw [e, if_pos hp]
        · rw [e, if_neg (by rw [hp]; decide)]) [.im (.tup (a :: r)), .un, .un] ⟨.un, rfl⟩
      show _ = some (T.bl (!(a :: r).isEmpty && (a :: r).all kindB && ascB ((a :: r).map headS)))
      refine ev_fp rfl (ev_seq (ev_if_f (ev_or_f (not_tup (Z := Z0) rfl) e0) rfl) ?_)
      have fi : iTupl (Z := Z0) (xName 0) [.im (.tup (a :: r)), .un, .un] () = some (a :: r, ()) := ev_tupl (ev_name rfl)
      cases hk : (a :: r).all kindB with
      | false =>
        exact ev_seq_rt (Z := Z0) (ev_forE (Z := Z0) (s1 := (() : Z0.S)) fi (lp.2 hk))
      | true =>
        obtain ⟨τ2, e2, x, rfl⟩ := lp.1 hk
        refine ev_seq (Z := Z0) (τ' := [.im (.tup (a :: r)), x, .un]) (s1 := (() : Z0.S)) (ev_forE (Z := Z0) (s1 := (() : Z0.S)) fi e2) (ev_ret ?_)
        have len : xCall (Z := Z0) lenT (xCons (xName 0) xNil) [.im (.tup (a :: r)), x, .un] () = some (.int ((a :: r).length : Nat), ()) := len_tup rfl
        have rg : iRngAB (Z := Z0) (xC (T.int 1)) (xCall lenT (xCons (xName 0) xNil)) [.im (.tup (a :: r)), x, .un] () = some (intsFrom 1 ((a :: r).length - 1), ()) := by
          have e := ev_rngAB (Z := Z0) (f1 := xC (T.int 1)) (s1 := (() : Z0.S)) (s2 := (() : Z0.S)) (m := 1) rfl len ⟨by decide, by decide, by omega, by omega⟩
          have e3 : (((a :: r).length : Nat) - (1 : Int)).toNat = (a :: r).length - 1 := by omega
          rw [e, e3]
          rfl
        have at0 : ∀ (k : Nat), k < (a :: r).length → ∀ τ : List SV, τ[0]? = some (.im (.tup (a :: r))) → ∀ fk : EF Z0, fk τ () = some (.int (k : Int), ()) → x2 (Z := Z0) ixT (x2 ixT (xName 0) fk) (xC (T.int 0)) τ () = some (.str (((a :: r).map headS).getD k ""), ()) := fun k hkk τ h0 fk hfk => by
          have hm : (a :: r)[k] ∈ (a :: r) := List.getElem_mem hkk
          obtain ⟨y, n, ey, _⟩ := kind_head (List.all_eq_true.mp hk _ hm)
          refine ev_x2 (Z := Z0) (op := ixT) (fb := xC (T.int 0)) (a := (a :: r)[k]) (b := .int 0) (s1 := (() : Z0.S)) (s2 := (() : Z0.S)) (ev_x2 (Z := Z0) (op := ixT) (s1 := (() : Z0.S)) (s2 := (() : Z0.S)) (ev_name h0) hfk (show atI (a :: r) (k : Int) = _ from atI_nat' hkk)) rfl ?_
          rw [ey]
          have : ((a :: r).map headS).getD k "" = y := by
            rw [List.getD_eq_getElem?_getD, List.getElem?_map, List.getElem?_eq_getElem hkk, ey]
            rfl
          rw [this]
          rfl
        have c := lcGo_kept (Z := Z0) (gt := gSet 2) (ft := xbNot (xb (x2 ltX (x2 ixT (x2 ixT (xName 0) (x2 subI (xName 2) (xC (T.int 1)))) (xC (T.int 0))) (x2 ixT (x2 ixT (xName 0) (xName 2)) (xC (T.int 0)))))) (fe := xName 2) (τ := [.im (.tup (a :: r)), x, .un]) (s := (() : Z0.S))
          (f := fun k : Nat => T.int (1 + (k : Nat))) (h := fun k : Nat => T.int (1 + (k : Nat))) (p := fun k => !sLt (((a :: r).map headS).getD k "") (((a :: r).map headS).getD (k + 1) "")) (List.range ((a :: r).length - 1)) (fun k hkr => by
            have hkr := List.mem_range.mp hkr
            refine ⟨[.im (.tup (a :: r)), x, .im (.int (1 + (k : Nat)))], rfl, ev_bnot (ev_xb (ev_x2 (at0 k (by omega) _ rfl _ (ev_x2 (Z := Z0) (op := subI) (fb := xC (T.int 1)) (a := .int (1 + (k : Nat))) (b := .int 1) (s1 := (() : Z0.S)) (s2 := (() : Z0.S)) (ev_name rfl) rfl ?_)) (at0 (k + 1) (by omega) _ rfl _ ?_) rfl)), ev_name rfl⟩
            · show some (T.int (1 + (k : Int) - 1)) = _
              rw [show 1 + (k : Int) - 1 = (k : Int) by omega]
            · rw [show ((k + 1 : Nat) : Int) = 1 + (k : Nat) by omega]
              exact ev_name rfl)
        rw [← intsFrom_eq] at c
        refine ev_x2 (Z := Z0) (s1 := (() : Z0.S)) (s2 := (() : Z0.S)) (ev_lc (Z := Z0) rg (by rw [intsFrom_len]; exact sz (by omega)) rfl c) (ev_lst (Z := Z0) ev_nil (sz (by simp))) ?_
        rw [eq_nil]
        · rw [List.isEmpty_map, not_some]
          unfold ascB
          rw [List.length_map]
          rfl
        · intro t ht
          obtain ⟨k, _, rfl⟩ := List.mem_map.mp ht
          exact ⟨rfl, rfl, by simp [T.d, PyData.depth]⟩
  | str x => rfl
  | non => rfl
  | bl b => rfl
  | int b => rfl
  | lst b => rfl
  | dct b => rfl
  | _ => exact h.elim
end L2.TL
namespace L2.TL
open PySem PySem.Spec
open PyProof.Rows
def isStr (z : Str) : T → Bool
  | .str x => decide (x = z)
  | _ => false
theorem eqX_tx {t : T} {z : Str} {c : T} (ht : scV t = none) (h : eqX false t (.str z) = some c) : c = .bl false := by
  have e : eqS false t (.str z) = none := by
    unfold eqS
    rw [ht]
  unfold eqX orT at h
  rw [e] at h
  simp only at h
  unfold eqT at h
  split at h
  · cases h
    cases t <;> first | (cases ht; done) | skip
    all_goals simp [T.d, PyData.eqv]
  · cases h
theorem eqY_str {t : T} (h : bT t) (z : Str) : eqY t (.str z) = some (.bl (isStr z t)) := by
  have big : scV t = none → eqTx t (.str z) = some (.bl false) → eqNil false t (.str z) = none → eqY t (.str z) = some (.bl false) := fun h1 h2 h3 => by
    unfold eqY orT
    cases e : eqX false t (.str z) with
    | some c =>
      rw [eqX_tx h1 e]
    | none =>
      show (match eqNil false t (.str z) with
        | some c => some c
        | none => eqTx t (.str z)) = _
      rw [h3]
      exact h2
  cases t with
  | str x => exact eqY_of (by
      rw [eq_str]
      rfl)
  | non => rfl
  | bl b => cases b <;> rfl
  | int i => rfl
  | tup ts => exact big rfl rfl (by cases ts <;> rfl)
  | lst ts => exact big rfl rfl rfl
  | dct ps => exact big rfl rfl rfl
  | _ => exact h.elim
/-- what the counts of kinds are -/
def CntOk (cs : List (Key × T)) : Prop := ∀ p ∈ cs, ∃ n : Int, p.2 = .int n ∧ 1 ≤ n ∧ n ≤ 3 ∧ ∃ x, p.1 = .inr x ∧ wordB x = true
theorem CntOk.get {cs : List (Key × T)} {k : Key} {t : T} (h : CntOk cs) (e : getT cs k = some t) : ∃ n : Int, t = .int n ∧ 1 ≤ n ∧ n ≤ 3 ∧ ∃ x, k = .inr x ∧ wordB x = true := by
  unfold getT at e
  obtain ⟨p, hp, rfl⟩ := Option.map_eq_some_iff.mp e
  have hk : p.1 = k := by simpa using List.find?_some hp
  rw [← hk]
  exact h p (List.mem_of_find?_eq_some hp)
theorem CntOk.put {cs : List (Key × T)} {k : Key} {n : Int} (h : CntOk cs) (h1 : 1 ≤ n) (h2 : n ≤ 3) (hk : ∃ x, k = .inr x ∧ wordB x = true) : CntOk (putT cs k (.int n)) := by
  unfold putT
  split
  · intro p hp
    obtain ⟨q, hq, rfl⟩ := List.mem_map.mp hp
    split
    · rename_i hq2
      obtain ⟨_, _, _, _, hx⟩ := h q hq
      exact ⟨n, rfl, h1, h2, hx⟩
    · exact h q hq
  · intro p hp
    rcases List.mem_append.mp hp with hp | hp
    · exact h p hp
    · rw [List.mem_singleton] at hp
      subst hp
      exact ⟨n, rfl, h1, h2, hk⟩
theorem cnt_fold : ∀ (ps : List (Key × T)) (cs : List (Key × T)), CntOk cs → CntOk ps → CntOk (ps.foldl (fun acc kv => putT acc kv.1 kv.2) cs)
  | [], _, h, _ => h
  | p :: r, cs, h, hp => by
    obtain ⟨n, e, h1, h2, hx⟩ := hp p (List.mem_cons_self ..)
    rw [List.foldl_cons, e]
    exact cnt_fold r _ (h.put h1 h2 hx) fun q hq => hp q (List.mem_cons_of_mem _ hq)
theorem pairs_of : ∀ {ts : List T}, ts.all kindB = true → ∃ ps, pairsT ts = some ps ∧ CntOk ps
  | [], _ => ⟨[], rfl, fun p hp => by cases hp⟩
  | t :: r, h => by
    rw [List.all_cons, Bool.and_eq_true] at h
    obtain ⟨x, n, rfl, hw, h1, h2⟩ := kind_head h.1
    obtain ⟨ps, e, hc⟩ := pairs_of h.2
    refine ⟨(Sum.inr x, .int n) :: ps, ?_, fun p hp => ?_⟩
    · rw [pairsT, e]
      rfl
    · rcases List.mem_cons.mp hp with rfl | hp
      · exact ⟨n, rfl, h1, h2, x, rfl, hw⟩
      · exact hc p hp
/-- the counts of kinds -/
def cntOf (t : T) : List (Key × T) := match t with
  | .tup ts => match pairsT ts with
    | some ps => mergeT [] ps
    | none => []
  | _ => []
theorem cnt_ok {t : T} (h : kindsB t = true) : ∃ ts, t = .tup ts ∧ dictX [t] = some (.dct (cntOf t)) ∧ listX [t] = some (.lst ts) ∧ dictX [.lst ts] = some (.dct (cntOf t)) ∧ CntOk (cntOf t) := by
  cases t <;> first | (cases h; done) | skip
  rename_i ts
  have h : (!ts.isEmpty && ts.all kindB && ascB (ts.map headS)) = true := h
  rw [Bool.and_eq_true, Bool.and_eq_true] at h
  obtain ⟨ps, e, hc⟩ := pairs_of h.1.2
  have ec : cntOf (.tup ts) = mergeT [] ps := by
    unfold cntOf
    simp only [e]
  refine ⟨ts, rfl, ?_, rfl, ?_, ?_⟩
  · rw [ec]
    unfold dictX opOr dictPT dictTT
    simp only [e]
  · rw [ec]
    unfold dictX opOr dictPT
    simp only [e]
  · rw [ec]
    exact cnt_fold ps [] (fun p hp => by cases hp) hc
/-! needs -/
def singleB (cs : List (Key × T)) : T → Bool
  | .str x => match getT cs (.inr x) with
    | some (.int n) => decide (n = 1)
    | _ => false
  | _ => false
def needB (cs : List (Key × T)) (count : Int) : T → Bool
  | .tup [a, b] => isStr "part" a && wholeB 0 count b
  | .tup [a, b, c] => (isStr "around" a && (singleB cs b && wholeB 0 count c)) || (isStr "inside" a && (wholeB 0 count b && singleB cs c))
  | _ => false
theorem one_eq {cs : List (Key × T)} (hc : CntOk cs) (x : Str) : eqX false ((getT cs (.inr x)).getD .non) (.int 1) = some (.bl (singleB cs (.str x))) := by
  cases e : getT cs (.inr x) with
  | none =>
    have s : singleB cs (.str x) = false := by
      simp only [singleB, e]
    rw [s]
    rfl
  | some t =>
    obtain ⟨n, rfl, _⟩ := hc.get e
    have s : singleB cs (.str x) = decide (n = 1) := by
      simp only [singleB, e]
    rw [s]
    show eqX false (.int n) (.int 1) = _
    rw [eq_int]
    rfl
theorem single_p {cs : List (Key × T)} (hc : CntOk cs) (t : T) (h : bT t) : f_is_single [t, .dct cs] = some (.bl (singleB cs t)) := by
  cases t with
  | str x =>
    have g : xGet1 (Z := Z0) (xName 1) (xName 0) [.im (.str x), .im (.dct cs)] () = some ((getT cs (.inr x)).getD .non, ()) := rfl
    exact ev_fp rfl (ev_ret (ev_and_t (a := .bl true) (ev_is (ev_name rfl) rfl) rfl (ev_x2 g rfl (one_eq hc x))))
  | non => rfl
  | bl b => rfl
  | int b => rfl
  | tup b => rfl
  | lst b => rfl
  | dct b => rfl
  | _ => exact h.elim
theorem lenB_ne {a : List T} {n : Nat} (h : a.length ≠ n) : eqX false (.int (a.length : Nat)) (.int (n : Nat)) = some (.bl false) := by
  rw [eq_int]
  have : ¬ ((a.length : Nat) : Int) = (n : Nat) := by omega
  simp [this]
theorem isStr_two {t : T} {y z : Str} (h : isStr y t = true) (ne : y ≠ z) : isStr z t = false := by
  cases t <;> first | (cases h; done) | skip
  rename_i x
  have h : decide (x = y) = true := h
  have : x = y := of_decide_eq_true h
  subst this
  show decide (x = z) = false
  exact decide_eq_false ne
theorem need_eq (cs : List (Key × T)) (count : Int) (a : T) (r : List T) : needB cs count (.tup (a :: r)) = if isStr "part" a = true then (decide ((a :: r).length = 2) && wholeB 0 count (r.getD 0 .non)) else
    if isStr "around" a = true then (decide ((a :: r).length = 3) && (singleB cs (r.getD 0 .non) && wholeB 0 count (r.getD 1 .non))) else
    if isStr "inside" a = true then (decide ((a :: r).length = 3) && (wholeB 0 count (r.getD 0 .non) && singleB cs (r.getD 1 .non))) else false := by
  match r with
  | [] => simp [needB]
  | [b] =>
    show (isStr "part" a && wholeB 0 count b) = _
    cases hp : isStr "part" a <;> simp
  | [b, c] =>
    show ((isStr "around" a && (singleB cs b && wholeB 0 count c)) || (isStr "inside" a && (wholeB 0 count b && singleB cs c))) = _
    cases hp : isStr "part" a with
    | true =>
      rw [isStr_two hp (by decide), isStr_two hp (by decide)]
      simp
    | false =>
      cases ho : isStr "around" a with
      | true =>
        rw [isStr_two ho (by decide)]
        simp
      | false => cases hi : isStr "inside" a <;> simp
  | _ :: _ :: _ :: _ => simp [needB]
theorem need_p {cs : List (Key × T)} (hc : CntOk cs) (count : Int) (t : T) (h : bT t) : f_is_need [t, .int count, .dct cs] = some (.bl (needB cs count t)) := by
  cases t with
  | tup ts =>
    obtain ⟨hb, hz⟩ := h
    cases ts with
    | nil => exact ev_fp rfl (ev_seq_rt (ev_if_t (ev_or_f (not_tup (Z := Z0) rfl) (ev_bnot (k := false) (ev_tru (ev_name rfl) rfl))) (ev_ret rfl)))
    | cons a r =>
      have ha : bT a := hb.1
      have i0 : ∀ (z : Str), xb (Z := Z0) (x2 eqY (x2 ixT (xName 0) (xC (T.int 0))) (xC (T.str z))) [.im (.tup (a :: r)), .im (.int count), .im (.dct cs)] () = some (isStr z a, ()) := fun z =>
        ev_xb (ev_x2 (Z := Z0) (op := eqY) (a := a) (b := .str z) (s1 := (() : Z0.S)) (s2 := (() : Z0.S)) (ev_x2 (Z := Z0) (op := ixT) (fb := xC (T.int 0)) (a := .tup (a :: r)) (b := .int 0) (s1 := (() : Z0.S)) (s2 := (() : Z0.S)) (ev_name rfl) rfl (show atI (a :: r) ((0 : Nat) : Int) = _ from atI_nat' (by simp))) rfl (eqY_str ha z))
      have ln : xCall (Z := Z0) lenT (xCons (xName 0) xNil) [.im (.tup (a :: r)), .im (.int count), .im (.dct cs)] () = some (.int ((a :: r).length : Nat), ()) := len_tup rfl
      have whl : ∀ (k : Nat) (b : T), (a :: r)[k]? = some b → xCallP (Z := Z0) f_is_whole (xCons (x2 ixT (xName 0) (xC (T.int (k : Int)))) (xCons (xC (T.int 0)) (xCons (xName 1) xNil))) [.im (.tup (a :: r)), .im (.int count), .im (.dct cs)] () = some (.bl (wholeB 0 count b), ()) := fun k b hk => by
        have hm : b ∈ a :: r := List.mem_of_getElem? hk
        have hl : k < (a :: r).length := (List.getElem?_eq_some_iff.mp hk).1
        have e : ixT (.tup (a :: r)) (.int (k : Int)) = some b := by
          show atI (a :: r) (k : Int) = _
          rw [atI_nat' hl]
          rw [List.getElem?_eq_getElem hl] at hk
          exact hk
        exact ev_callP (Z := Z0) (s1 := (() : Z0.S)) (ev_cons (Z := Z0) (s1 := (() : Z0.S)) (s2 := (() : Z0.S)) (ev_x2 (Z := Z0) (op := ixT) (s1 := (() : Z0.S)) (s2 := (() : Z0.S)) (ev_name rfl) rfl e) (ev_cons rfl (ev_cons (ev_name rfl) ev_nil))) (whole_p b (bL_mem hb hm) 0 count)
      have sgl : ∀ (k : Nat) (b : T), (a :: r)[k]? = some b → xCallP (Z := Z0) f_is_single (xCons (x2 ixT (xName 0) (xC (T.int (k : Int)))) (xCons (xName 2) xNil)) [.im (.tup (a :: r)), .im (.int count), .im (.dct cs)] () = some (.bl (singleB cs b), ()) := fun k b hk => by
        have hm : b ∈ a :: r := List.mem_of_getElem? hk
        have hl : k < (a :: r).length := (List.getElem?_eq_some_iff.mp hk).1
        have e : ixT (.tup (a :: r)) (.int (k : Int)) = some b := by
          show atI (a :: r) (k : Int) = _
          rw [atI_nat' hl]
          rw [List.getElem?_eq_getElem hl] at hk
          exact hk
        exact ev_callP (Z := Z0) (s1 := (() : Z0.S)) (ev_cons (Z := Z0) (s1 := (() : Z0.S)) (s2 := (() : Z0.S)) (ev_x2 (Z := Z0) (op := ixT) (s1 := (() : Z0.S)) (s2 := (() : Z0.S)) (ev_name rfl) rfl e) (ev_cons (ev_name rfl) ev_nil)) (single_p hc b (bL_mem hb hm))
      have nt : xbOr (Z := Z0) (xbNot (xTru (xIs "tuple" (xName 0)))) (xbNot (xTru (xName 0))) [.im (.tup (a :: r)), .im (.int count), .im (.dct cs)] () = some (false, ()) := ev_or_f (not_tup (Z := Z0) rfl) (ev_bnot (k := true) (ev_tru (ev_name rfl) rfl))
      have l2 : ∀ n : Nat, x2 (Z := Z0) (eqX false) (xCall lenT (xCons (xName 0) xNil)) (xC (T.int (n : Int))) [.im (.tup (a :: r)), .im (.int count), .im (.dct cs)] () = some (.bl (decide ((a :: r).length = n)), ()) := fun n => by
        refine ev_x2 (Z := Z0) (op := eqX false) (b := .int (n : Int)) (s1 := (() : Z0.S)) (s2 := (() : Z0.S)) ln rfl ?_
        rw [eq_int]
        have : decide (((a :: r).length : Nat) = (n : Int)) = decide ((a :: r).length = n) := by
          by_cases hh : (a :: r).length = n
          · simp [hh]
          · rw [decide_eq_false hh, decide_eq_false (by omega)]
        simp only [Bool.false_eq_true, if_false, this]
      have and2 : ∀ {f g : EF Z0} {p q : Bool} {τ : List SV}, f τ () = some (.bl p, ()) → (p = true → g τ () = some (.bl q, ())) → xAnd (Z := Z0) f g τ () = some (.bl (p && q), ()) := fun {f g p q τ} h1 h2 => by
        cases p with
        | false => exact ev_and_f h1 rfl
        | true => exact ev_and_t h1 rfl (h2 rfl)
      rw [need_eq]
      cases hp : isStr "part" a with
      | true =>
        rw [if_pos rfl]
        refine ev_fp rfl (ev_seq (ev_if_f nt rfl) (ev_seq_rt (ev_if_t (by rw [← hp]; exact i0 "part") (ev_ret (and2 (l2 2) fun hl => whl 1 _ ?_)))))
        have : r.length = 1 := by
          have := of_decide_eq_true hl
          simpa using this
        show r[0]? = _
        rw [List.getElem?_eq_getElem (by omega), List.getD_eq_getElem?_getD, List.getElem?_eq_getElem (by omega)]
        rfl
      | false =>
        rw [if_neg (by decide)]
        have g3 : decide ((a :: r).length = 3) = true → (a :: r)[1]? = some (r.getD 0 .non) ∧ (a :: r)[2]? = some (r.getD 1 .non) := fun hl => by
          have : r.length = 2 := by
            have := of_decide_eq_true hl
            simpa using this
          refine ⟨?_, ?_⟩
          · show r[0]? = _
            rw [List.getElem?_eq_getElem (by omega), List.getD_eq_getElem?_getD, List.getElem?_eq_getElem (by omega)]
            rfl
          · show r[1]? = _
            rw [List.getElem?_eq_getElem (by omega), List.getD_eq_getElem?_getD, List.getElem?_eq_getElem (by omega)]
            rfl
        refine ev_fp rfl (ev_seq (ev_if_f nt rfl) (ev_seq (Z := Z0) (τ' := [.im (.tup (a :: r)), .im (.int count), .im (.dct cs)]) (s1 := (() : Z0.S)) (ev_if_f (s1 := (() : Z0.S)) (by rw [← hp]; exact i0 "part") rfl) ?_))
        cases ho : isStr "around" a with
        | true =>
          rw [if_pos rfl]
          exact ev_seq_rt (ev_if_t (by rw [← ho]; exact i0 "around") (ev_ret (and2 (l2 3) fun hl => and2 (sgl 1 _ (g3 hl).1) fun _ => whl 2 _ (g3 hl).2)))
        | false =>
          rw [if_neg (by decide)]
          refine ev_seq (Z := Z0) (τ' := [.im (.tup (a :: r)), .im (.int count), .im (.dct cs)]) (s1 := (() : Z0.S)) (ev_if_f (s1 := (() : Z0.S)) (by rw [← ho]; exact i0 "around") rfl) ?_
          cases hi : isStr "inside" a with
          | true =>
            rw [if_pos rfl]
            exact ev_seq_rt (ev_if_t (by rw [← hi]; exact i0 "inside") (ev_ret (and2 (l2 3) fun hl => and2 (whl 1 _ (g3 hl).1) fun _ => sgl 2 _ (g3 hl).2)))
          | false =>
            rw [if_neg (by decide)]
            exact ev_seq (Z := Z0) (τ' := [.im (.tup (a :: r)), .im (.int count), .im (.dct cs)]) (s1 := (() : Z0.S)) (ev_if_f (s1 := (() : Z0.S)) (by rw [← hi]; exact i0 "inside") rfl) (ev_ret rfl)
  | non => rfl
  | bl b => rfl
  | int b => rfl
  | str b => rfl
  | lst b => rfl
  | dct b => rfl
  | _ => exact h.elim
end L2.TL
namespace L2.TL
open PySem PySem.Spec
open PyProof.Rows
abbrev Ln (cs : List (Key × T)) (many : Int) (t : T) (x y : SV) : List SV := [.im (.dct cs), .im (.int many), .im t, x, y]
theorem len_in (ts : List T) (cs : List (Key × T)) (many : Int) : xb (Z := Z0) (x2 (inXD true) (xCall lenT (xCons (xName 2) xNil)) (xTup (xCons (xC (T.int 2)) (xCons (xC (T.int 3)) xNil)))) (Ln cs many (.tup ts) .un .un) () = some (!(decide (ts.length = 2) || decide (ts.length = 3)), ()) := by
  refine ev_xb (ev_x2 (Z := Z0) (op := inXD true) (a := .int ts.length) (b := .tup [.int 2, .int 3]) (s1 := (() : Z0.S)) (s2 := (() : Z0.S)) (len_tup rfl) (ev_tup (ev_cons rfl (ev_cons rfl ev_nil)) (sz (by simp))) ?_)
  show some (T.bl (!inV (.int ts.length) [.int 2, .int 3])) = _
  have : inV (.int (ts.length : Nat)) [.int 2, .int 3] = (decide (ts.length = 2) || decide (ts.length = 3)) := by
    show (decide ((2 : Int) = ts.length) || (decide ((3 : Int) = ts.length) || false)) = _
    rw [Bool.or_false]
    congr 1
    · by_cases h : ts.length = 2
      · rw [h]
        rfl
      · rw [decide_eq_false h, decide_eq_false (by omega)]
    · by_cases h : ts.length = 3
      · rw [h]
        rfl
      · rw [decide_eq_false h, decide_eq_false (by omega)]
  rw [this]
theorem need_l {cs : List (Key × T)} (hc : CntOk cs) (many : Int) (t : T) (h : bT t) : f_law_is_need [.dct cs, .int many, t] = some (.bl (needB cs many t)) := by
  have wl : ∀ (b : T), bT b → f_law_is_whole [b, .int 0, .int (many - 1)] = some (.bl (wholeB 0 many b)) := fun b hb => by
    rw [whole_l b hb, show many - 1 + 1 = many by omega]
  have sub1 : ∀ τ : List SV, τ[1]? = some (.im (.int many)) → x2 (Z := Z0) subI (xName 1) (xC (T.int 1)) τ () = some (.int (many - 1), ()) := fun τ h1 => ev_x2 (Z := Z0) (op := subI) (b := .int 1) (s1 := (() : Z0.S)) (s2 := (() : Z0.S)) (ev_name h1) rfl rfl
  cases t with
  | tup ts =>
    obtain ⟨hb, hz⟩ := h
    have at_ : ∀ (k : Nat) (b : T), ts[k]? = some b → ∀ τ : List SV, τ[2]? = some (.im (.tup ts)) → x2 (Z := Z0) ixT (xName 2) (xC (T.int (k : Int))) τ () = some (b, ()) := fun k b hk τ h2 => by
      have hl : k < ts.length := (List.getElem?_eq_some_iff.mp hk).1
      refine ev_x2 (Z := Z0) (op := ixT) (b := .int (k : Int)) (s1 := (() : Z0.S)) (s2 := (() : Z0.S)) (ev_name h2) rfl ?_
      show atI ts (k : Int) = _
      rw [atI_nat' hl]
      rw [List.getElem?_eq_getElem hl] at hk
      exact hk
    have nt : xbNot (Z := Z0) (xTru (xIs "tuple" (xName 2))) (Ln cs many (.tup ts) .un .un) () = some (false, ()) := not_tup (Z := Z0) rfl
    have li := len_in ts cs many
    have out : ts.length ≠ 2 → ts.length ≠ 3 → f_law_is_need [.dct cs, .int many, .tup ts] = some (.bl false) := fun h2 h3 => by
      rw [decide_eq_false h2, decide_eq_false h3] at li
      exact ev_fp rfl (ev_seq_rt (ev_if_t (ev_or_f nt (ev_or_t li)) (ev_ret rfl)))
    match ts, hb, hz, at_, nt, li, out with
    | [], _, _, _, _, _, out => exact out (by simp) (by simp)
    | [a], _, _, _, _, _, out => exact out (by simp) (by simp)
    | a :: b :: c :: d :: r, _, _, _, _, _, out =>
      have e : needB cs many (.tup (a :: b :: c :: d :: r)) = false := rfl
      rw [e]
      exact out (by simp) (by simp)
    | [a, b], hb, _, at_, nt, li, _ =>
      obtain ⟨ha, hbb, _⟩ := hb
      show _ = some (T.bl (isStr "part" a && wholeB 0 many b))
      by_cases hs : ∃ x, a = .str x
      · obtain ⟨x, rfl⟩ := hs
        have st : xbNot (Z := Z0) (xTru (xIs "str" (x2 ixT (xName 2) (xC (T.int 0))))) (Ln cs many (.tup [.str x, b]) .un .un) () = some (false, ()) := ev_bnot (k := true) (ev_tru (ev_is (at_ 0 _ rfl _ rfl) rfl) rfl)
        have pt : xb (Z := Z0) (x2 (eqX false) (x2 ixT (xName 2) (xC (T.int 0))) (xC (T.str "part"))) (Ln cs many (.tup [.str x, b]) .un .un) () = some (isStr "part" (.str x), ()) :=
          ev_xb (ev_x2 (Z := Z0) (op := eqX false) (b := .str "part") (s1 := (() : Z0.S)) (s2 := (() : Z0.S)) (at_ 0 _ rfl _ rfl) rfl (by rw [eq_str]; rfl))
        refine ev_fp rfl (ev_seq (Z := Z0) (τ' := Ln cs many (.tup [.str x, b]) .un .un) (s1 := (() : Z0.S)) (ev_if_f (Z := Z0) (g' := sSkip) (s1 := (() : Z0.S)) (ev_or_f (Z := Z0) (s2 := (() : Z0.S)) (k := false) nt (ev_or_f (Z := Z0) (s1 := (() : Z0.S)) (s2 := (() : Z0.S)) (k := false) li st)) rfl) ?_)
        cases hp : isStr "part" (.str x) with
        | true =>
          rw [hp] at pt
          rw [Bool.true_and]
          exact ev_seq_rt (ev_if_t pt (ev_ret (ev_and_t (a := .bl true) (ev_x2 (Z := Z0) (op := eqX false) (b := .int 2) (s1 := (() : Z0.S)) (s2 := (() : Z0.S)) (len_tup rfl) rfl (by rw [eq_int]; rfl)) rfl
            (ev_callP (Z := Z0) (s1 := (() : Z0.S)) (ev_cons (at_ 1 b rfl _ rfl) (ev_cons rfl (ev_cons (sub1 _ rfl) ev_nil))) (wl b hbb)))))
        | false =>
          rw [hp] at pt
          rw [Bool.false_and]
          refine ev_seq (Z := Z0) (τ' := Ln cs many (.tup [.str x, b]) .un .un) (s1 := (() : Z0.S)) (ev_if_f (s1 := (() : Z0.S)) pt rfl) ?_
          exact ev_seq_rt (ev_if_t (ev_or_t (ev_xb (ev_x2 (Z := Z0) (op := eqX true) (b := .int 3) (s1 := (() : Z0.S)) (s2 := (() : Z0.S)) (len_tup rfl) rfl (by rw [eq_int]; rfl)))) (ev_ret rfl))
      · have e : isStr "part" a = false := by
          cases a <;> first | rfl | exact absurd ⟨_, rfl⟩ hs
        have hi : isTy "str" a = some false := by
          cases a <;> first | rfl | exact absurd ⟨_, rfl⟩ hs | exact ha.elim
        rw [e, Bool.false_and]
        exact ev_fp rfl (ev_seq_rt (ev_if_t (ev_or_f nt (ev_or_f li (ev_bnot (k := false) (ev_tru (ev_is (at_ 0 _ rfl _ rfl) hi) rfl)))) (ev_ret rfl)))
    | [a, b, c], hb, _, at_, nt, li, _ =>
      obtain ⟨ha, hbb, hcc, _⟩ := hb
      show _ = some (T.bl ((isStr "around" a && (singleB cs b && wholeB 0 many c)) || (isStr "inside" a && (wholeB 0 many b && singleB cs c))))
      by_cases hs : ∃ x, a = .str x
      · obtain ⟨x, rfl⟩ := hs
        have st : xbNot (Z := Z0) (xTru (xIs "str" (x2 ixT (xName 2) (xC (T.int 0))))) (Ln cs many (.tup [.str x, b, c]) .un .un) () = some (false, ()) := ev_bnot (k := true) (ev_tru (ev_is (at_ 0 _ rfl _ rfl) rfl) rfl)
        have eqs : ∀ z : Str, xb (Z := Z0) (x2 (eqX false) (x2 ixT (xName 2) (xC (T.int 0))) (xC (T.str z))) (Ln cs many (.tup [.str x, b, c]) .un .un) () = some (isStr z (.str x), ()) := fun z =>
          ev_xb (ev_x2 (Z := Z0) (op := eqX false) (b := .str z) (s1 := (() : Z0.S)) (s2 := (() : Z0.S)) (at_ 0 _ rfl _ rfl) rfl (by rw [eq_str]; rfl))
        have l3 : xb (Z := Z0) (x2 (eqX true) (xCall lenT (xCons (xName 2) xNil)) (xC (T.int 3))) (Ln cs many (.tup [.str x, b, c]) .un .un) () = some (false, ()) :=
          ev_xb (ev_x2 (Z := Z0) (op := eqX true) (b := .int 3) (s1 := (() : Z0.S)) (s2 := (() : Z0.S)) (len_tup rfl) rfl (by rw [eq_int]; rfl))
        have ni : xb (Z := Z0) (x2 (inXD true) (x2 ixT (xName 2) (xC (T.int 0))) (xTup (xCons (xC (T.str "around")) (xCons (xC (T.str "inside")) xNil)))) (Ln cs many (.tup [.str x, b, c]) .un .un) () = some (!(isStr "around" (.str x) || isStr "inside" (.str x)), ()) := by
          refine ev_xb (ev_x2 (Z := Z0) (op := inXD true) (a := .str x) (b := .tup [.str "around", .str "inside"]) (s1 := (() : Z0.S)) (s2 := (() : Z0.S)) (at_ 0 _ rfl _ rfl) (ev_tup (ev_cons rfl (ev_cons rfl ev_nil)) (sz (by simp))) ?_)
          have e1 : inS true (.str x) (.tup [.str "around", .str "inside"]) = none := by
            unfold inS
            split
            · rename_i h2
              cases h2
            · rfl
          have e2 : inXD true (.str x) (.tup [.str "around", .str "inside"]) = some (.bl (!inV (.str x) [.str "around", .str "inside"])) := by
            unfold inXD inX orT
            rw [e1]
            rfl
          have k : ∀ z : Str, eqV (.str z) (.str x) = isStr z (.str x) := fun z => by
            show decide (z = x) = decide (x = z)
            by_cases h : x = z
            · rw [h]
            · rw [decide_eq_false h, decide_eq_false (fun q => h q.symm)]
          rw [e2]
          show some (T.bl (!(eqV (.str "around") (.str x) || (eqV (.str "inside") (.str x) || false)))) = _
          rw [k, k, Bool.or_false]
        refine ev_fp rfl (ev_seq (Z := Z0) (τ' := Ln cs many (.tup [.str x, b, c]) .un .un) (s1 := (() : Z0.S)) (ev_if_f (Z := Z0) (g' := sSkip) (s1 := (() : Z0.S)) (ev_or_f (Z := Z0) (s2 := (() : Z0.S)) (k := false) nt (ev_or_f (Z := Z0) (s1 := (() : Z0.S)) (s2 := (() : Z0.S)) (k := false) li st)) rfl) ?_)
        cases hp : isStr "part" (.str x) with
        | true =>
          have pt := eqs "part"
          rw [hp] at pt
          rw [isStr_two hp (by decide), isStr_two hp (by decide), Bool.false_and, Bool.false_and]
          exact ev_seq_rt (ev_if_t pt (ev_ret (ev_and_f (a := .bl false) (ev_x2 (Z := Z0) (op := eqX false) (b := .int 2) (s1 := (() : Z0.S)) (s2 := (() : Z0.S)) (len_tup rfl) rfl (by rw [eq_int]; rfl)) rfl)))
        | false =>
          have pt := eqs "part"
          rw [hp] at pt
          refine ev_seq (Z := Z0) (τ' := Ln cs many (.tup [.str x, b, c]) .un .un) (s1 := (() : Z0.S)) (ev_if_f (s1 := (() : Z0.S)) pt rfl) ?_
          -- the asked kind and the spot
          have fin : ∀ (kd sp : T), bT kd → bT sp → sRet (Z := Z0) (xAnd (xIs "str" (xName 3)) (xAnd (x2 (eqX false) (xGet1 (xName 0) (xName 3)) (xC (T.int 1))) (xCallP f_law_is_whole (xCons (xName 4) (xCons (xC (T.int 0)) (xCons (x2 subI (xName 1) (xC (T.int 1))) xNil))))))
              (Ln cs many (.tup [.str x, b, c]) (.im kd) (.im sp)) () = some (.rt (.bl (singleB cs kd && wholeB 0 many sp)) ()) := fun kd sp hk hsp => by
            have whs : xCallP (Z := Z0) f_law_is_whole (xCons (xName 4) (xCons (xC (T.int 0)) (xCons (x2 subI (xName 1) (xC (T.int 1))) xNil))) (Ln cs many (.tup [.str x, b, c]) (.im kd) (.im sp)) () = some (.bl (wholeB 0 many sp), ()) :=
              ev_callP (Z := Z0) (s1 := (() : Z0.S)) (ev_cons (ev_name rfl) (ev_cons rfl (ev_cons (sub1 _ rfl) ev_nil))) (wl sp hsp)
            by_cases hks : ∃ y, kd = .str y
            · obtain ⟨y, rfl⟩ := hks
              have g : xGet1 (Z := Z0) (xName 0) (xName 3) (Ln cs many (.tup [.str x, b, c]) (.im (.str y)) (.im sp)) () = some ((getT cs (.inr y)).getD .non, ()) := rfl
              have o := ev_x2 (Z := Z0) (op := eqX false) (fb := xC (T.int 1)) (b := .int 1) (s1 := (() : Z0.S)) (s2 := (() : Z0.S)) g rfl (one_eq hc y)
              refine ev_ret (ev_and_t (a := .bl true) (ev_is (ev_name rfl) rfl) rfl ?_)
              cases h1 : singleB cs (.str y) with
              | false =>
                rw [h1] at o
                exact ev_and_f o rfl
              | true =>
                rw [h1] at o
                rw [Bool.true_and]
                exact ev_and_t o rfl whs
            · have e : singleB cs kd = false := by
                cases kd <;> first | rfl | exact absurd ⟨_, rfl⟩ hks
              have hi : isTy "str" kd = some false := by
                cases kd <;> first | rfl | exact absurd ⟨_, rfl⟩ hks | exact hk.elim
              rw [e, Bool.false_and]
              exact ev_ret (ev_and_f (a := .bl false) (ev_is (ev_name rfl) hi) rfl)
          have t2 : ∀ u v : T, gTupT 2 (gsCons (gSet 3) (gsCons (gSet 4) gsNil)) (.tup [u, v]) (Ln cs many (.tup [.str x, b, c]) .un .un) = some (Ln cs many (.tup [.str x, b, c]) (.im u) (.im v)) := fun u v => rfl
          cases ho : isStr "around" (.str x) with
          | true =>
            have oo := eqs "around"
            rw [ho] at oo ni
            rw [isStr_two ho (by decide), Bool.false_and, Bool.or_false, Bool.true_and]
            refine ev_seq (Z := Z0) (τ' := Ln cs many (.tup [.str x, b, c]) .un .un) (s1 := (() : Z0.S)) (ev_if_f (Z := Z0) (g' := sSkip) (s1 := (() : Z0.S)) (ev_or_f (Z := Z0) (s1 := (() : Z0.S)) (s2 := (() : Z0.S)) (k := false) l3 ni) rfl) ?_
            refine ev_seq (Z := Z0) (τ' := Ln cs many (.tup [.str x, b, c]) (.im b) (.im c)) (s1 := (() : Z0.S)) (ev_asg (ev_xif_t oo (ev_tup (ev_cons (at_ 1 b rfl _ rfl) (ev_cons (at_ 2 c rfl _ rfl) ev_nil)) (sz (by simp)))) (t2 b c)) ?_
            exact fin b c hbb hcc
          | false =>
            have oo := eqs "around"
            rw [ho] at oo ni
            rw [Bool.false_and, Bool.false_or]
            cases hi : isStr "inside" (.str x) with
            | true =>
              rw [hi] at ni
              rw [Bool.true_and, Bool.and_comm]
              refine ev_seq (Z := Z0) (τ' := Ln cs many (.tup [.str x, b, c]) .un .un) (s1 := (() : Z0.S)) (ev_if_f (Z := Z0) (g' := sSkip) (s1 := (() : Z0.S)) (ev_or_f (Z := Z0) (s1 := (() : Z0.S)) (s2 := (() : Z0.S)) (k := false) l3 ni) rfl) ?_
              refine ev_seq (Z := Z0) (τ' := Ln cs many (.tup [.str x, b, c]) (.im c) (.im b)) (s1 := (() : Z0.S)) (ev_asg (ev_xif_f oo (ev_tup (ev_cons (at_ 2 c rfl _ rfl) (ev_cons (at_ 1 b rfl _ rfl) ev_nil)) (sz (by simp)))) (t2 c b)) ?_
              exact fin c b hcc hbb
            | false =>
              rw [hi] at ni
              rw [Bool.false_and]
              exact ev_seq_rt (ev_if_t (ev_or_f (Z := Z0) (s1 := (() : Z0.S)) (s2 := (() : Z0.S)) (k := true) l3 ni) (ev_ret rfl))
      · have e : ∀ z, isStr z a = false := fun z => by
          cases a <;> first | rfl | exact absurd ⟨_, rfl⟩ hs
        have hi : isTy "str" a = some false := by
          cases a <;> first | rfl | exact absurd ⟨_, rfl⟩ hs | exact ha.elim
        rw [e, e, Bool.false_and, Bool.false_and]
        exact ev_fp rfl (ev_seq_rt (ev_if_t (ev_or_f nt (ev_or_f li (ev_bnot (k := false) (ev_tru (ev_is (at_ 0 _ rfl _ rfl) hi) rfl)))) (ev_ret rfl)))
  | non => rfl
  | bl b => rfl
  | int b => rfl
  | str b => rfl
  | lst b => rfl
  | dct b => rfl
  | _ => exact h.elim
end L2.TL
namespace L2.TL
open PySem PySem.Spec
open PyProof.Rows
def inB (cs : List (Key × T)) : T → Bool
  | .str x => (getT cs (.inr x)).isSome
  | _ => false
def cntB (cs : List (Key × T)) : T → Int
  | .str x => match getT cs (.inr x) with
    | some (.int n) => n
    | _ => 0
  | _ => 0
def needsB (cs : List (Key × T)) (m : Int) : T → Bool
  | .tup l => decide (l.length ≤ 2) && l.all (needB cs m)
  | _ => false
def openingB (cs : List (Key × T)) : T → Bool
  | .tup [w, k, g, n] => isWord w && (!inB cs w && (isWord k && (inB cs k && (wholeB 0 (cntB cs k) g && needsB cs (cntB cs k) n))))
  | _ => false
theorem in_dct (neg : Bool) (x : Str) (cs : List (Key × T)) : inXD neg (.str x) (.dct cs) = some (.bl (if neg then !inB cs (.str x) else inB cs (.str x))) := by
  have e1 : inS neg (.str x) (.dct cs) = none := by
    unfold inS
    split
    · rename_i h2
      cases h2
    · rfl
  unfold inXD inX orT
  rw [e1]
  rfl
theorem word_str {t : T} (h : isWord t = true) : ∃ x, t = .str x := by
  cases t <;> first | exact ⟨_, rfl⟩ | cases h
theorem cnt_get {cs : List (Key × T)} (hc : CntOk cs) {x : Str} (h : inB cs (.str x) = true) : getT cs (.inr x) = some (.int (cntB cs (.str x))) := by
  have h : (getT cs (.inr x)).isSome = true := h
  obtain ⟨t, e⟩ := Option.isSome_iff_exists.mp h
  obtain ⟨n, rfl, _⟩ := hc.get e
  have : cntB cs (.str x) = n := by
    simp only [cntB, e]
  rw [this, e]
theorem opening_p {cs : List (Key × T)} (hc : CntOk cs) (t : T) (h : bT t) : f_is_opening [t, .dct cs] = some (.bl (openingB cs t)) := by
  cases t with
  | tup ts =>
    obtain ⟨hb, hz⟩ := h
    have len : ∀ n : Nat, xb (Z := Z0) (x2 (eqX true) (xCall lenT (xCons (xName 0) xNil)) (xC (T.int (n : Int)))) [.im (.tup ts), .im (.dct cs), .un, .un, .un, .un, .un] () = some (!decide (ts.length = n), ()) := fun n => by
      refine ev_xb (ev_x2 (Z := Z0) (op := eqX true) (b := .int (n : Int)) (s1 := (() : Z0.S)) (s2 := (() : Z0.S)) (len_tup rfl) rfl ?_)
      rw [eq_int]
      have : decide ((ts.length : Nat) = (n : Int)) = decide (ts.length = n) := by
        by_cases hh : ts.length = n
        · simp [hh]
        · rw [decide_eq_false hh, decide_eq_false (by omega)]
      simp only [if_true, this]
    have out : ts.length ≠ 4 → f_is_opening [.tup ts, .dct cs] = some (.bl false) := fun h4 => by
      have l4 := len 4
      rw [decide_eq_false h4] at l4
      exact ev_fp rfl (ev_seq_rt (ev_if_t (ev_or_f (not_tup (Z := Z0) rfl) l4) (ev_ret rfl)))
    by_cases h4 : ts.length = 4
    · obtain ⟨w, k, g, n, rfl⟩ : ∃ w k g n, ts = [w, k, g, n] := by
        match ts, h4 with
        | [w, k, g, n], _ => exact ⟨w, k, g, n, rfl⟩
      obtain ⟨hw, hk, hg, hn, _⟩ := hb
      have l4 := len 4
      rw [decide_eq_true h4] at l4
      let R : List SV := [.im (.tup [w, k, g, n]), .im (.dct cs), .im w, .im k, .im g, .im n, .un]
      refine ev_fp rfl (ev_seq (Z := Z0) (τ' := [.im (.tup [w, k, g, n]), .im (.dct cs), .un, .un, .un, .un, .un]) (s1 := (() : Z0.S)) (ev_if_f (Z := Z0) (g' := sSkip) (s1 := (() : Z0.S)) (ev_or_f (Z := Z0) (s1 := (() : Z0.S)) (s2 := (() : Z0.S)) (k := false) (not_tup (Z := Z0) rfl) l4) rfl) ?_)
      refine ev_seq (Z := Z0) (τ' := R) (s1 := (() : Z0.S)) (ev_asg (Z := Z0) (s1 := (() : Z0.S)) (ev_name rfl) rfl) ?_
      show _ = some (Out.rt (T.bl (isWord w && (!inB cs w && (isWord k && (inB cs k && (wholeB 0 (cntB cs k) g && needsB cs (cntB cs k) n)))))) ())
      have ww : xbNot (Z := Z0) (xTru (xCallP f_is_word (xCons (xName 2) xNil))) R () = some (!isWord w, ()) := ev_bnot (ev_tru (ev_callP (Z := Z0) (s1 := (() : Z0.S)) (ev_cons (ev_name rfl) ev_nil) (word_t w hw).1) rfl)
      have wk : xbNot (Z := Z0) (xTru (xCallP f_is_word (xCons (xName 3) xNil))) R () = some (!isWord k, ()) := ev_bnot (ev_tru (ev_callP (Z := Z0) (s1 := (() : Z0.S)) (ev_cons (ev_name rfl) ev_nil) (word_t k hk).1) rfl)
      cases h1 : isWord w with
      | false =>
        rw [h1] at ww
        exact ev_seq_rt (Z := Z0) (ev_if_t (Z := Z0) (s1 := (() : Z0.S)) (ev_or_t ww) (ev_ret rfl))
      | true =>
      rw [h1] at ww
      obtain ⟨x, rfl⟩ := word_str h1
      have iw : xb (Z := Z0) (x2 (inXD false) (xName 2) (xName 1)) R () = some (inB cs (.str x), ()) := ev_xb (ev_x2 (Z := Z0) (op := inXD false) (s1 := (() : Z0.S)) (s2 := (() : Z0.S)) (ev_name rfl) (ev_name rfl) (in_dct false x cs))
      cases h2 : inB cs (.str x) with
      | true =>
        rw [h2] at iw
        exact ev_seq_rt (Z := Z0) (ev_if_t (Z := Z0) (s1 := (() : Z0.S)) (ev_or_f (Z := Z0) (s1 := (() : Z0.S)) (s2 := (() : Z0.S)) (k := true) ww (ev_or_t iw)) (ev_ret rfl))
      | false =>
      rw [h2] at iw
      cases h3 : isWord k with
      | false =>
        rw [h3] at wk
        exact ev_seq_rt (Z := Z0) (ev_if_t (Z := Z0) (s1 := (() : Z0.S)) (ev_or_f (Z := Z0) (s1 := (() : Z0.S)) (s2 := (() : Z0.S)) (k := true) ww (ev_or_f (Z := Z0) (s1 := (() : Z0.S)) (s2 := (() : Z0.S)) (k := true) iw (ev_or_t wk))) (ev_ret rfl))
      | true =>
      rw [h3] at wk
      obtain ⟨y, rfl⟩ := word_str h3
      have ik : xb (Z := Z0) (x2 (inXD true) (xName 3) (xName 1)) R () = some (!inB cs (.str y), ()) := ev_xb (ev_x2 (Z := Z0) (op := inXD true) (s1 := (() : Z0.S)) (s2 := (() : Z0.S)) (ev_name rfl) (ev_name rfl) (in_dct true y cs))
      cases h4 : inB cs (.str y) with
      | false =>
        rw [h4] at ik
        exact ev_seq_rt (Z := Z0) (ev_if_t (Z := Z0) (s1 := (() : Z0.S)) (ev_or_f (Z := Z0) (s1 := (() : Z0.S)) (s2 := (() : Z0.S)) (k := true) ww (ev_or_f (Z := Z0) (s1 := (() : Z0.S)) (s2 := (() : Z0.S)) (k := true) iw (ev_or_f (Z := Z0) (s1 := (() : Z0.S)) (s2 := (() : Z0.S)) (k := true) wk ik))) (ev_ret rfl))
      | true =>
      rw [h4] at ik
      have gk := cnt_get hc h4
      refine ev_seq (Z := Z0) (τ' := R) (s1 := (() : Z0.S)) (ev_if_f (Z := Z0) (g' := sSkip) (s1 := (() : Z0.S)) (ev_or_f (Z := Z0) (s1 := (() : Z0.S)) (s2 := (() : Z0.S)) (k := false) ww (ev_or_f (Z := Z0) (s1 := (() : Z0.S)) (s2 := (() : Z0.S)) (k := false) iw (ev_or_f (Z := Z0) (s1 := (() : Z0.S)) (s2 := (() : Z0.S)) (k := false) wk ik))) rfl) ?_
      have dg : ∀ τ : List SV, τ[1]? = some (.im (.dct cs)) → τ[3]? = some (.im (.str y)) → x2 (Z := Z0) dgetT (xName 1) (xName 3) τ () = some (.int (cntB cs (.str y)), ()) := fun τ e1 e3 => ev_x2 (Z := Z0) (op := dgetT) (s1 := (() : Z0.S)) (s2 := (() : Z0.S)) (ev_name e1) (ev_name e3) gk
      have wg : xbNot (Z := Z0) (xTru (xCallP f_is_whole (xCons (xName 4) (xCons (xC (T.int 0)) (xCons (x2 dgetT (xName 1) (xName 3)) xNil))))) R () = some (!wholeB 0 (cntB cs (.str y)) g, ()) :=
        ev_bnot (ev_tru (ev_callP (Z := Z0) (s1 := (() : Z0.S)) (ev_cons (ev_name rfl) (ev_cons rfl (ev_cons (dg _ rfl rfl) ev_nil))) (whole_p g hg 0 _)) rfl)
      cases h5 : wholeB 0 (cntB cs (.str y)) g with
      | false =>
        rw [h5] at wg
        exact ev_seq_rt (Z := Z0) (ev_if_t (Z := Z0) (s1 := (() : Z0.S)) (ev_or_t wg) (ev_ret rfl))
      | true =>
      rw [h5] at wg
      by_cases hnt : ∃ l, n = .tup l
      · obtain ⟨l, rfl⟩ := hnt
        obtain ⟨hbl, hzl⟩ := hn
        have tn : xbNot (Z := Z0) (xTru (xIs "tuple" (xName 5))) R () = some (false, ()) := not_tup (Z := Z0) rfl
        have gl : xb (Z := Z0) (x2 gtX (xCall lenT (xCons (xName 5) xNil)) (xC (T.int 2))) R () = some (!decide (l.length ≤ 2), ()) := by
          refine ev_xb (ev_x2 (Z := Z0) (op := gtX) (a := .int l.length) (b := .int 2) (s1 := (() : Z0.S)) (s2 := (() : Z0.S)) (len_tup rfl) rfl ?_)
          show some (T.bl (decide ((2 : Int) < l.length))) = _
          by_cases hh : l.length ≤ 2
          · rw [decide_eq_true hh, decide_eq_false (by omega)]
            rfl
          · rw [decide_eq_false hh, decide_eq_true (by omega)]
            rfl
        show _ = some (Out.rt (T.bl (!false && (true && (true && (true && (decide (l.length ≤ 2) && l.all (needB cs (cntB cs (.str y)))))))) ) ())
        cases h6 : decide (l.length ≤ 2) with
        | false =>
          rw [h6] at gl
          exact ev_seq_rt (Z := Z0) (ev_if_t (Z := Z0) (s1 := (() : Z0.S)) (ev_or_f (Z := Z0) (s1 := (() : Z0.S)) (s2 := (() : Z0.S)) (k := true) wg (ev_or_f (Z := Z0) (s1 := (() : Z0.S)) (s2 := (() : Z0.S)) (k := true) tn gl)) (ev_ret rfl))
        | true =>
          rw [h6] at gl
          refine ev_seq (Z := Z0) (τ' := R) (s1 := (() : Z0.S)) (ev_if_f (Z := Z0) (g' := sSkip) (s1 := (() : Z0.S)) (ev_or_f (Z := Z0) (s1 := (() : Z0.S)) (s2 := (() : Z0.S)) (k := false) wg (ev_or_f (Z := Z0) (s1 := (() : Z0.S)) (s2 := (() : Z0.S)) (k := false) tn gl)) rfl) ?_
          have c := lcGo_mapped (Z := Z0) (gt := gSet 6) (fe := xCallP f_is_need (xCons (xName 6) (xCons (x2 dgetT (xName 1) (xName 3)) (xCons (xName 1) xNil)))) (τ := R) (s := (() : Z0.S)) (f := id) (h := fun t => T.bl (needB cs (cntB cs (.str y)) t)) l fun t ht =>
            ⟨[.im (.tup [.str x, .str y, g, .tup l]), .im (.dct cs), .im (.str x), .im (.str y), .im g, .im (.tup l), .im t], rfl, ev_callP (Z := Z0) (s1 := (() : Z0.S)) (ev_cons (ev_name rfl) (ev_cons (dg _ rfl rfl) (ev_cons (ev_name rfl) ev_nil))) (need_p hc _ t (bL_mem hbl ht))⟩
          rw [List.map_id] at c
          have lc : xLc (Z := Z0) [6] (iTupl (xName 5)) (gSet 6) xYes (xCallP f_is_need (xCons (xName 6) (xCons (x2 dgetT (xName 1) (xName 3)) (xCons (xName 1) xNil)))) R () = some (.lst ((l.map (needB cs (cntB cs (.str y)))).map T.bl), ()) := by
            refine ev_lc (Z := Z0) (items := l) (s1 := (() : Z0.S)) (ev_tupl (Z := Z0) (ev_name rfl)) (sz (by omega)) rfl ?_
            rw [List.map_map]
            exact c
          refine ev_ret (ev_call (ev_cons lc ev_nil) ?_)
          rw [allT_map, List.all_map]
          rfl
      · have tn : xbNot (Z := Z0) (xTru (xIs "tuple" (xName 5))) R () = some (true, ()) := by
          have hi : isTy "tuple" n = some false := by
            cases n <;> first | rfl | exact absurd ⟨_, rfl⟩ hnt | exact hn.elim
          exact ev_bnot (k := false) (ev_tru (ev_is (ev_name rfl) hi) rfl)
        have e : needsB cs (cntB cs (.str y)) n = false := by
          cases n <;> first | rfl | exact absurd ⟨_, rfl⟩ hnt
        rw [e]
        exact ev_seq_rt (Z := Z0) (ev_if_t (Z := Z0) (s1 := (() : Z0.S)) (ev_or_f (Z := Z0) (s1 := (() : Z0.S)) (s2 := (() : Z0.S)) (k := true) wg (ev_or_t tn)) (ev_ret rfl))
    · have e : openingB cs (.tup ts) = false := by
        unfold openingB
        split
        · rename_i heq
          injection heq with heq
          rw [heq] at h4
          exact absurd rfl h4
        · rfl
      rw [e]
      exact out h4
  | non => rfl
  | bl b => rfl
  | int b => rfl
  | str b => rfl
  | lst b => rfl
  | dct b => rfl
  | _ => exact h.elim
end L2.TL
namespace L2.TL
open PySem PySem.Spec
open PyProof.Rows
def openB (cs : List (Key × T)) : T → Bool
  | .tup ts => ts.all (openingB cs) && ascB (ts.map headS)
  | _ => false
theorem opening_head {cs : List (Key × T)} {t : T} (h : openingB cs t = true) : ∃ x y g l, t = .tup [.str x, .str y, g, .tup l] ∧ wordB x = true ∧ inB cs (.str x) = false ∧ wordB y = true ∧ inB cs (.str y) = true ∧ wholeB 0 (cntB cs (.str y)) g = true ∧ l.length ≤ 2 ∧ l.all (needB cs (cntB cs (.str y))) = true := by
  unfold openingB at h
  split at h
  · rename_i w k g n
    simp only [Bool.and_eq_true, Bool.not_eq_true'] at h
    obtain ⟨h1, h2, h3, h4, h5, h6⟩ := h
    obtain ⟨x, rfl⟩ := word_str h1
    obtain ⟨y, rfl⟩ := word_str h3
    cases n <;> first | (cases h6; done) | skip
    rename_i l
    have h6 : (decide (l.length ≤ 2) && l.all (needB cs (cntB cs (.str y)))) = true := h6
    rw [Bool.and_eq_true, decide_eq_true_eq] at h6
    exact ⟨x, y, g, l, rfl, h1, h2, h3, h4, h5, h6.1, h6.2⟩
  · cases h
theorem openings_p {k : T} (hk : kindsB k = true) (t : T) (h : bT t) : f_are_openings [t, k] = some (.bl (openB (cntOf k) t)) := by
  obtain ⟨ks, rfl, d1, _, _, hc⟩ := cnt_ok hk
  generalize cntOf (.tup ks) = cs at d1 hc
  have st : sSet (Z := Z0) 2 (xCall dictX (xCons (xName 1) xNil)) [.im t, .im (.tup ks), .un, .un] () = some (.nx [.im t, .im (.tup ks), .im (.dct cs), .un] ()) := ev_set (Z := Z0) (s1 := (() : Z0.S)) (ev_call (ev_cons (ev_name rfl) ev_nil) d1) (by simp)
  refine ev_fp rfl (ev_seq (Z := Z0) (s1 := (() : Z0.S)) st ?_)
  by_cases hnt : ∃ ts, t = .tup ts
  · obtain ⟨ts, rfl⟩ := hnt
    obtain ⟨hb, hz⟩ := h
    have c := lcGo_mapped (Z := Z0) (gt := gSet 3) (fe := xCallP f_is_opening (xCons (xName 3) (xCons (xName 2) xNil))) (τ := [.im (.tup ts), .im (.tup ks), .im (.dct cs), .un]) (s := (() : Z0.S)) (f := id) (h := fun t => T.bl (openingB cs t)) ts fun t ht =>
      ⟨[.im (.tup ts), .im (.tup ks), .im (.dct cs), .im t], rfl, ev_callP (Z := Z0) (s1 := (() : Z0.S)) (ev_cons (ev_name rfl) (ev_cons (ev_name rfl) ev_nil)) (opening_p hc t (bL_mem hb ht))⟩
    rw [List.map_id] at c
    have lc : xLc (Z := Z0) [3] (iTupl (xName 0)) (gSet 3) xYes (xCallP f_is_opening (xCons (xName 3) (xCons (xName 2) xNil))) [.im (.tup ts), .im (.tup ks), .im (.dct cs), .un] () = some (.lst ((ts.map (openingB cs)).map T.bl), ()) := by
      refine ev_lc (Z := Z0) (items := ts) (s1 := (() : Z0.S)) (ev_tupl (Z := Z0) (ev_name rfl)) (sz (by omega)) rfl ?_
      rw [List.map_map]
      exact c
    have al : xTru (Z := Z0) (xCall allT (xCons (xLc [3] (iTupl (xName 0)) (gSet 3) xYes (xCallP f_is_opening (xCons (xName 3) (xCons (xName 2) xNil)))) xNil)) [.im (.tup ts), .im (.tup ks), .im (.dct cs), .un] () = some (ts.all (openingB cs), ()) := by
      refine ev_tru (ev_call (ev_cons lc ev_nil) (allT_map _)) ?_
      rw [List.all_map]
      rfl
    show _ = some (Out.rt (T.bl (ts.all (openingB cs) && ascB (ts.map headS))) ())
    cases ha : ts.all (openingB cs) with
    | false =>
      rw [ha] at al
      exact ev_seq_rt (Z := Z0) (ev_if_t (Z := Z0) (s1 := (() : Z0.S)) (ev_or_f (Z := Z0) (s1 := (() : Z0.S)) (s2 := (() : Z0.S)) (k := true) (not_tup (Z := Z0) rfl) (ev_bnot (k := false) al)) (ev_ret rfl))
    | true =>
      rw [ha] at al
      refine ev_seq (Z := Z0) (τ' := [.im (.tup ts), .im (.tup ks), .im (.dct cs), .un]) (s1 := (() : Z0.S)) (ev_if_f (Z := Z0) (g' := sSkip) (s1 := (() : Z0.S)) (ev_or_f (Z := Z0) (s1 := (() : Z0.S)) (s2 := (() : Z0.S)) (k := false) (not_tup (Z := Z0) rfl) (ev_bnot (k := true) al)) rfl) ?_
      have c2 := lcGo_mapped (Z := Z0) (gt := gSet 3) (fe := x2 ixT (xName 3) (xC (T.int 0))) (τ := [.im (.tup ts), .im (.tup ks), .im (.dct cs), .un]) (s := (() : Z0.S)) (f := id) (h := fun t => T.str (headS t)) ts fun t ht => by
        obtain ⟨x, y, g, l, rfl, _⟩ := opening_head (List.all_eq_true.mp ha t ht)
        exact ⟨[.im (.tup ts), .im (.tup ks), .im (.dct cs), .im (.tup [.str x, .str y, g, .tup l])], rfl, ev_x2 (Z := Z0) (op := ixT) (b := .int 0) (s1 := (() : Z0.S)) (s2 := (() : Z0.S)) (ev_name rfl) rfl rfl⟩
      rw [List.map_id] at c2
      have lc2 : xLc (Z := Z0) [3] (iTupl (xName 0)) (gSet 3) xYes (x2 ixT (xName 3) (xC (T.int 0))) [.im (.tup ts), .im (.tup ks), .im (.dct cs), .un] () = some (.lst ((ts.map headS).map T.str), ()) := by
        refine ev_lc (Z := Z0) (items := ts) (s1 := (() : Z0.S)) (ev_tupl (Z := Z0) (ev_name rfl)) (sz (by omega)) rfl ?_
        rw [List.map_map]
        exact c2
      exact ev_ret (ev_callP (Z := Z0) (s1 := (() : Z0.S)) (ev_cons lc2 ev_nil) (ascends_eq _ (by rw [List.length_map]; exact hz)))
  · have hi : isTy "tuple" t = some false := by
      cases t <;> first | rfl | exact absurd ⟨_, rfl⟩ hnt | exact h.elim
    have e : openB cs t = false := by
      cases t <;> first | rfl | exact absurd ⟨_, rfl⟩ hnt
    rw [e]
    exact ev_seq_rt (Z := Z0) (ev_if_t (Z := Z0) (s1 := (() : Z0.S)) (ev_or_t (ev_bnot (k := false) (ev_tru (ev_is (ev_name rfl) hi) rfl))) (ev_ret rfl))
end L2.TL
namespace L2.TL
open PySem PySem.Spec
open PyProof.Rows
theorem eqX_nilL {ts : List T} {c : T} (h : eqX true (.lst ts) (.lst []) = some c) : c = .bl (!ts.isEmpty) := by
  have e : eqX true (.lst ts) (.lst []) = eqT true (.lst ts) (.lst []) := rfl
  rw [e] at h
  unfold eqT at h
  split at h
  · cases h
    have : PyData.eqv (T.d (.lst ts)) (T.d (.lst [])) = ts.isEmpty := by
      cases ts with
      | nil => simp [T.d, dL, PyData.eqv, PyData.eqvAll]
      | cons a r => simp [T.d, dL, PyData.eqv, PyData.eqvAll]
    rw [this]
    rfl
  · cases h
theorem neY_nilL (ts : List T) : neY (.lst ts) (.lst []) = some (.bl (!ts.isEmpty)) := by
  unfold neY orT
  cases h : eqX true (.lst ts) (.lst []) with
  | some c => rw [eqX_nilL h]
  | none => rfl
theorem ev_get2 {Z : Res} {fo fi ff : EF Z} {τ : List SV} {s s1 s2 s3 : Z.S} {ps : List (Key × T)} {k d : T} {kk : Key} (h1 : fo τ s = some (.dct ps, s1)) (h2 : fi τ s1 = some (k, s2)) (h3 : ff τ s2 = some (d, s3)) (hk : keyOf k = some kk) : xGet2 fo fi ff τ s = some ((getT ps kk).getD d, s3) := by
  unfold xGet2
  simp only [h1, h2, h3, hk]
theorem not_someT {l : List T} {p : T → Bool} : (l.filter fun i => !p i).isEmpty = l.all p := by
  induction l with
  | nil => rfl
  | cons a r ih =>
    rw [List.filter_cons, List.all_cons]
    cases p a with
    | true => simpa using ih
    | false => rfl
abbrev opA : SF Z0 := sIf (xbOr (xbNot (xTru (xIs "tuple" (xName 4)))) (xbOr (xb (x2 (eqX true) (xCall lenT (xCons (xName 4) (xNil))) (xC (T.int 4)))) (xbOr (xbNot (xTru (xCallP (f_law_is_word) (xCons (x2 ixT (xName 4) (xC (T.int 0))) (xNil))))) (xbNot (xTru (xIs "str" (x2 ixT (xName 4) (xC (T.int 1))))))))) (sRet (xC (T.bl false))) (sSkip)
abbrev opB : SF Z0 := sIf (xbOr (xbNot (xb (x2 ltX (xName 3) (x2 ixT (xName 4) (xC (T.int 0)))))) (xbOr (xb (x2 (inXD false) (x2 ixT (xName 4) (xC (T.int 0))) (xName 2))) (xbNot (xTru (xCallP (f_law_is_whole) (xCons (x2 ixT (xName 4) (xC (T.int 2))) (xCons (xC (T.int 0)) (xCons (x2 subI (xName 5) (xC (T.int 1))) (xNil))))))))) (sRet (xC (T.bl false))) (sSkip)
abbrev opC : SF Z0 := sIf (xbOr (xbNot (xTru (xIs "tuple" (x2 ixT (xName 4) (xC (T.int 3)))))) (xb (x2 gtX (xCall lenT (xCons (x2 ixT (xName 4) (xC (T.int 3))) (xNil))) (xC (T.int 2))))) (sRet (xC (T.bl false))) (sSkip)
abbrev opD : SF Z0 := sIf (xb (x2 neY (xLc [6] (iTupl (x2 ixT (xName 4) (xC (T.int 3)))) (gSet 6) (xbNot (xTru (xCallP (f_law_is_need) (xCons (xName 2) (xCons (xName 5) (xCons (xName 6) (xNil))))))) (xName 6)) (xLst (xNil)))) (sRet (xC (T.bl false))) (sSkip)
abbrev opBody : SF Z0 := sSeq opA (sSeq (sSet 5 (xGet2 (xName 2) (x2 ixT (xName 4) (xC (T.int 1))) (xC (T.int 0)))) (sSeq opB (sSeq opC (sSeq opD (sSet 3 (x2 ixT (xName 4) (xC (T.int 0))))))))
abbrev Lo (ks o : T) (cs : List (Key × T)) (a : Str) (t : T) (x5 : SV) : List SV := [.im ks, .im o, .im (.dct cs), .im (.str a), .im t, x5, .un]
theorem op_body {cs : List (Key × T)} (hc : CntOk cs) (ks o : T) (a : Str) (x5 : SV) (t : T) (h : bT t) :
    (openingB cs t = true ∧ sLt a (headS t) = true → ∃ y5, opBody (Lo ks o cs a t x5) () = some (.nx (Lo ks o cs (headS t) t y5) ())) ∧
    (¬ (openingB cs t = true ∧ sLt a (headS t) = true) → opBody (Lo ks o cs a t x5) () = some (.rt (.bl false) ())) := by
  have no2 : (openingB cs t && sLt a (headS t)) = false → opBody (Lo ks o cs a t x5) () = some (.rt (.bl false) ()) → (openingB cs t = true ∧ sLt a (headS t) = true → ∃ y5, opBody (Lo ks o cs a t x5) () = some (.nx (Lo ks o cs (headS t) t y5) ())) ∧
    (¬ (openingB cs t = true ∧ sLt a (headS t) = true) → opBody (Lo ks o cs a t x5) () = some (.rt (.bl false) ())) := fun h1 h2 => ⟨fun z => (by rw [z.1, z.2] at h1; cases h1), fun _ => h2⟩
  have no : openingB cs t = false → opBody (Lo ks o cs a t x5) () = some (.rt (.bl false) ()) → (openingB cs t = true ∧ sLt a (headS t) = true → ∃ y5, opBody (Lo ks o cs a t x5) () = some (.nx (Lo ks o cs (headS t) t y5) ())) ∧
    (¬ (openingB cs t = true ∧ sLt a (headS t) = true) → opBody (Lo ks o cs a t x5) () = some (.rt (.bl false) ())) := fun h1 h2 => no2 (by rw [h1]; rfl) h2
  by_cases hnt : ∃ ts, t = .tup ts
  · obtain ⟨ts, rfl⟩ := hnt
    obtain ⟨hb, hz⟩ := h
    have nt : xbNot (Z := Z0) (xTru (xIs "tuple" (xName 4))) (Lo ks o cs a (.tup ts) x5) () = some (false, ()) := not_tup (Z := Z0) rfl
    have len : xb (Z := Z0) (x2 (eqX true) (xCall lenT (xCons (xName 4) xNil)) (xC (T.int 4))) (Lo ks o cs a (.tup ts) x5) () = some (!decide (ts.length = 4), ()) := by
      refine ev_xb (ev_x2 (Z := Z0) (op := eqX true) (b := .int 4) (s1 := (() : Z0.S)) (s2 := (() : Z0.S)) (len_tup rfl) rfl ?_)
      rw [eq_int]
      have : decide ((ts.length : Nat) = (4 : Int)) = decide (ts.length = 4) := by
        by_cases hh : ts.length = 4
        · simp [hh]
        · rw [decide_eq_false hh, decide_eq_false (by omega)]
      simp only [if_true, this]
    by_cases h4 : ts.length = 4
    · obtain ⟨w, k, g, n, rfl⟩ : ∃ w k g n, ts = [w, k, g, n] := by
        match ts, h4 with
        | [w, k, g, n], _ => exact ⟨w, k, g, n, rfl⟩
      obtain ⟨hw, hk, hg, hn, _⟩ := hb
      rw [decide_eq_true h4] at len
      have at_ : ∀ (i : Nat) (b : T), ([w, k, g, n] : List T)[i]? = some b → ∀ τ : List SV, τ[4]? = some (.im (.tup [w, k, g, n])) → x2 (Z := Z0) ixT (xName 4) (xC (T.int (i : Int))) τ () = some (b, ()) := fun i b hi τ h2 => by
        have hl : i < ([w, k, g, n] : List T).length := (List.getElem?_eq_some_iff.mp hi).1
        refine ev_x2 (Z := Z0) (op := ixT) (b := .int (i : Int)) (s1 := (() : Z0.S)) (s2 := (() : Z0.S)) (ev_name h2) rfl ?_
        show atI ([w, k, g, n] : List T) (i : Int) = _
        rw [atI_nat' hl]
        rw [List.getElem?_eq_getElem hl] at hi
        exact hi
      have ww : xbNot (Z := Z0) (xTru (xCallP f_law_is_word (xCons (x2 ixT (xName 4) (xC (T.int 0))) xNil))) (Lo ks o cs a (.tup [w, k, g, n]) x5) () = some (!isWord w, ()) := ev_bnot (ev_tru (ev_callP (Z := Z0) (s1 := (() : Z0.S)) (ev_cons (at_ 0 w rfl _ rfl) ev_nil) (word_t w hw).2) rfl)
      cases h1 : isWord w with
      | false =>
        rw [h1] at ww
        refine no (by show (isWord w && _) = false; rw [h1]; rfl) ?_
        exact ev_seq_rt (Z := Z0) (ev_if_t (Z := Z0) (s1 := (() : Z0.S)) (ev_or_f (Z := Z0) (s1 := (() : Z0.S)) (s2 := (() : Z0.S)) (k := true) nt (ev_or_f (Z := Z0) (s1 := (() : Z0.S)) (s2 := (() : Z0.S)) (k := true) len (ev_or_t ww))) (ev_ret rfl))
      | true =>
      rw [h1] at ww
      obtain ⟨x, rfl⟩ := word_str h1
      have spec : openingB cs (.tup [.str x, k, g, n]) = (!inB cs (.str x) && (isWord k && (inB cs k && (wholeB 0 (cntB cs k) g && needsB cs (cntB cs k) n)))) := by
        show (isWord (.str x) && _) = _
        rw [h1, Bool.true_and]
      by_cases hks : ∃ y, k = .str y
      · obtain ⟨y, rfl⟩ := hks
        have kS : xbNot (Z := Z0) (xTru (xIs "str" (x2 ixT (xName 4) (xC (T.int 1))))) (Lo ks o cs a (.tup [.str x, .str y, g, n]) x5) () = some (false, ()) := ev_bnot (k := true) (ev_tru (ev_is (at_ 1 _ rfl _ rfl) rfl) rfl)
        have stA : opA (Lo ks o cs a (.tup [.str x, .str y, g, n]) x5) () = some (.nx (Lo ks o cs a (.tup [.str x, .str y, g, n]) x5) ()) :=
          ev_if_f (Z := Z0) (g' := sSkip) (s1 := (() : Z0.S)) (ev_or_f (Z := Z0) (s1 := (() : Z0.S)) (s2 := (() : Z0.S)) (k := false) nt (ev_or_f (Z := Z0) (s1 := (() : Z0.S)) (s2 := (() : Z0.S)) (k := false) len (ev_or_f (Z := Z0) (s1 := (() : Z0.S)) (s2 := (() : Z0.S)) (k := false) ww kS))) rfl
        have g0 : (getT cs (.inr y)).getD (.int 0) = .int (cntB cs (.str y)) := by
          cases e : getT cs (.inr y) with
          | none => simp only [cntB, e, Option.getD]
          | some t =>
            obtain ⟨m, rfl, _⟩ := hc.get e
            simp only [cntB, e, Option.getD]
        have gg : xGet2 (Z := Z0) (xName 2) (x2 ixT (xName 4) (xC (T.int 1))) (xC (T.int 0)) (Lo ks o cs a (.tup [.str x, .str y, g, n]) x5) () = some (.int (cntB cs (.str y)), ()) := by
          rw [← g0]
          exact ev_get2 (Z := Z0) (s1 := (() : Z0.S)) (s2 := (() : Z0.S)) (s3 := (() : Z0.S)) (ev_name rfl) (at_ 1 (.str y) rfl _ rfl) rfl rfl
        have st5 : sSet (Z := Z0) 5 (xGet2 (xName 2) (x2 ixT (xName 4) (xC (T.int 1))) (xC (T.int 0))) (Lo ks o cs a (.tup [.str x, .str y, g, n]) x5) () = some (.nx (Lo ks o cs a (.tup [.str x, .str y, g, n]) (.im (.int (cntB cs (.str y))))) ()) := ev_set (Z := Z0) (s1 := (() : Z0.S)) gg (by simp)
        generalize hm : cntB cs (.str y) = m at *
        let R : List SV := Lo ks o cs a (.tup [.str x, .str y, g, n]) (.im (.int m))
        have hd : headS (.tup [.str x, .str y, g, n]) = x := rfl
        have lt : xbNot (Z := Z0) (xb (x2 ltX (xName 3) (x2 ixT (xName 4) (xC (T.int 0))))) R () = some (!sLt a x, ()) := ev_bnot (ev_xb (ev_x2 (Z := Z0) (op := ltX) (a := .str a) (b := .str x) (s1 := (() : Z0.S)) (s2 := (() : Z0.S)) (ev_name rfl) (at_ 0 _ rfl _ rfl) rfl))
        have ix : xb (Z := Z0) (x2 (inXD false) (x2 ixT (xName 4) (xC (T.int 0))) (xName 2)) R () = some (inB cs (.str x), ()) := ev_xb (ev_x2 (Z := Z0) (op := inXD false) (s1 := (() : Z0.S)) (s2 := (() : Z0.S)) (at_ 0 _ rfl _ rfl) (ev_name rfl) (in_dct false x cs))
        have sub1 : x2 (Z := Z0) subI (xName 5) (xC (T.int 1)) R () = some (.int (m - 1), ()) := ev_x2 (Z := Z0) (op := subI) (b := .int 1) (s1 := (() : Z0.S)) (s2 := (() : Z0.S)) (ev_name rfl) rfl rfl
        have wg : xbNot (Z := Z0) (xTru (xCallP f_law_is_whole (xCons (x2 ixT (xName 4) (xC (T.int 2))) (xCons (xC (T.int 0)) (xCons (x2 subI (xName 5) (xC (T.int 1))) xNil))))) R () = some (!wholeB 0 m g, ()) := by
          have e := whole_l g hg 0 (m - 1)
          rw [show m - 1 + 1 = m by omega] at e
          exact ev_bnot (ev_tru (ev_callP (Z := Z0) (s1 := (() : Z0.S)) (ev_cons (at_ 2 g rfl _ rfl) (ev_cons rfl (ev_cons sub1 ev_nil))) e) rfl)
        have toB : ∀ {r : Out Z0.S}, sSeq opB (sSeq opC (sSeq opD (sSet 3 (x2 ixT (xName 4) (xC (T.int 0)))))) R () = some r → opBody (Lo ks o cs a (.tup [.str x, .str y, g, n]) x5) () = some r := fun h => ev_seq (Z := Z0) stA (ev_seq (Z := Z0) st5 h)
        cases h2 : sLt a x with
        | false =>
          rw [h2] at lt
          exact no2 (by rw [hd, h2, Bool.and_false]) (toB (ev_seq_rt (Z := Z0) (ev_if_t (Z := Z0) (s1 := (() : Z0.S)) (ev_or_t lt) (ev_ret rfl))))
        | true =>
        rw [h2] at lt
        cases h3 : inB cs (.str x) with
        | true =>
          rw [h3] at ix
          exact no (by rw [spec, h3]; rfl) (toB (ev_seq_rt (Z := Z0) (ev_if_t (Z := Z0) (s1 := (() : Z0.S)) (ev_or_f (Z := Z0) (s1 := (() : Z0.S)) (s2 := (() : Z0.S)) (k := true) lt (ev_or_t ix)) (ev_ret rfl))))
        | false =>
        rw [h3] at ix
        cases h4' : wholeB 0 m g with
        | false =>
          rw [h4'] at wg
          exact no (by rw [spec, h4']; simp) (toB (ev_seq_rt (Z := Z0) (ev_if_t (Z := Z0) (s1 := (() : Z0.S)) (ev_or_f (Z := Z0) (s1 := (() : Z0.S)) (s2 := (() : Z0.S)) (k := true) lt (ev_or_f (Z := Z0) (s1 := (() : Z0.S)) (s2 := (() : Z0.S)) (k := true) ix wg)) (ev_ret rfl))))
        | true =>
        rw [h4'] at wg
        have pos : 0 < m := by
          cases g <;> first | (cases h4'; done) | skip
          rename_i i
          have h4' : (decide (0 ≤ i) && decide (i < m)) = true := h4'
          rw [Bool.and_eq_true, decide_eq_true_eq, decide_eq_true_eq] at h4'
          omega
        have iny : inB cs (.str y) = true := by
          cases e : getT cs (.inr y) with
          | none =>
            have : cntB cs (.str y) = 0 := by simp only [cntB, e]
            omega
          | some t => simp only [inB, e, Option.isSome]
        have wy : isWord (.str y) = true := by
          have e : (getT cs (.inr y)).isSome = true := iny
          obtain ⟨t, e⟩ := Option.isSome_iff_exists.mp e
          obtain ⟨_, _, _, _, z, hz1, hz2⟩ := hc.get e
          cases hz1
          exact hz2
        have spec2 : openingB cs (.tup [.str x, .str y, g, n]) = needsB cs m n := by
          rw [spec, h3, wy, iny, h4']
          rfl
        have toC : ∀ {r : Out Z0.S}, sSeq opC (sSeq opD (sSet 3 (x2 ixT (xName 4) (xC (T.int 0))))) R () = some r → opBody (Lo ks o cs a (.tup [.str x, .str y, g, n]) x5) () = some r := fun h =>
          toB (ev_seq (Z := Z0) (τ' := R) (s1 := (() : Z0.S)) (ev_if_f (Z := Z0) (g' := sSkip) (s1 := (() : Z0.S)) (ev_or_f (Z := Z0) (s1 := (() : Z0.S)) (s2 := (() : Z0.S)) (k := false) lt (ev_or_f (Z := Z0) (s1 := (() : Z0.S)) (s2 := (() : Z0.S)) (k := false) ix wg)) rfl) h)
        have i3 : x2 (Z := Z0) ixT (xName 4) (xC (T.int 3)) R () = some (n, ()) := at_ 3 n rfl _ rfl
        by_cases hnt : ∃ l, n = .tup l
        · obtain ⟨l, rfl⟩ := hnt
          obtain ⟨hbl, hzl⟩ := hn
          have tn : xbNot (Z := Z0) (xTru (xIs "tuple" (x2 ixT (xName 4) (xC (T.int 3))))) R () = some (false, ()) := ev_bnot (k := true) (ev_tru (ev_is i3 rfl) rfl)
          have gl : xb (Z := Z0) (x2 gtX (xCall lenT (xCons (x2 ixT (xName 4) (xC (T.int 3))) xNil)) (xC (T.int 2))) R () = some (!decide (l.length ≤ 2), ()) := by
            refine ev_xb (ev_x2 (Z := Z0) (op := gtX) (a := .int l.length) (b := .int 2) (s1 := (() : Z0.S)) (s2 := (() : Z0.S)) (ev_call (ev_cons i3 ev_nil) rfl) rfl ?_)
            show some (T.bl (decide ((2 : Int) < l.length))) = _
            by_cases hh : l.length ≤ 2
            · rw [decide_eq_true hh, decide_eq_false (by omega)]
              rfl
            · rw [decide_eq_false hh, decide_eq_true (by omega)]
              rfl
          cases h6 : decide (l.length ≤ 2) with
          | false =>
            rw [h6] at gl
            exact no (by rw [spec2]; show (decide (l.length ≤ 2) && _) = false; rw [h6]; rfl) (toC (ev_seq_rt (Z := Z0) (ev_if_t (Z := Z0) (s1 := (() : Z0.S)) (ev_or_f (Z := Z0) (s1 := (() : Z0.S)) (s2 := (() : Z0.S)) (k := true) tn gl) (ev_ret rfl))))
          | true =>
          rw [h6] at gl
          have spec3 : openingB cs (.tup [.str x, .str y, g, .tup l]) = l.all (needB cs m) := by
            rw [spec2]
            show (decide (l.length ≤ 2) && _) = _
            rw [h6, Bool.true_and]
          have toD : ∀ {r : Out Z0.S}, sSeq opD (sSet 3 (x2 ixT (xName 4) (xC (T.int 0)))) R () = some r → opBody (Lo ks o cs a (.tup [.str x, .str y, g, .tup l]) x5) () = some r := fun h =>
            toC (ev_seq (Z := Z0) (τ' := R) (s1 := (() : Z0.S)) (ev_if_f (Z := Z0) (g' := sSkip) (s1 := (() : Z0.S)) (ev_or_f (Z := Z0) (s1 := (() : Z0.S)) (s2 := (() : Z0.S)) (k := false) tn gl) rfl) h)
          have c := lcGo_kept (Z := Z0) (gt := gSet 6) (ft := xbNot (xTru (xCallP f_law_is_need (xCons (xName 2) (xCons (xName 5) (xCons (xName 6) xNil)))))) (fe := xName 6) (τ := R) (s := (() : Z0.S)) (f := id) (h := id) (p := fun t => !needB cs m t) l fun t ht =>
            ⟨[.im ks, .im o, .im (.dct cs), .im (.str a), .im (.tup [.str x, .str y, g, .tup l]), .im (.int m), .im t], rfl, ev_bnot (ev_tru (ev_callP (Z := Z0) (s1 := (() : Z0.S)) (ev_cons (ev_name rfl) (ev_cons (ev_name rfl) (ev_cons (ev_name rfl) ev_nil))) (need_l hc m t (bL_mem hbl ht))) rfl), ev_name rfl⟩
          rw [List.map_id, List.map_id] at c
          have dd : xb (Z := Z0) (x2 neY (xLc [6] (iTupl (x2 ixT (xName 4) (xC (T.int 3)))) (gSet 6) (xbNot (xTru (xCallP f_law_is_need (xCons (xName 2) (xCons (xName 5) (xCons (xName 6) xNil)))))) (xName 6)) (xLst xNil)) R () = some (!l.all (needB cs m), ()) := by
            have e := neY_nilL (l.filter fun t => !needB cs m t)
            rw [not_someT] at e
            exact ev_xb (ev_x2 (Z := Z0) (op := neY) (s1 := (() : Z0.S)) (s2 := (() : Z0.S)) (ev_lc (Z := Z0) (items := l) (s1 := (() : Z0.S)) (ev_tupl (Z := Z0) i3) (sz (by omega)) rfl c) (ev_lst (Z := Z0) ev_nil (sz (by simp))) e)
          cases h7 : l.all (needB cs m) with
          | false =>
            rw [h7] at dd
            exact no (by rw [spec3, h7]) (toD (ev_seq_rt (Z := Z0) (ev_if_t (Z := Z0) (s1 := (() : Z0.S)) dd (ev_ret rfl))))
          | true =>
            rw [h7] at dd
            refine ⟨fun _ => ⟨.im (.int m), toD (ev_seq (Z := Z0) (τ' := R) (s1 := (() : Z0.S)) (ev_if_f (Z := Z0) (g' := sSkip) (s1 := (() : Z0.S)) dd rfl) (ev_set (Z := Z0) (s1 := (() : Z0.S)) (at_ 0 _ rfl _ rfl) (show 3 < 7 by decide)))⟩, fun z => absurd ⟨by rw [spec3, h7], by rw [hd, h2]⟩ z⟩
        · have hi : isTy "tuple" n = some false := by
            cases n <;> first | rfl | exact absurd ⟨_, rfl⟩ hnt | exact hn.elim
          have e : needsB cs m n = false := by
            cases n <;> first | rfl | exact absurd ⟨_, rfl⟩ hnt
          exact no (by rw [spec2, e]) (toC (ev_seq_rt (Z := Z0) (ev_if_t (Z := Z0) (s1 := (() : Z0.S)) (ev_or_t (ev_bnot (k := false) (ev_tru (ev_is i3 hi) rfl))) (ev_ret rfl))))
      · have hi : isTy "str" k = some false := by
          cases k <;> first | rfl | exact absurd ⟨_, rfl⟩ hks | exact hk.elim
        have e : isWord k = false := by
          cases k <;> first | rfl | exact absurd ⟨_, rfl⟩ hks
        refine no (by rw [spec, e]; simp) ?_
        exact ev_seq_rt (Z := Z0) (ev_if_t (Z := Z0) (s1 := (() : Z0.S)) (ev_or_f (Z := Z0) (s1 := (() : Z0.S)) (s2 := (() : Z0.S)) (k := true) nt (ev_or_f (Z := Z0) (s1 := (() : Z0.S)) (s2 := (() : Z0.S)) (k := true) len (ev_or_f (Z := Z0) (s1 := (() : Z0.S)) (s2 := (() : Z0.S)) (k := true) ww (ev_bnot (k := false) (ev_tru (ev_is (at_ 1 _ rfl _ rfl) hi) rfl))))) (ev_ret rfl))
    · rw [decide_eq_false h4] at len
      refine no ?_ (ev_seq_rt (Z := Z0) (ev_if_t (Z := Z0) (s1 := (() : Z0.S)) (ev_or_f (Z := Z0) (s1 := (() : Z0.S)) (s2 := (() : Z0.S)) (k := true) nt (ev_or_t len)) (ev_ret rfl)))
      unfold openingB
      split
      · rename_i heq
        injection heq with heq
        rw [heq] at h4
        exact absurd rfl h4
      · rfl
  · have hi : isTy "tuple" t = some false := by
      cases t <;> first | rfl | exact absurd ⟨_, rfl⟩ hnt | exact h.elim
    refine no ?_ (ev_seq_rt (Z := Z0) (ev_if_t (Z := Z0) (s1 := (() : Z0.S)) (ev_or_t (ev_bnot (k := false) (ev_tru (ev_is (ev_name rfl) hi) rfl))) (ev_ret rfl)))
    cases t <;> first | rfl | exact absurd ⟨_, rfl⟩ hnt
end L2.TL
namespace L2.TL
open PySem PySem.Spec
open PyProof.Rows
def chainB : Str → List Str → Bool
  | _, [] => true
  | a, x :: r => sLt a x && chainB x r
theorem asc_chain : ∀ (a : Str) (l : List Str), ascB (a :: l) = chainB a l
  | a, [] => rfl
  | a, x :: r => by
    rw [chainB, ← asc_chain x r]
    unfold ascB
    have e1 : (a :: x :: r).length - 1 = r.length + 1 := by simp
    have e2 : (x :: r).length - 1 = r.length := by simp
    rw [e1, e2, List.range_succ_eq_map, List.all_cons, List.all_map]
    rfl
def goB (cs : List (Key × T)) : Str → List T → Bool
  | _, [] => true
  | a, t :: r => (openingB cs t && sLt a (headS t)) && goB cs (headS t) r
theorem go_eq (cs : List (Key × T)) : ∀ (a : Str) (ts : List T), goB cs a ts = (ts.all (openingB cs) && chainB a (ts.map headS))
  | _, [] => rfl
  | a, t :: r => by
    rw [goB, go_eq cs (headS t) r, List.all_cons, List.map_cons, chainB]
    cases openingB cs t <;> cases sLt a (headS t) <;> cases r.all (openingB cs) <;> simp
theorem empty_lt {x : Str} (h : wordB x = true) : sLt "" x = true := by
  have h1 : lenB x = true := by
    unfold wordB at h
    rw [Bool.and_eq_true] at h
    exact h.1
  unfold lenB at h1
  rw [Bool.and_eq_true, decide_eq_true_eq, decide_eq_true_eq] at h1
  unfold sLt
  refine decide_eq_true ?_
  cases e : x.cps.toList with
  | nil =>
    have := h1.1
    unfold Str.length at this
    rw [← Array.length_toList, e] at this
    exact absurd this (by decide)
  | cons c r => exact List.nil_lt_cons c r
theorem open_go (cs : List (Key × T)) (ts : List T) : openB cs (.tup ts) = goB cs "" ts := by
  rw [go_eq]
  show (ts.all (openingB cs) && ascB (ts.map headS)) = _
  cases ha : ts.all (openingB cs) with
  | false => rfl
  | true =>
    cases ts with
    | nil => rfl
    | cons t r =>
      rw [List.map_cons, asc_chain, chainB]
      obtain ⟨x, y, g, l, rfl, hw, _⟩ := opening_head (List.all_eq_true.mp ha t (List.mem_cons_self ..))
      rw [show headS (.tup [.str x, .str y, g, .tup l]) = x from rfl, empty_lt hw, Bool.true_and, Bool.true_and]
theorem op_loop {cs : List (Key × T)} (hc : CntOk cs) (ks o : T) : ∀ (ts : List T) (a : Str) (x4 x5 : SV), bL ts →
    (goB cs a ts = true → ∃ τ2, sFor (Z := Z0) (gSet 4) opBody ts [.im ks, .im o, .im (.dct cs), .im (.str a), x4, x5, .un] () = some (.nx τ2 ())) ∧
    (goB cs a ts = false → sFor (Z := Z0) (gSet 4) opBody ts [.im ks, .im o, .im (.dct cs), .im (.str a), x4, x5, .un] () = some (.rt (.bl false) ()))
  | [], a, x4, x5, _ => ⟨fun _ => ⟨_, rfl⟩, fun h => by cases h⟩
  | t :: r, a, x4, x5, hb => by
    have g : gSet 4 t [.im ks, .im o, .im (.dct cs), .im (.str a), x4, x5, .un] = some (Lo ks o cs a t x5) := rfl
    obtain ⟨b1, b2⟩ := op_body hc ks o a x5 t hb.1
    by_cases hh : openingB cs t = true ∧ sLt a (headS t) = true
    · obtain ⟨y5, e⟩ := b1 hh
      obtain ⟨l1, l2⟩ := op_loop hc ks o r (headS t) (.im t) y5 hb.2
      have gg : goB cs a (t :: r) = goB cs (headS t) r := by
        rw [goB, hh.1, hh.2]
        rfl
      rw [gg]
      refine ⟨fun h => ?_, fun h => ?_⟩
      · obtain ⟨τ2, e2⟩ := l1 h
        refine ⟨τ2, ?_⟩
        unfold sFor
        simp only [g, e]
        exact e2
      · have e2 := l2 h
        unfold sFor
        simp only [g, e]
        exact e2
    · have e := b2 hh
      have gg : goB cs a (t :: r) = false := by
        rw [goB]
        cases h1 : openingB cs t with
        | false => rfl
        | true =>
          cases h2 : sLt a (headS t) with
          | false => rfl
          | true => exact absurd ⟨h1, h2⟩ hh
      rw [gg]
      refine ⟨fun h => (by cases h), fun _ => ?_⟩
      unfold sFor
      simp only [g, e]
theorem openings_l {k : T} (hk : kindsB k = true) (t : T) (h : bT t) : f_law_is_openings [k, t] = some (.bl (openB (cntOf k) t)) := by
  obtain ⟨ks, rfl, _, d0, d1, hc⟩ := cnt_ok hk
  generalize cntOf (.tup ks) = cs at d1 hc
  by_cases hnt : ∃ ts, t = .tup ts
  · obtain ⟨ts, rfl⟩ := hnt
    obtain ⟨hb, hz⟩ := h
    have nt : xbNot (Z := Z0) (xTru (xIs "tuple" (xName 1))) [.im (.tup ks), .im (.tup ts), .un, .un, .un, .un, .un] () = some (false, ()) := not_tup (Z := Z0) rfl
    have st : sAsg (Z := Z0) (xTup (xCons (xCall dictX (xCons (xCall listX (xCons (xName 0) xNil)) xNil)) (xCons (xC (T.str "")) xNil))) (gTupT 2 (gsCons (gSet 2) (gsCons (gSet 3) gsNil))) [.im (.tup ks), .im (.tup ts), .un, .un, .un, .un, .un] () = some (.nx [.im (.tup ks), .im (.tup ts), .im (.dct cs), .im (.str ""), .un, .un, .un] ()) :=
      ev_asg (Z := Z0) (s1 := (() : Z0.S)) (ev_tup (ev_cons (ev_call (ev_cons (ev_call (ev_cons (ev_name rfl) ev_nil) d0) ev_nil) d1) (ev_cons rfl ev_nil)) (sz (by simp))) rfl
    obtain ⟨l1, l2⟩ := op_loop hc (.tup ks) (.tup ts) ts "" .un .un hb
    rw [open_go]
    refine ev_fp rfl (ev_seq (Z := Z0) (τ' := [.im (.tup ks), .im (.tup ts), .un, .un, .un, .un, .un]) (s1 := (() : Z0.S)) (ev_if_f (Z := Z0) (g' := sSkip) (s1 := (() : Z0.S)) nt rfl) (ev_seq (Z := Z0) (s1 := (() : Z0.S)) st ?_))
    cases hg : goB cs "" ts with
    | false => exact ev_seq_rt (Z := Z0) (ev_forE (Z := Z0) (s1 := (() : Z0.S)) (ev_tupl (Z := Z0) (ev_name rfl)) (l2 hg))
    | true =>
      obtain ⟨τ2, e2⟩ := l1 hg
      exact ev_seq (Z := Z0) (s1 := (() : Z0.S)) (ev_forE (Z := Z0) (s1 := (() : Z0.S)) (ev_tupl (Z := Z0) (ev_name rfl)) e2) (ev_ret rfl)
  · have hi : isTy "tuple" t = some false := by
      cases t <;> first | rfl | exact absurd ⟨_, rfl⟩ hnt | exact h.elim
    have e : openB cs t = false := by
      cases t <;> first | rfl | exact absurd ⟨_, rfl⟩ hnt
    rw [e]
    exact ev_fp rfl (ev_seq_rt (Z := Z0) (ev_if_t (Z := Z0) (s1 := (() : Z0.S)) (ev_bnot (k := false) (ev_tru (ev_is (ev_name rfl) hi) rfl)) (ev_ret rfl)))
end L2.TL
namespace L2.TL
open PySem PySem.Spec
open PyProof.Rows
theorem ev_seq_xc {Z : Res} {g g' : SF Z} {τ τ1 : List SV} {s s1 : Z.S} {C : Addr} {f : Str} {a : T} (h : g τ s = some (.xc C f a τ1 s1)) : sSeq g g' τ s = some (.xc C f a τ1 s1) := by
  unfold sSeq
  rw [h]
theorem ev_bx_xc {Z : Res} {g : SF Z} {n m : Nat} {ts : List T} {τ : List SV} {s s1 : Z.S} {C : Addr} {f : Str} {a : T} (hn : ts.length = n) (h : g (ts.map SV.im ++ List.replicate (m - n) SV.un) s = some (.xc C f a τ s1)) : bodyX n m g ts s = some (.xc C f a s1) := by
  unfold bodyX
  rw [if_pos hn, h]
theorem ev_bx_nx {Z : Res} {g : SF Z} {n m : Nat} {ts : List T} {τ : List SV} {s s1 : Z.S} (hn : ts.length = n) (h : g (ts.map SV.im ++ List.replicate (m - n) SV.un) s = some (.nx τ s1)) : bodyX n m g ts s = some (.ok .non s1) := by
  unfold bodyX
  rw [if_pos hn, h]
def dcF (key : T → Str) (val : T → T) (items : List T) (acc : List (Key × T)) : List (Key × T) := items.foldl (fun acc a => putT acc (.inr (key a)) (val a)) acc
theorem dcGo_some {Z : Res} {gt : GF} {fk fv : EF Z} {τ : List SV} {s : Z.S} {key : T → Str} {val : T → T} : ∀ (items : List T) (acc : List (Key × T)), (∀ a ∈ items, ∃ τ', gt a τ = some τ' ∧ fk τ' s = some (.str (key a), s) ∧ fv τ' s = some (val a, s)) → dcGo gt xYes fk fv τ items s acc = some (dcF key val items acc, s)
  | [], acc, _ => rfl
  | a :: r, acc, h => by
    obtain ⟨τ', e1, e2, e3⟩ := h a (List.mem_cons_self ..)
    have e := dcGo_some r (putT acc (.inr (key a)) (val a)) fun b hb => h b (List.mem_cons_of_mem _ hb)
    have e4 : (xYes (Z := Z) τ' s) = some (true, s) := rfl
    unfold dcGo
    simp only [e1, e4, e2, e3, keyOf]
    exact e
theorem ev_dc {Z : Res} {vs : List Nat} {fi : EFs Z} {gt : GF} {fk fv : EF Z} {τ : List SV} {s s1 s2 : Z.S} {items : List T} {ps : List (Key × T)} (h : fi τ s = some (items, s1)) (hz : items.length ≤ sizeLine) (hv : (vs.all fun v => match τ[v]? with
    | some x => !isOw x
    | none => true) = true) (h2 : dcGo gt xYes fk fv (wipeT τ vs) items s1 [] = some (ps, s2)) : xDc vs fi gt xYes fk fv τ s = some (.dct ps, s2) := by
  unfold xDc
  simp only [h]
  rw [if_pos ⟨hz, hv⟩, h2]
section
variable {K : PySem.W.Frag} {E : Ec 3} {B : Addr}
abbrev Bs (self : Addr) (k o : T) : List SV := [.im (.adr self), .im k, .im o, .un, .un, .un, .un]
theorem book_kinds (self : Addr) (k o : T) (hk : bT k) (s : (selfZ K B self).S) : xbNot (Z := selfZ K B self) (xTru (xCallP f_are_kinds (xCons (xName 1) xNil))) (Bs self k o) s = some (!kindsB k, s) :=
  ev_bnot (ev_tru (ev_callP (ev_cons (ev_name rfl) ev_nil) (kinds_p k hk)) rfl)
theorem book_opens (self : Addr) (k o : T) (hk : kindsB k = true) (ho : bT o) (s : (selfZ K B self).S) : xbNot (Z := selfZ K B self) (xTru (xCallP f_are_openings (xCons (xName 2) (xCons (xName 1) xNil)))) (Bs self k o) s = some (!openB (cntOf k) o, s) :=
  ev_bnot (ev_tru (ev_callP (ev_cons (ev_name rfl) (ev_cons (ev_name rfl) ev_nil)) (openings_p hk o ho)) rfl)
theorem book_bad_k {k o : T} (hk : bT k) (h : kindsB k = false) : m_Book K E B [k, o] = some (.xc (E.a 1) "part" (.str "kinds") ()) := by
  refine ev_mk fun self => ⟨.xc (E.a 1) "part" (.str "kinds") [], ?_, rfl⟩
  have e := book_kinds (K := K) (B := B) self k o hk []
  rw [h] at e
  have g : g_Book_init K E B self (Bs self k o) [] = some (.xc (E.a 1) "part" (.str "kinds") (Bs self k o) []) := ev_seq_xc (ev_if_t e (ev_raise rfl))
  exact ev_bx_xc rfl g
theorem book_bad_o {k o : T} (hk : bT k) (ho : bT o) (h1 : kindsB k = true) (h : openB (cntOf k) o = false) : m_Book K E B [k, o] = some (.xc (E.a 1) "part" (.str "openings") ()) := by
  refine ev_mk fun self => ⟨.xc (E.a 1) "part" (.str "openings") [], ?_, rfl⟩
  have e := book_kinds (K := K) (B := B) self k o hk []
  rw [h1] at e
  have e2 := book_opens (K := K) (B := B) self k o h1 ho []
  rw [h] at e2
  have g : g_Book_init K E B self (Bs self k o) [] = some (.xc (E.a 1) "part" (.str "openings") (Bs self k o) []) := ev_seq (τ' := Bs self k o) (s1 := ([] : List (Str × T))) (ev_if_f e rfl) (ev_seq_xc (ev_if_t e2 (ev_raise rfl)))
  exact ev_bx_xc rfl g
theorem ev_fldZ {self : Addr} {i : Nat} {fn : Str} {f : EF (selfZ K B self)} {τ : List SV} {s s1 : List (Str × T)} {b : T} (h0 : τ[i]? = some (.im (.adr self))) (h : f τ s = some (b, s1)) (hl : s1.length < 900) : sFldZ K B self i fn f τ s = some (.nx τ (putFT fn b s1)) := by
  unfold sFldZ
  simp only [h0, if_true, h]
  exact if_pos hl
theorem putFT_lt {f : Str} {t : T} : ∀ {fs : List (Str × T)} {n : Nat}, fs.length < n → (putFT f t fs).length < n + 1
  | [], n, h => by
    show 1 < n + 1
    simp at h
    omega
  | (g, x) :: r, n, h => by
    simp only [putFT]
    split
    · simp only [List.length_cons] at h ⊢
      omega
    · have := putFT_lt (f := f) (t := t) (fs := r) (n := n - 1) (by simp only [List.length_cons] at h; omega)
      simp only [List.length_cons] at h ⊢
      omega
/-- the object that Book(k, o) makes -/
def BookT (B : Addr) (k o c w y : T) : T := .ins B [("kinds", k), ("openings", o), ("counts", c), ("by_word", w), ("ways", y)]
theorem book_ok {k o : T} (hk : bT k) (ho : bT o) (h1 : kindsB k = true) (h2 : openB (cntOf k) o = true) : ∃ c w y, m_Book K E B [k, o] = some (.ok (BookT B k o c w y) ()) := by
  obtain ⟨ks, rfl, d1, _, _, hc⟩ := cnt_ok h1
  obtain ⟨os, rfl⟩ : ∃ os, o = .tup os := by
    cases o <;> first | exact ⟨_, rfl⟩ | cases h2
  have hos : os.all (openingB (cntOf (.tup ks))) = true := by
    have h2 : (os.all (openingB (cntOf (.tup ks))) && ascB (os.map headS)) = true := h2
    rw [Bool.and_eq_true] at h2
    exact h2.1
  have hks : ks.all kindB = true := by
    have h1 : (!ks.isEmpty && ks.all kindB && ascB (ks.map headS)) = true := h1
    rw [Bool.and_eq_true, Bool.and_eq_true] at h1
    exact h1.1.2
  have heads : ∀ t ∈ os, ∃ x y g l, t = .tup [.str x, .str y, g, .tup l] := fun t ht => by
    obtain ⟨x, y, g, l, e, _⟩ := opening_head (List.all_eq_true.mp hos t ht)
    exact ⟨x, y, g, l, e⟩
  have bo := ho
  obtain ⟨hbo, hzo⟩ := bo
  obtain ⟨hbk, hzk⟩ := hk
  let kindOf : T → Str := fun t => match t with
    | .tup (_ :: .str y :: _) => y
    | _ => ""
  let way : T → T := fun t => .tup (os.filter fun u => decide (kindOf u = headS t))
  refine ⟨.dct (cntOf (.tup ks)), .dct (dcF headS id os []), .dct (dcF headS way ks []), ev_mk fun self => ⟨.ok .non [("kinds", .tup ks), ("openings", .tup os), ("counts", .dct (cntOf (.tup ks))), ("by_word", .dct (dcF headS id os [])), ("ways", .dct (dcF headS way ks []))], ?_, rfl⟩⟩
  have e := book_kinds (K := K) (B := B) self (.tup ks) (.tup os) ⟨hbk, hzk⟩ []
  rw [h1] at e
  have e2 := book_opens (K := K) (B := B) self (.tup ks) (.tup os) h1 ho []
  rw [h2] at e2
  let R : List SV := Bs self (.tup ks) (.tup os)
  have w1 : ∀ s : (selfZ K B self).S, xDc (Z := selfZ K B self) [3] (iTupl (xName 2)) (gSet 3) xYes (x2 ixT (xName 3) (xC (T.int 0))) (xName 3) R s = some (.dct (dcF headS id os []), s) := fun s => by
    refine ev_dc (Z := selfZ K B self) (s1 := s) (ev_tupl (ev_name rfl)) (sz (by omega)) rfl (dcGo_some os [] fun t ht => ?_)
    obtain ⟨x, y, g, l, rfl⟩ := heads t ht
    exact ⟨[.im (.adr self), .im (.tup ks), .im (.tup os), .im (.tup [.str x, .str y, g, .tup l]), .un, .un, .un], rfl, ev_x2 (s1 := s) (s2 := s) (op := ixT) (b := .int 0) (ev_name rfl) rfl rfl, ev_name rfl⟩
  have w2 : ∀ s : (selfZ K B self).S, xDc (Z := selfZ K B self) [5, 6] (iTupl (xName 1)) (gTupT 2 (gsCons (gSet 5) (gsCons (gSet 6) gsNil))) xYes (xName 5) (xCall tupleT (xCons (xLc [4] (iTupl (xName 2)) (gSet 4) (xb (x2 (eqX false) (x2 ixT (xName 4) (xC (T.int 1))) (xName 5))) (xName 4)) xNil)) R s = some (.dct (dcF headS way ks []), s) := fun s => by
    refine ev_dc (Z := selfZ K B self) (s1 := s) (ev_tupl (ev_name rfl)) (sz (by omega)) rfl (dcGo_some ks [] fun t ht => ?_)
    obtain ⟨x, n, rfl, _⟩ := kind_head (List.all_eq_true.mp hks t ht)
    refine ⟨[.im (.adr self), .im (.tup ks), .im (.tup os), .un, .un, .im (.str x), .im (.int n)], rfl, ev_name rfl, ?_⟩
    have c := lcGo_kept (Z := selfZ K B self) (gt := gSet 4) (ft := xb (x2 (eqX false) (x2 ixT (xName 4) (xC (T.int 1))) (xName 5))) (fe := xName 4) (τ := [.im (.adr self), .im (.tup ks), .im (.tup os), .un, .un, .im (.str x), .im (.int n)]) (s := s) (f := id) (h := id) (p := fun u => decide (kindOf u = x)) os fun u hu => by
      obtain ⟨x2', y, g, l, rfl⟩ := heads u hu
      refine ⟨[.im (.adr self), .im (.tup ks), .im (.tup os), .un, .im (.tup [.str x2', .str y, g, .tup l]), .im (.str x), .im (.int n)], rfl, ev_xb (ev_x2 (s1 := s) (s2 := s) (op := eqX false) (ev_x2 (s1 := s) (s2 := s) (op := ixT) (b := .int 1) (ev_name rfl) rfl rfl) (ev_name rfl) (by rw [eq_str]; rfl)), ev_name rfl⟩
    rw [List.map_id, List.map_id] at c
    exact ev_call (ev_cons (ev_lc (s1 := s) (ev_tupl (ev_name rfl)) (sz (by omega)) rfl c) ev_nil) rfl
  have dc : ∀ s : (selfZ K B self).S, xCall (Z := selfZ K B self) dictX (xCons (xName 1) xNil) R s = some (.dct (cntOf (.tup ks)), s) := fun s => ev_call (ev_cons (ev_name rfl) ev_nil) d1
  have g : g_Book_init K E B self R [] = some (.nx R [("kinds", .tup ks), ("openings", .tup os), ("counts", .dct (cntOf (.tup ks))), ("by_word", .dct (dcF headS id os [])), ("ways", .dct (dcF headS way ks []))]) := by
    refine ev_seq (τ' := R) (s1 := ([] : List (Str × T))) (ev_if_f e rfl) (ev_seq (τ' := R) (s1 := ([] : List (Str × T))) (ev_if_f e2 rfl) ?_)
    refine ev_seq (τ' := R) (ev_fldZ rfl (ev_name rfl) (by decide)) (ev_seq (τ' := R) (ev_fldZ rfl (ev_name rfl) (putFT_lt (n := 899) (by decide))) (ev_seq (τ' := R) (ev_fldZ rfl (dc _) (putFT_lt (n := 899) (putFT_lt (n := 898) (by decide)))) (ev_seq (τ' := R) (ev_fldZ rfl (w1 _) (putFT_lt (n := 899) (putFT_lt (n := 898) (putFT_lt (n := 897) (by decide))))) ?_)))
    exact ev_fldZ rfl (w2 _) (putFT_lt (n := 899) (putFT_lt (n := 898) (putFT_lt (n := 897) (putFT_lt (n := 896) (by decide)))))
  exact ev_bx_nx rfl g
end
end L2.TL
namespace L2.TL
open PySem PySem.Spec
open PyProof.Rows
section
variable {K : PySem.W.Frag} {E : Ec 3} {B : Addr}
theorem ev_make {Z : Res} {m : List T → Option (RsX Unit)} {fs : EFs Z} {τ : List SV} {s s1 : Z.S} {as : List T} {r : RsX Unit} (h : fs τ s = some (as, s1)) (h2 : m as = some r) : rMake m fs τ s = some (liftR s1 r) := by
  unfold rMake
  simp only [h, h2]
theorem ev_rif {Z : Res} {c : EFb Z} {g1 g2 : EFx Z} {τ : List SV} {s s1 : Z.S} {b : Bool} {o : Option (RsX Z.S)} (h : c τ s = some (b, s1)) (ht : g1 τ s1 = o) (hf : g2 τ s1 = o) : rIf c g1 g2 τ s = o := by
  unfold rIf
  cases b
  · simp only [h]
    exact hf
  · simp only [h]
    exact ht
noncomputable abbrev bookR (K : PySem.W.Frag) (E : Ec 3) (B : Addr) : EFx Z0 := rIf (xTru (xName 2)) (rMake (m_Book K E B) (xOrd 2 [1, 0] (xCons (xName 1) (xCons (xName 0) (xNil))))) (rMake (m_Book K E B) (xCons (xName 0) (xCons (xName 1) (xNil))))
theorem book_r {k o : T} {b : Bool} {x3 x4 : SV} {r : RsX Unit} (h : m_Book K E B [k, o] = some r) : bookR K E B [.im k, .im o, .im (.bl b), x3, x4] () = some (liftR () r) :=
  ev_rif (Z := Z0) (s1 := (() : Z0.S)) (b := b) (ev_tru (ev_name rfl) rfl) (ev_make (Z := Z0) (s1 := (() : Z0.S)) (as := [k, o]) (ev_ord (Z := Z0) (as := [o, k]) (ev_cons (ev_name rfl) (ev_cons (ev_name rfl) ev_nil)) rfl) h) (ev_make (Z := Z0) (s1 := (() : Z0.S)) (ev_cons (ev_name rfl) (ev_cons (ev_name rfl) ev_nil)) h)
theorem heard_bad {k o : T} {b : Bool} {p : Str} (h : m_Book K E B [k, o] = some (.xc (E.a 1) "part" (.str p) ())) : f_law_heard K E B [k, o, .bl b] = some (.lst [.str "part", .str p]) := by
  have st : sSet (Z := Z0) 3 (xC (T.str "odd")) [.im k, .im o, .im (.bl b), .un, .un] () = some (.nx [.im k, .im o, .im (.bl b), .im (.str "odd"), .un] ()) := ev_set (Z := Z0) (s1 := (() : Z0.S)) rfl (by simp)
  have rr := book_r (x3 := .im (.str "odd")) (x4 := .un) (b := b) h
  have sr : sSetR (Z := Z0) 3 (bookR K E B) [.im k, .im o, .im (.bl b), .im (.str "odd"), .un] () = some (.xc (E.a 1) "part" (.str p) [.im k, .im o, .im (.bl b), .im (.str "odd"), .un] ()) := by
    unfold sSetR
    simp only [rr]
    rfl
  refine ev_fp rfl (ev_seq (Z := Z0) (s1 := (() : Z0.S)) st (ev_seq (Z := Z0) (τ' := [.im k, .im o, .im (.bl b), .im (.lst [.str "part", .str p]), .un]) (s1 := (() : Z0.S)) (ev_try_x sr (by simp) rfl fun eb ed => ⟨.nx [.im k, .im o, .im (.bl b), .im (.lst [.str "part", .str p]), .im (.exc eb ed (E.a 1) "part" (.str p))] (), ?_, rfl, rfl⟩) (ev_ret (ev_name rfl))))
  exact ev_set (Z := Z0) (s1 := (() : Z0.S)) (ev_xif_t (Z := Z0) (s1 := (() : Z0.S)) (ev_tru (ev_isXx (Z := Z0) (ev_name rfl)) rfl) (ev_lst (Z := Z0) (ev_cons rfl (ev_cons (ev_xf (Z := Z0) (s1 := (() : Z0.S)) (ev_name rfl)) ev_nil)) (sz (by simp)))) (show 3 < 5 by decide)
theorem heard_ok {k o : T} {b : Bool} {t : T} (h : m_Book K E B [k, o] = some (.ok t ())) : f_law_heard K E B [k, o, .bl b] = some t := by
  have st : sSet (Z := Z0) 3 (xC (T.str "odd")) [.im k, .im o, .im (.bl b), .un, .un] () = some (.nx [.im k, .im o, .im (.bl b), .im (.str "odd"), .un] ()) := ev_set (Z := Z0) (s1 := (() : Z0.S)) rfl (by simp)
  have rr := book_r (x3 := .im (.str "odd")) (x4 := .un) (b := b) h
  have sr : sSetR (Z := Z0) 3 (bookR K E B) [.im k, .im o, .im (.bl b), .im (.str "odd"), .un] () = some (.nx [.im k, .im o, .im (.bl b), .im t, .un] ()) := by
    unfold sSetR
    simp only [rr]
    exact if_pos (show 3 < 5 by decide)
  exact ev_fp rfl (ev_seq (Z := Z0) (s1 := (() : Z0.S)) st (ev_seq (Z := Z0) (τ' := [.im k, .im o, .im (.bl b), .im t, .un]) (s1 := (() : Z0.S)) (ev_try_n sr rfl) (ev_ret (ev_name rfl))))
end
end L2.TL
namespace L2.TL
open PySem PySem.Spec
open PyProof.Rows
mutual
/-- texts, whole numbers, tuples of these -/
def fl : T → Prop
  | .str x => Sm x
  | .int _ => True
  | .tup ts => flL ts
  | _ => False
def flL : List T → Prop
  | [] => True
  | t :: r => fl t ∧ flL r
end
mutual
theorem fl_facts : ∀ t : T, fl t → t.plain = true ∧ t.d.canLay0 = true ∧ PyData.eqv t.d t.d = true
  | .str x, h => ⟨rfl, by
    have h : Sm x := h
    show (x.cps.all fun c => decide (c < 0x110000)) = true
    rw [← Array.all_toList]
    exact List.all_eq_true.mpr fun c hc => decide_eq_true (h.2 c hc), by simp [T.d, PyData.eqv]⟩
  | .int i, _ => ⟨rfl, rfl, by simp [T.d, PyData.eqv]⟩
  | .tup ts, h => by
    obtain ⟨a, b, c⟩ := flL_facts ts h
    exact ⟨by simpa only [T.plain] using a, by simpa only [T.d, PyData.canLay0] using b, by simpa only [T.d, PyData.eqv] using c⟩
  | .non, h => h.elim
  | .bl _, h => h.elim
  | .lst _, h => h.elim
  | .dct _, h => h.elim
  | .ins _ _, h => h.elim
  | .adr _, h => h.elim
  | .exc _ _ _ _ _, h => h.elim
  | .ltp _, h => h.elim
  | .exv _ _, h => h.elim
theorem flL_facts : ∀ ts : List T, flL ts → plainL ts = true ∧ PyData.canLayAll0 (dL ts) = true ∧ PyData.eqvAll (dL ts) (dL ts) = true
  | [], _ => ⟨rfl, rfl, by simp [dL, PyData.eqvAll]⟩
  | t :: r, h => by
    obtain ⟨a1, b1, c1⟩ := fl_facts t h.1
    obtain ⟨a2, b2, c2⟩ := flL_facts r h.2
    refine ⟨by simp only [plainL, a1, a2]; rfl, by simp only [dL, PyData.canLayAll0, b1, b2]; rfl, ?_⟩
    simp only [dL, PyData.eqvAll, c1, c2]
    rfl
end
theorem eq_same {t : T} (h : fl t) (ht : ∃ ts, t = .tup ts) (hd : t.d.depth ≤ 64) : eqX false t t = some (.bl true) := by
  obtain ⟨ts, rfl⟩ := ht
  obtain ⟨a, b, c⟩ := fl_facts _ h
  have sh : SeqAt.shaped (T.d (.tup ts)) = true := by
    unfold SeqAt.shaped
    rw [b, decide_eq_true hd]
    rfl
  have e : eqX false (.tup ts) (.tup ts) = eqT false (.tup ts) (.tup ts) := rfl
  rw [e]
  unfold eqT
  rw [if_pos ⟨a, a, sh, sh⟩, c]
  rfl
theorem flL_of : ∀ {ts : List T}, (∀ t ∈ ts, fl t) → flL ts
  | [], _ => trivial
  | t :: r, h => ⟨h t (List.mem_cons_self ..), flL_of fun u hu => h u (List.mem_cons_of_mem _ hu)⟩
theorem depthL_le {n : Nat} : ∀ {ts : List T}, (∀ t ∈ ts, t.d.depth ≤ n) → PyData.depthAll (dL ts) ≤ n
  | [], _ => Nat.zero_le _
  | t :: r, h => by
    have h1 := h t (List.mem_cons_self ..)
    have h2 := depthL_le (ts := r) fun u hu => h u (List.mem_cons_of_mem _ hu)
    simp only [dL, PyData.depthAll]
    omega
theorem whole_int {lo hi : Int} {t : T} (h : wholeB lo hi t = true) : ∃ i, t = .int i := by
  cases t <;> first | exact ⟨_, rfl⟩ | cases h
theorem isStr_str {z : Str} {t : T} (h : isStr z t = true) : ∃ x, t = .str x := by
  cases t <;> first | exact ⟨_, rfl⟩ | cases h
theorem single_str {cs : List (Key × T)} {t : T} (h : singleB cs t = true) : ∃ x, t = .str x := by
  cases t <;> first | exact ⟨_, rfl⟩ | cases h
theorem kinds_fl {t : T} (h : kindsB t = true) (hb : bT t) : fl t ∧ (∃ ts, t = .tup ts) ∧ t.d.depth ≤ 64 := by
  cases t <;> first | (cases h; done) | skip
  rename_i ts
  have h : (!ts.isEmpty && ts.all kindB && ascB (ts.map headS)) = true := h
  rw [Bool.and_eq_true, Bool.and_eq_true] at h
  have hk : ∀ t ∈ ts, fl t ∧ t.d.depth ≤ 5 := fun t ht => by
    obtain ⟨x, n, rfl, _⟩ := kind_head (List.all_eq_true.mp h.1.2 t ht)
    exact ⟨⟨(bL_mem hb.1 ht).1.1, trivial, trivial⟩, by simp [T.d, dL, PyData.depth, PyData.depthAll]⟩
  refine ⟨flL_of fun t ht => (hk t ht).1, ⟨ts, rfl⟩, ?_⟩
  have := depthL_le (n := 5) fun t ht => (hk t ht).2
  simp only [T.d, PyData.depth]
  omega
theorem need_fl {cs : List (Key × T)} {m : Int} {t : T} (h : needB cs m t = true) (hb : bT t) : fl t ∧ t.d.depth ≤ 5 := by
  unfold needB at h
  split at h
  · rename_i a b
    rw [Bool.and_eq_true] at h
    obtain ⟨x, rfl⟩ := isStr_str h.1
    obtain ⟨i, rfl⟩ := whole_int h.2
    exact ⟨⟨hb.1.1, trivial, trivial⟩, by simp [T.d, dL, PyData.depth, PyData.depthAll]⟩
  · rename_i a b c
    rw [Bool.or_eq_true, Bool.and_eq_true, Bool.and_eq_true, Bool.and_eq_true, Bool.and_eq_true] at h
    rcases h with ⟨h1, h2, h3⟩ | ⟨h1, h2, h3⟩
    · obtain ⟨x, rfl⟩ := isStr_str h1
      obtain ⟨y, rfl⟩ := single_str h2
      obtain ⟨i, rfl⟩ := whole_int h3
      exact ⟨⟨hb.1.1, hb.1.2.1, trivial, trivial⟩, by simp [T.d, dL, PyData.depth, PyData.depthAll]⟩
    · obtain ⟨x, rfl⟩ := isStr_str h1
      obtain ⟨i, rfl⟩ := whole_int h2
      obtain ⟨y, rfl⟩ := single_str h3
      exact ⟨⟨hb.1.1, trivial, hb.1.2.2.1, trivial⟩, by simp [T.d, dL, PyData.depth, PyData.depthAll]⟩
  · cases h
theorem opens_fl {cs : List (Key × T)} {t : T} (h : openB cs t = true) (hb : bT t) : fl t ∧ (∃ ts, t = .tup ts) ∧ t.d.depth ≤ 64 := by
  cases t <;> first | (cases h; done) | skip
  rename_i ts
  have h : (ts.all (openingB cs) && ascB (ts.map headS)) = true := h
  rw [Bool.and_eq_true] at h
  have hk : ∀ t ∈ ts, fl t ∧ t.d.depth ≤ 10 := fun t ht => by
    obtain ⟨x, y, g, l, rfl, _, _, _, _, hg, _, hl⟩ := opening_head (List.all_eq_true.mp h.1 t ht)
    obtain ⟨i, rfl⟩ := whole_int hg
    have hbt := (bL_mem hb.1 ht).1
    have hn : ∀ u ∈ l, fl u ∧ u.d.depth ≤ 5 := fun u hu => need_fl (List.all_eq_true.mp hl u hu) (bL_mem hbt.2.2.2.1.1 hu)
    refine ⟨⟨hbt.1, hbt.2.1, trivial, flL_of fun u hu => (hn u hu).1, trivial⟩, ?_⟩
    have := depthL_le (n := 5) fun u hu => (hn u hu).2
    simp only [T.d, dL, PyData.depth, PyData.depthAll]
    omega
  refine ⟨flL_of fun t ht => (hk t ht).1, ⟨ts, rfl⟩, ?_⟩
  have := depthL_le (n := 10) fun t ht => (hk t ht).2
  simp only [T.d, PyData.depth]
  omega
end L2.TL
namespace L2.TL
open PySem PySem.Spec
open PyProof.Rows
mutual
/-- what m bends may make of a plan's parts -/
def aT (m : Nat) : T → Prop
  | .non => True
  | .bl _ => True
  | .int i => i.natAbs ≤ 10 ^ 39 + m
  | .str x => x.length ≤ 45 + m ∧ ∀ c ∈ x.cps.toList, c < 128
  | .tup ts => aL m ts
  | .lst ts => aL m ts
  | .dct ps => ps = []
  | _ => False
def aL (m : Nat) : List T → Prop
  | [] => True
  | t :: r => aT m t ∧ aL m r
end
mutual
/-- how many nodes a tree has -/
def nT : T → Nat
  | .tup ts => nL ts + 1
  | .lst ts => nL ts + 1
  | _ => 1
def nL : List T → Nat
  | [] => 0
  | t :: r => nT t + nL r
end
theorem nT_pos (t : T) : 1 ≤ nT t := by
  cases t <;> simp [nT]
theorem nL_len : ∀ ts : List T, ts.length ≤ nL ts
  | [] => Nat.le_refl _
  | t :: r => by
    have := nT_pos t
    have := nL_len r
    simp only [List.length_cons, nL]
    omega
theorem nL_app : ∀ a b : List T, nL (a ++ b) = nL a + nL b
  | [], b => by simp [nL]
  | t :: r, b => by
    simp only [List.cons_append, nL, nL_app r b]
    omega
theorem nL_rev (a : List T) : nL a.reverse = nL a := by
  induction a with
  | nil => rfl
  | cons t r ih =>
    rw [List.reverse_cons, nL_app, ih]
    simp only [nL]
    omega
theorem nL_mem : ∀ {ts : List T} {t : T}, t ∈ ts → nT t ≤ nL ts
  | u :: r, t, h => by
    rcases List.mem_cons.mp h with rfl | h
    · simp only [nL]
      omega
    · have := nL_mem h
      simp only [nL]
      omega
theorem nL_cut (ts : List T) (k : Nat) : nL (ts.take k) + nL (ts.drop k) = nL ts := by
  rw [← nL_app, List.take_append_drop]
theorem aL_mem {m : Nat} : ∀ {ts : List T} {t : T}, aL m ts → t ∈ ts → aT m t
  | _ :: _, _, h, hm => by
    rcases List.mem_cons.mp hm with rfl | hm
    · exact h.1
    · exact aL_mem h.2 hm
theorem aL_of {m : Nat} : ∀ {ts : List T}, (∀ t ∈ ts, aT m t) → aL m ts
  | [], _ => trivial
  | t :: r, h => ⟨h t (List.mem_cons_self ..), aL_of fun u hu => h u (List.mem_cons_of_mem _ hu)⟩
mutual
theorem aT_up {m n : Nat} (h : m ≤ n) : ∀ t : T, aT m t → aT n t
  | .non, _ => trivial
  | .bl _, _ => trivial
  | .int i, a => by
    have a : i.natAbs ≤ 10 ^ 39 + m := a
    show i.natAbs ≤ 10 ^ 39 + n
    omega
  | .str x, a => ⟨by
    have := a.1
    omega, a.2⟩
  | .tup ts, a => aL_up h ts a
  | .lst ts, a => aL_up h ts a
  | .dct _, a => a
  | .ins _ _, a => a.elim
  | .adr _, a => a.elim
  | .exc _ _ _ _ _, a => a.elim
  | .ltp _, a => a.elim
  | .exv _ _, a => a.elim
theorem aL_up {m n : Nat} (h : m ≤ n) : ∀ ts : List T, aL m ts → aL n ts
  | [], _ => trivial
  | t :: r, a => ⟨aT_up h t a.1, aL_up h r a.2⟩
end
mutual
theorem aT_b {m : Nat} (hm : m ≤ 900) : ∀ t : T, aT m t → nT t ≤ 1000 → bT t
  | .non, _, _ => trivial
  | .bl _, _, _ => trivial
  | .int i, a, _ => by
    have a : i.natAbs ≤ 10 ^ 39 + m := a
    have e : (10 ^ 39 + 900 : Nat) < 10 ^ 45 := by decide
    show i.natAbs < 10 ^ 45
    omega
  | .str x, a, _ => ⟨by
    have := a.1
    omega, fun c hc => by
    have := a.2 c hc
    omega⟩
  | .tup ts, a, n => by
    have n : nL ts + 1 ≤ 1000 := n
    have := nL_len ts
    exact ⟨aL_b hm ts a (by omega), by omega⟩
  | .lst ts, a, n => by
    have n : nL ts + 1 ≤ 1000 := n
    have := nL_len ts
    exact ⟨aL_b hm ts a (by omega), by omega⟩
  | .dct _, a, _ => a
  | .ins _ _, a, _ => a.elim
  | .adr _, a, _ => a.elim
  | .exc _ _ _ _ _, a, _ => a.elim
  | .ltp _, a, _ => a.elim
  | .exv _ _, a, _ => a.elim
theorem aL_b {m : Nat} (hm : m ≤ 900) : ∀ ts : List T, aL m ts → nL ts ≤ 1000 → bL ts
  | [], _, _ => trivial
  | t :: r, a, n => by
    have n : nT t + nL r ≤ 1000 := n
    exact ⟨aT_b hm t a.1 (by omega), aL_b hm r a.2 (by omega)⟩
end
/-! ### depth -/
theorem dep_mem : ∀ {ts : List T} {t : T}, t ∈ ts → t.d.depth ≤ PyData.depthAll (dL ts)
  | u :: r, t, h => by
    rcases List.mem_cons.mp h with rfl | h
    · simp only [dL, PyData.depthAll]
      omega
    · have := dep_mem h
      simp only [dL, PyData.depthAll]
      omega
theorem dep_tup {ts : List T} {t : T} (h : t ∈ ts) : t.d.depth + 1 ≤ (T.tup ts).d.depth := by
  have := dep_mem h
  simp only [T.d, PyData.depth]
  omega
theorem dep_tup_le {ts : List T} {n : Nat} (h : ∀ t ∈ ts, t.d.depth ≤ n) : (T.tup ts).d.depth ≤ n + 1 := by
  have := depthL_le h
  simp only [T.d, PyData.depth]
  omega
theorem dep_lst (ts : List T) : (T.lst ts).d.depth = (T.tup ts).d.depth := by
  simp only [T.d, PyData.depth]
theorem dep_pos (ts : List T) : 1 ≤ (T.tup ts).d.depth := by
  simp only [T.d, PyData.depth]
  omega
/-! ### repr -/
theorem join2_len : ∀ ys : List Str, (Str.join ", " ys).length ≤ (ys.map fun y => y.length + 2).sum
  | [] => Nat.zero_le _
  | [y] => by
    show y.length ≤ _
    simp
  | y :: z :: r => by
    have ih := join2_len (z :: r)
    have two : (", " : Str).length = 2 := by decide +kernel
    show (y ++ ", " ++ Str.join ", " (z :: r)).length ≤ _
    rw [Str.length_append, Str.length_append, two, List.map_cons, List.sum_cons]
    omega
theorem tuple_len (ys : List Str) : (tupleText ys).length ≤ (ys.map fun y => y.length + 2).sum + 3 := by
  have h := join2_len ys
  have e1 : ("(" : Str).length = 1 := by decide +kernel
  have e2 : ((if ys.length == 1 then ",)" else ")" : String) : Str).length ≤ 2 := by
    split
    · have : (",)" : Str).length = 2 := by decide +kernel
      omega
    · have : (")" : Str).length = 1 := by decide +kernel
      omega
  unfold tupleText
  rw [Str.length_append, Str.length_append, e1]
  omega
theorem list_len (ys : List Str) : (listText ys).length ≤ (ys.map fun y => y.length + 2).sum + 2 := by
  have h := join2_len ys
  have e1 : ("[" : Str).length = 1 := by decide +kernel
  have e2 : ("]" : Str).length = 1 := by decide +kernel
  rw [listText_eq_join, Str.length_append, Str.length_append, e1, e2]
  omega
theorem ofString_len (x : String) : (Str.ofString x).length = x.length := by
  have e := congrArg List.length (signs_ofString x)
  rw [Array.length_toList, List.length_map, String.length_toList] at e
  exact e
theorem int_len {i : Int} (h : i.natAbs < 10 ^ 40) : (Str.ofString (toString i)).length ≤ 41 := by
  rw [ofString_len]
  cases i with
  | ofNat n =>
    have h : n < 10 ^ 40 := h
    have := (Nat.length_repr_le_iff (n := n) (k := 40) (by decide)).mpr h
    show (Nat.repr n).length ≤ 41
    omega
  | negSucc n =>
    have h : n + 1 < 10 ^ 40 := h
    have := (Nat.length_repr_le_iff (n := n + 1) (k := 40) (by decide)).mpr h
    show ("-" ++ Nat.repr (n + 1)).length ≤ 41
    have e1 : ("-" : String).length = 1 := rfl
    rw [String.length_append, e1]
    omega
theorem int_small {i : Int} : ∀ c ∈ (Str.ofString (toString i)).cps.toList, c < 128 := fun c hc => by
  refine Decidable.byContradiction fun h => ?_
  exact int_text_free' c ⟨by omega, by omega⟩ i hc
theorem log2_ok {i : Int} (h : i.natAbs < 10 ^ 45) : i.natAbs.log2 < 1920 := by
  have h1 : i.natAbs < 2 ^ 1920 := Nat.lt_of_lt_of_le h (by decide)
  by_cases h0 : i.natAbs = 0
  · rw [h0]
    decide
  · exact (Nat.log2_lt h0).mpr h1
mutual
theorem shown_a {m : Nat} (hm : m ≤ 10) : ∀ t : T, aT m t → t.plain = true ∧ t.d.showable = true ∧ t.d.shown.length + 2 ≤ 600 * nT t
  | .non, _ => ⟨rfl, rfl, by decide +kernel⟩
  | .bl true, _ => ⟨rfl, rfl, by decide +kernel⟩
  | .bl false, _ => ⟨rfl, rfl, by decide +kernel⟩
  | .int i, h => by
    have h : i.natAbs ≤ 10 ^ 39 + m := h
    have e : (10 ^ 39 + 10 : Nat) < 10 ^ 40 := by decide
    have e2 : (10 ^ 40 : Nat) < 10 ^ 45 := by decide
    have l := int_len (i := i) (by omega)
    refine ⟨rfl, ?_, ?_⟩
    · show decide (i.natAbs.log2 < 1920) = true
      exact decide_eq_true (log2_ok (by omega))
    · show (Str.ofString (toString i)).length + 2 ≤ 600 * 1
      omega
  | .str x, h => ⟨rfl, rfl, by
    have := PySem.StrLaws.reprText_len x (fun c hc => Nat.lt_trans (h.2 c hc) (by decide))
    have := h.1
    show (reprText x).length + 2 ≤ 600 * 1
    omega⟩
  | .tup ts, h => by
    obtain ⟨h1, h2, h3⟩ := shownL_a hm ts h
    refine ⟨by simpa only [T.plain] using h1, by simpa only [T.d, PyData.showable] using h2, ?_⟩
    have := tuple_len (PyData.shownAll (dL ts))
    simp only [T.d, PyData.shown, nT]
    omega
  | .lst ts, h => by
    obtain ⟨h1, h2, h3⟩ := shownL_a hm ts h
    refine ⟨by simpa only [T.plain] using h1, by simpa only [T.d, PyData.showable] using h2, ?_⟩
    have := list_len (PyData.shownAll (dL ts))
    simp only [T.d, PyData.shown, nT]
    omega
  | .dct ps, h => by
    have h : ps = [] := h
    subst h
    exact ⟨rfl, rfl, by decide +kernel⟩
  | .ins _ _, a => a.elim
  | .adr _, a => a.elim
  | .exc _ _ _ _ _, a => a.elim
  | .ltp _, a => a.elim
  | .exv _ _, a => a.elim
theorem shownL_a {m : Nat} (hm : m ≤ 10) : ∀ ts : List T, aL m ts → plainL ts = true ∧ PyData.showableAll (dL ts) = true ∧ ((PyData.shownAll (dL ts)).map fun y => y.length + 2).sum ≤ 600 * nL ts
  | [], _ => ⟨rfl, rfl, Nat.le_refl _⟩
  | t :: r, h => by
    obtain ⟨a1, a2, a3⟩ := shown_a hm t h.1
    obtain ⟨b1, b2, b3⟩ := shownL_a hm r h.2
    refine ⟨by simp only [plainL, a1, b1]; rfl, by simp only [dL, PyData.showableAll, a2, b2]; rfl, ?_⟩
    simp only [dL, PyData.shownAll, List.map_cons, List.sum_cons, nL]
    omega
end
theorem show_ok {m : Nat} {t : T} (g : aT m t) (hm : m ≤ 10) (hn : nT t ≤ 4000) (hd : t.d.depth ≤ 60) : showOk2 t = true := by
  obtain ⟨h1, h2, h3⟩ := shown_a hm t g
  unfold showOk2
  rw [h1, h2, decide_eq_true hd, decide_eq_true (show t.d.shown.length ≤ sizeLine by rw [sizeLine_eq]; omega)]
  rfl
end L2.TL
namespace L2.TL
open PySem PySem.Spec
open PyProof.Rows
theorem u_up : (List.range 128).all (fun c => Unicode.upperOf c == [if lo c then c - 32 else c]) = true := by decide +kernel
theorem upper_list (r : List Nat) (hr : ∀ c ∈ r, c < 128) : Txt.upper ⟨r.toArray⟩ = ⟨(r.map fun c => if lo c then c - 32 else c).toArray⟩ := by
  unfold Txt.upper placed
  congr 1
  have e : ((⟨r.toArray⟩ : Str).cps.mapIdx fun _ c => (Unicode.upperOf c).toArray) = (r.map fun c => #[if lo c then c - 32 else c]).toArray := by
    apply Array.ext
    · simp
    · intro i h1 h2
      simp only [Array.getElem_mapIdx, List.getElem_toArray, List.getElem_map]
      have hi : i < r.length := by simpa using h2
      have hc := hr r[i] (List.getElem_mem hi)
      have := tab (q := fun c => true) (p := fun c => Unicode.upperOf c == [if lo c then c - 32 else c]) (by
        have := u_up
        simpa using this) hc
      have := eq_of_beq this
      simp [this]
  rw [e]
  clear e
  induction r with
  | nil => rfl
  | cons a l ih =>
    have := ih fun c hc => hr c (by simp [hc])
    apply Array.ext'
    simp only [List.map_cons, Array.toList_flatten, List.map_map] at this ⊢
    simp
    have q := congrArg Array.toList this
    simpa [Array.toList_flatten] using q
theorem upper_ok {x : Str} (h : ∀ c ∈ x.cps.toList, c < 128) : (Txt.upper x).length = x.length ∧ ∀ c ∈ (Txt.upper x).cps.toList, c < 128 := by
  obtain ⟨a⟩ := x
  have e := upper_list a.toList h
  rw [Array.toArray_toList] at e
  rw [e]
  refine ⟨?_, fun c hc => ?_⟩
  · show (List.map _ a.toList).toArray.size = a.size
    rw [List.size_toArray, List.length_map, Array.length_toList]
  · simp only [List.toList_toArray] at hc
    obtain ⟨b, hb, rfl⟩ := List.mem_map.mp hc
    have := h b hb
    split <;> omega
theorem cut_ok {x : Str} (h : ∀ c ∈ x.cps.toList, c < 128) (lo hi : Option Int) : (cutS x lo hi).length ≤ x.length ∧ ∀ c ∈ (cutS x lo hi).cps.toList, c < 128 := by
  constructor
  · unfold cutS Str.length
    simp only [List.size_toArray, List.length_take, List.length_drop, Array.length_toList]
    omega
  · intro e he
    unfold cutS at he
    simp only [List.toList_toArray] at he
    exact h e (List.mem_of_mem_drop (List.mem_of_mem_take he))
theorem txt_ok {x : Str} {m : Nat} (h : (decide (x.length ≤ 45) && x.cps.toList.all fun c => decide (c < 128)) = true) : aT m (.str x) := by
  rw [Bool.and_eq_true, decide_eq_true_eq, List.all_eq_true] at h
  exact ⟨by omega, fun c hc => of_decide_eq_true (h.2 c hc)⟩
theorem num_ok {i : Int} {m : Nat} (h : i.natAbs ≤ 10 ^ 39) : aT m (.int i) := Nat.le_trans h (Nat.le_add_right _ _)
/-- what a bend may make -/
def BentOk (m : Nat) (t a : T) : Prop := aT (m + 1) a ∧ nT a ≤ 2 * nT t + 5 ∧ a.d.depth ≤ t.d.depth + 3
theorem leaf_ok {m : Nat} {t a : T} (h : aT (m + 1) a) (hn : nT a ≤ 5) (hd : a.d.depth ≤ 3) : BentOk m t a := ⟨h, by omega, by omega⟩
def oddL : List T := [.non, .bl true, .int 0, .int 1, .int (-1), .int (10 ^ 39), .str "", .str "k", .str "K", .tup [], .tup [.str "part", .int 0], .lst [], .dct [], .tup [.tup [.str "half", .int 1]], .tup [.str "k", .int 1]]
theorem odd_ok {m : Nat} {t a : T} (h : a ∈ oddL) : BentOk m t a := by
  simp only [oddL, List.mem_cons, List.not_mem_nil, or_false] at h
  rcases h with h | h | h | h | h | h | h | h | h | h | h | h | h | h | h <;> subst h
  · exact leaf_ok trivial (by decide) (by decide)
  · exact leaf_ok trivial (by decide) (by decide)
  · exact leaf_ok (num_ok (by decide)) (by decide) (by decide)
  · exact leaf_ok (num_ok (by decide)) (by decide) (by decide)
  · exact leaf_ok (num_ok (by decide)) (by decide) (by decide)
  · exact leaf_ok (num_ok (by decide)) (by decide) (by decide)
  · exact leaf_ok (txt_ok (by decide +kernel)) (by decide) (by decide)
  · exact leaf_ok (txt_ok (by decide +kernel)) (by decide) (by decide)
  · exact leaf_ok (txt_ok (by decide +kernel)) (by decide) (by decide)
  · exact leaf_ok trivial (by simp [nT, nL]) (by simp [T.d, dL, PyData.depth, PyData.depthAll])
  · exact leaf_ok ⟨txt_ok (by decide +kernel), num_ok (by decide), trivial⟩ (by simp [nT, nL]) (by simp [T.d, dL, PyData.depth, PyData.depthAll])
  · exact leaf_ok trivial (by simp [nT, nL]) (by simp [T.d, dL, PyData.depth, PyData.depthAll])
  · exact leaf_ok rfl (by simp [nT, nL]) (by simp [T.d, dP, PyData.depth, PyData.depthKv])
  · exact leaf_ok ⟨⟨txt_ok (by decide +kernel), num_ok (by decide), trivial⟩, trivial⟩ (by simp [nT, nL]) (by simp [T.d, dL, PyData.depth, PyData.depthAll])
  · exact leaf_ok ⟨txt_ok (by decide +kernel), num_ok (by decide), trivial⟩ (by simp [nT, nL]) (by simp [T.d, dL, PyData.depth, PyData.depthAll])
abbrev bC1 (d c : Addr) : EFb (deckZ d c) := (xbAnd (xTru (xIs "tuple" (xName 1))) (xbAnd (xb (x2 neY (xName 1) (xTup (xNil)))) (xbAnd (xb (x2 gtX (xName 2) (xC (T.int 0)))) (xb (x2 gtX (xCallF (drawT dp dq d c) (xCons (xName 0) (xCons (xC (T.int 7)) (xNil)))) (xC (T.int 0)))))))
abbrev bA1 (d c : Addr) : SF (deckZ d c) := (sPar 3 4 (xCons (xCallF (drawT dp dq d c) (xCons (xName 0) (xCons (xCall lenT (xCons (xName 1) (xNil))) (xNil)))) (xCons (xCallF (drawT dp dq d c) (xCons (xName 0) (xCons (xC (T.int 9)) (xNil)))) (xNil))))
abbrev bW0 (d c : Addr) : SF (deckZ d c) := (sIf (xb (x2 (eqX false) (xName 4) (xC (T.int 0)))) (sRet (x2 addX (xCut (xName 1) (oNone) (oSome (xName 3))) (xCut (xName 1) (oSome (x2 addX (xName 3) (xC (T.int 1)))) (oNone)))) (sSkip))
abbrev bW1 (d c : Addr) : SF (deckZ d c) := (sIf (xb (x2 (eqX false) (xName 4) (xC (T.int 1)))) (sRet (x2 addX (xCut (xName 1) (oNone) (oSome (x2 addX (xName 3) (xC (T.int 1))))) (xCut (xName 1) (oSome (xName 3)) (oNone)))) (sSkip))
abbrev bW2 (d c : Addr) : SF (deckZ d c) := (sIf (xb (x2 (eqX false) (xName 4) (xC (T.int 2)))) (sRet (x2 addX (x2 addX (xCut (xName 1) (oNone) (oSome (xName 3))) (x1 revU (xCut (xName 1) (oSome (xName 3)) (oSome (x2 addX (xName 3) (xC (T.int 2))))))) (xCut (xName 1) (oSome (x2 addX (xName 3) (xC (T.int 2)))) (oNone)))) (sSkip))
abbrev bW3 (d c : Addr) : SF (deckZ d c) := (sIf (xb (x2 (eqX false) (xName 4) (xC (T.int 3)))) (sRet (xCall listX (xCons (xName 1) (xNil)))) (sSkip))
abbrev bW4 (d c : Addr) (fr : FF (deckZ d c)) : SF (deckZ d c) := (sRet (x2 addX (x2 addX (xCut (xName 1) (oNone) (oSome (xName 3))) (xTup (xCons (xCallF (fr) (xCons (xName 0) (xCons (x2 ixT (xName 1) (xName 3)) (xCons (x2 subI (xName 2) (xC (T.int 1))) (xNil))))) (xNil)))) (xCut (xName 1) (oSome (x2 addX (xName 3) (xC (T.int 1)))) (oNone))))
abbrev bA (d c : Addr) (fr : FF (deckZ d c)) : SF (deckZ d c) := sSeq (bA1 d c) (sSeq (bW0 d c) (sSeq (bW1 d c) (sSeq (bW2 d c) (sSeq (bW3 d c) (bW4 d c fr)))))
abbrev bC2 (d c : Addr) : EFb (deckZ d c) := (xbAnd (xTru (xIs "int" (xName 1))) (xbAnd (xbNot (xTru (xIs "bool" (xName 1)))) (xb (x2 gtX (xCallF (drawT dp dq d c) (xCons (xName 0) (xCons (xC (T.int 4)) (xNil)))) (xC (T.int 0))))))
abbrev bB (d c : Addr) : SF (deckZ d c) := (sRet (xCallF (f_law_pick d c) (xCons (xName 0) (xCons (xLst (xCons (x2 addX (xName 1) (xC (T.int 1))) (xCons (x2 subI (xName 1) (xC (T.int 1))) (xCons (x2 (eqX false) (xName 1) (xC (T.int 1))) (xCons (xCall strT (xCons (xName 1) (xNil))) (xCons (xC (T.int 0)) (xCons (xC (T.int 3)) (xNil)))))))) (xNil)))))
abbrev bC3 (d c : Addr) : EFb (deckZ d c) := (xbAnd (xTru (xIs "str" (xName 1))) (xb (x2 gtX (xCallF (drawT dp dq d c) (xCons (xName 0) (xCons (xC (T.int 4)) (xNil)))) (xC (T.int 0)))))
abbrev bD (d c : Addr) : SF (deckZ d c) := (sSeq (sSet 5 (xLst (xCons (x2 addX (xName 1) (xC (T.str "a"))) (xCons (xCut (xName 1) (oSome (xC (T.int 1))) (oNone)) (xCons (xMeth "str" (strM (fun a => T.str (Txt.upper a)) 5592405) (xName 1) xNil) (xCons (xC (T.str "lock")) (xCons (xC (T.str "pair")) (xCons (xC (T.str "half")) (xCons (xC (T.str "part")) (xCons (xC (T.str "inside")) (xCons (xC (T.str "y")) (xCons (xC (T.str "zzzzzzzzz")) (xNil)))))))))))))
    (sRet (xCallF (f_law_pick d c) (xCons (xName 0) (xCons (xName 5) (xNil))))))
abbrev bO (d c : Addr) : SF (deckZ d c) := (sSeq (sSet 5 (xLst (xCons (xC T.non) (xCons (xC (T.bl true)) (xCons (xC (T.int 0)) (xCons (xC (T.int 1)) (xCons (x1 negI (xC (T.int 1))) (xCons (x2 powI (xC (T.int 10)) (xC (T.int 39))) (xCons (xC (T.str "")) (xCons (xC (T.str "k")) (xCons (xC (T.str "K")) (xCons (xTup (xNil)) (xCons (xTup (xCons (xC (T.str "part")) (xCons (xC (T.int 0)) (xNil)))) (xCons (xLst (xNil)) (xCons (xDnil) (xCons (xTup (xCons (xTup (xCons (xC (T.str "half")) (xCons (xC (T.int 1)) (xNil)))) (xNil))) (xCons (xTup (xCons (xC (T.str "k")) (xCons (xC (T.int 1)) (xNil)))) (xNil))))))))))))))))))
    (sRet (xCallF (f_law_pick d c) (xCons (xName 0) (xCons (xName 5) (xNil))))))
abbrev bR (d c : Addr) : SF (deckZ d c) := sSeq (sIf (bC2 d c) (bB d c) sSkip) (sSeq (sIf (bC3 d c) (bD d c) sSkip) (bO d c))
theorem bent_eq (d c : Addr) (fr : FF (deckZ d c)) : g_law_bent d c fr = sSeq (sIf (bC1 d c) (bA d c fr) sSkip) (bR d c) := rfl
section
variable {d c : Addr} {τ : List SV} {s : Deck}
theorem we_draw {f : EF (deckZ d c)} {P : T → Deck → Prop} (h0 : τ[0]? = some (.im (.adr d))) (h : We (f τ s) fun a s1 => ∃ n : Int, a = .int n ∧ 0 < n ∧ n < 1073741824 ∧ ∀ (k : Nat) (s2 : Deck), (k : Int) < n → P (.int k) s2) :
    We (xCallF (drawT dp dq d c) (xCons (xName 0) (xCons f xNil)) τ s) P := by
  obtain ⟨a, s1, e, n, rfl, h1, h2, q⟩ := h
  obtain ⟨k, s2, e2, hk⟩ := drawT_some dp dq d c s1 n h1 h2
  exact ⟨_, _, ev_callF (ev_cons (ev_name h0) (ev_cons e ev_nil)) e2, q k s2 hk⟩
theorem we_drawn {τ : List SV} {s : Deck} {f : EF (deckZ d c)} {P : T → Deck → Prop} (h0 : τ[0]? = some (.im (.adr d))) (n : Int) (h : We (f τ s) fun a s1 => a = .int n ∧ 0 < n ∧ n < 1073741824 ∧ ∀ (k : Nat) (s2 : Deck), (k : Int) < n → P (.int k) s2) :
    We (xCallF (drawT dp dq d c) (xCons (xName 0) (xCons f xNil)) τ s) P :=
  we_draw h0 (we_imp h fun a s ⟨e, h⟩ => ⟨n, e, h⟩)
theorem pick_lst (l : List T) (h1 : 1 ≤ l.length) (h2 : l.length ≤ 1000) (s : Deck) : ∃ t ∈ l, ∃ s', f_law_pick d c [.adr d, .lst l] s = some (t, s') := by
  obtain ⟨k, s2, e2, hk⟩ := drawT_some dp dq d c s (l.length : Int) (by omega) (by omega)
  have hk' : k < l.length := by omega
  refine ⟨l[k], List.getElem_mem hk', s2, ev_ff rfl (ev_ret (ev_x2 (ev_name rfl) (ev_callF (ev_cons (ev_name rfl) (ev_cons (ev_call (ev_cons (ev_name rfl) ev_nil) rfl) ev_nil)) e2) ?_))⟩
  exact atI_nat' hk'
theorem we_pickL {τ : List SV} {s : Deck} {f : EF (deckZ d c)} {P : T → Deck → Prop} (h0 : τ[0]? = some (.im (.adr d))) (h : We (f τ s) fun a s1 => ∃ l : List T, a = .lst l ∧ 1 ≤ l.length ∧ l.length ≤ 1000 ∧ ∀ t ∈ l, ∀ s2 : Deck, P t s2) :
    We (xCallF (f_law_pick d c) (xCons (xName 0) (xCons f xNil)) τ s) P := by
  obtain ⟨a, s1, e, x, rfl, h1, h2, q⟩ := h
  obtain ⟨t, ht, s2, e2⟩ := pick_lst x h1 h2 s1
  exact ⟨_, _, ev_callF (ev_cons (ev_name h0) (ev_cons e ev_nil)) e2, q t ht s2⟩
abbrev Lb (d : Addr) (t : T) (deep : Nat) (x3 x4 x5 : SV) : List SV := [.im (.adr d), .im t, .im (.int deep), x3, x4, x5]
theorem bO_ok {m : Nat} (t : T) (deep : Nat) (x3 x4 x5 : SV) (s : Deck) : Wr (bO d c (Lb d t deep x3 x4 x5) s) fun a _ => BentOk m t a := by
  have e10 : powI (.int 10) (.int 39) = some (.int (10 ^ 39)) := by
    have : ∀ i j : Int, 0 ≤ j ∧ j ≤ 1000000 ∧ i.natAbs < 2 ^ 64 → powI (.int i) (.int j) = some (.int (i ^ j.toNat)) := fun i j h => if_pos h
    exact this 10 39 (by decide)
  have z : ∀ l : List T, l.length ≤ 50 → l.length ≤ sizeLine := fun l h => sz (by omega)
  refine wr_seq ⟨[.im (.adr d), .im t, .im (.int deep), x3, x4, .im (.lst oddL)], s, ev_set (ev_lst (as := oddL) (ev_cons rfl (ev_cons rfl (ev_cons rfl (ev_cons rfl (ev_cons (ev_x1 rfl rfl) (ev_cons (ev_x2 rfl rfl e10) (ev_cons rfl (ev_cons rfl (ev_cons rfl (ev_cons (ev_tup rfl (z _ (by simp))) (ev_cons (ev_tup (ev_cons rfl (ev_cons rfl ev_nil)) (z _ (by simp))) (ev_cons (ev_lst rfl (z _ (by simp))) (ev_cons rfl (ev_cons (ev_tup (ev_cons (ev_tup (ev_cons rfl (ev_cons rfl ev_nil)) (z _ (by simp))) ev_nil) (z _ (by simp))) (ev_cons (ev_tup (ev_cons rfl (ev_cons rfl ev_nil)) (z _ (by simp))) ev_nil))))))))))))))) (z _ (by simp [oddL]))) (by simp), ?_⟩
  exact wr_ret (we_pickL rfl (we_name rfl ⟨oddL, rfl, by simp [oddL], by simp [oddL], fun a ha s2 => odd_ok ha⟩))
end
end L2.TL
namespace L2.TL
open PySem PySem.Spec
open PyProof.Rows
section
variable {d c : Addr}
theorem addS_ok {x y : Str} (h : x.length + y.length ≤ 1000) : addX (.str x) (.str y) = some (.str (x ++ y)) := by
  have e : addS (.str x) (.str y) = some (.str (x ++ y)) := if_pos (sz (by omega))
  have e0 : addI (.str x) (.str y) = none := rfl
  unfold addX orT
  simp only [e0, e]
def intL (i : Int) : List T := [.int (i + 1), .int (i - 1), .bl (decide (i = 1)), .str (toString i), .int 0, .int 3]
theorem int_ok {m : Nat} {i : Int} {a : T} (hi : aT m (.int i)) (hm : m ≤ 100) (h : a ∈ intL i) : BentOk m (.int i) a := by
  have hi : i.natAbs ≤ 10 ^ 39 + m := hi
  have e40 : (10 ^ 39 + 100 : Nat) < 10 ^ 40 := by decide
  simp only [intL, List.mem_cons, List.not_mem_nil, or_false] at h
  rcases h with h | h | h | h | h | h <;> subst h
  · exact leaf_ok (show (i + 1).natAbs ≤ 10 ^ 39 + (m + 1) by omega) (by simp [nT]) (by simp [T.d, PyData.depth])
  · exact leaf_ok (show (i - 1).natAbs ≤ 10 ^ 39 + (m + 1) by omega) (by simp [nT]) (by simp [T.d, PyData.depth])
  · exact leaf_ok trivial (by simp [nT]) (by simp [T.d, PyData.depth])
  · have := int_len (i := i) (by omega)
    exact leaf_ok ⟨by omega, int_small⟩ (by simp [nT]) (by simp [T.d, PyData.depth])
  · exact leaf_ok (num_ok (by decide)) (by decide) (by decide)
  · exact leaf_ok (num_ok (by decide)) (by decide) (by decide)
def strL (x : Str) : List T := [.str (x ++ ("a" : Str)), .str (cutS x (some 1) none), .str (Txt.upper x), .str "lock", .str "pair", .str "half", .str "part", .str "inside", .str "y", .str "zzzzzzzzz"]
theorem str_ok {m : Nat} {x : Str} {a : T} (hx : aT m (.str x)) (h : a ∈ strL x) : BentOk m (.str x) a := by
  obtain ⟨h1, h2⟩ := hx
  have e1 : ("a" : Str).length = 1 := by decide +kernel
  simp only [strL, List.mem_cons, List.not_mem_nil, or_false] at h
  rcases h with h | h | h | h | h | h | h | h | h | h <;> subst h
  · refine leaf_ok ⟨by rw [Str.length_append, e1]; omega, fun c hc => ?_⟩ (by simp [nT]) (by simp [T.d, PyData.depth])
    rcases mem_cps_append.mp hc with q | q
    · exact h2 c q
    · have : (("a" : Str).cps.toList.all fun c => decide (c < 128)) = true := by decide +kernel
      exact of_decide_eq_true (List.all_eq_true.mp this c q)
  · obtain ⟨a1, a2⟩ := cut_ok h2 (some 1) none
    exact leaf_ok ⟨by omega, a2⟩ (by simp [nT]) (by simp [T.d, PyData.depth])
  · obtain ⟨a1, a2⟩ := upper_ok h2
    exact leaf_ok ⟨by omega, a2⟩ (by simp [nT]) (by simp [T.d, PyData.depth])
  all_goals exact leaf_ok (txt_ok (by decide +kernel)) (by decide) (by decide)
theorem bS_ok {m : Nat} (t : T) (deep : Nat) (x3 x4 x5 : SV) (s : Deck) (hs : isTy "str" t = some false) : Wr (sSeq (sIf (bC3 d c) (bD d c) sSkip) (bO d c) (Lb d t deep x3 x4 x5) s) fun a _ => BentOk m t a :=
  wr_if_seq (we_band (we_is (we_name rfl ⟨false, hs, (fun h => nomatch h), fun _ => ⟨(fun h => nomatch h), fun _ => bO_ok t deep x3 x4 x5 s⟩⟩)))
theorem bR_ok {m : Nat} (t : T) (ha : aT m t) (hm : m ≤ 100) (deep : Nat) (x3 x4 x5 : SV) (s : Deck) : Wr (bR d c (Lb d t deep x3 x4 x5) s) fun a _ => BentOk m t a := by
  have no : ∀ s, isTy "int" t = some false → isTy "str" t = some false → Wr (bR d c (Lb d t deep x3 x4 x5) s) fun a _ => BentOk m t a := fun s h1 h2 =>
    wr_if_seq (we_band (we_is (we_name rfl ⟨false, h1, (fun h => nomatch h), fun _ => ⟨(fun h => nomatch h), fun _ => bS_ok t deep x3 x4 x5 s h2⟩⟩)))
  cases t with
  | non => exact no s rfl rfl
  | tup ts => exact no s rfl rfl
  | lst ts => exact no s rfl rfl
  | dct ps => exact no s rfl rfl
  | bl b => exact wr_if_seq (we_band (we_is (we_name rfl ⟨true, rfl, fun _ => we_band (we_bnot (we_is (we_name rfl ⟨true, rfl, (fun h => nomatch h), fun _ => ⟨(fun h => nomatch h), fun _ => bS_ok (.bl b) deep x3 x4 x5 s rfl⟩⟩))), (fun h => nomatch h)⟩)))
  | int i =>
    have hi : i.natAbs ≤ 10 ^ 39 + m := ha
    have e45 : (10 ^ 39 + 100 : Nat) < 10 ^ 45 := by decide
    refine wr_if_seq (we_band (we_is (we_name rfl ⟨true, rfl, fun _ => we_band (we_bnot (we_is (we_name rfl ⟨false, rfl, fun _ => we_gti (we_drawn rfl 4 (we_c ⟨rfl, by decide, by decide, fun k s2 hk => ⟨k, rfl, fun _ => ?_, fun _ => bS_ok (.int i) deep x3 x4 x5 s2 rfl⟩⟩)), (fun h => nomatch h)⟩))), (fun h => nomatch h)⟩)))
    have st : strT [.int i] = some (.str (toString i)) := if_pos (log2_ok (by omega))
    have e : xLst (Z := deckZ d c) (xCons (x2 addX (xName 1) (xC (T.int 1))) (xCons (x2 subI (xName 1) (xC (T.int 1))) (xCons (x2 (eqX false) (xName 1) (xC (T.int 1))) (xCons (xCall strT (xCons (xName 1) (xNil))) (xCons (xC (T.int 0)) (xCons (xC (T.int 3)) (xNil))))))) (Lb d (.int i) deep x3 x4 x5) s2 = some (.lst (intL i), s2) :=
      ev_lst (as := intL i) (ev_cons (ev_x2 (ev_name rfl) rfl rfl) (ev_cons (ev_x2 (ev_name rfl) rfl rfl) (ev_cons (ev_x2 (ev_name rfl) rfl (eq_int false i 1)) (ev_cons (ev_call (ev_cons (ev_name rfl) ev_nil) st) (ev_cons rfl (ev_cons rfl ev_nil)))))) (sz (by simp [intL]))
    exact wr_ret (we_pickL rfl ⟨_, s2, e, intL i, rfl, by simp [intL], by simp [intL], fun a ha' s3 => int_ok ha hm ha'⟩)
  | str x =>
    obtain ⟨h1, h2⟩ := ha
    refine wr_if_seq (we_band (we_is (we_name rfl ⟨false, rfl, (fun h => nomatch h), fun _ => ⟨(fun h => nomatch h), fun _ => ?_⟩⟩)))
    refine wr_if_seq (we_band (we_is (we_name rfl ⟨true, rfl, fun _ => we_gti (we_drawn rfl 4 (we_c ⟨rfl, by decide, by decide, fun k s2 hk => ⟨k, rfl, fun _ => ?_, fun _ => bO_ok (.str x) deep x3 x4 x5 s2⟩⟩)), (fun h => nomatch h)⟩)))
    have e1 : ("a" : Str).length = 1 := by decide +kernel
    have ct : cutT (.str x) (some 1) none = some (.str (cutS x (some 1) none)) := if_pos (sz (by omega))
    have up : strM (fun a => T.str (Txt.upper a)) 5592405 (.str x) [] = some (.str (Txt.upper x)) := if_pos (by omega)
    refine wr_seq ⟨[.im (.adr d), .im (.str x), .im (.int deep), x3, x4, .im (.lst (strL x))], s2, ev_set (ev_lst (as := strL x) (ev_cons (ev_x2 (ev_name rfl) rfl (addS_ok (by omega))) (ev_cons (ev_cut (ev_name rfl) (ev_oSome rfl) rfl ct) (ev_cons (ev_meth (ev_name rfl) rfl ev_nil up) (ev_cons rfl (ev_cons rfl (ev_cons rfl (ev_cons rfl (ev_cons rfl (ev_cons rfl (ev_cons rfl ev_nil)))))))))) (sz (by simp [strL]))) (by simp), ?_⟩
    exact wr_ret (we_pickL rfl (we_name rfl ⟨strL x, rfl, by simp [strL], by simp [strL], fun a ha s3 => str_ok ⟨h1, h2⟩ ha⟩))
  | ins _ _ => exact ha.elim
  | adr _ => exact ha.elim
  | exc _ _ _ _ _ => exact ha.elim
  | ltp _ => exact ha.elim
  | exv _ _ => exact ha.elim
end
end L2.TL
namespace L2.TL
open PySem PySem.Spec
open PyProof.Rows
theorem addT_ok {a b : List T} (h : a.length + b.length ≤ 10000) : addX (.tup a) (.tup b) = some (.tup (a ++ b)) := by
  have e : addT (.tup a) (.tup b) = some (.tup (a ++ b)) := if_pos (sz (by omega))
  have e0 : addI (.tup a) (.tup b) = none := rfl
  have e1 : addS (.tup a) (.tup b) = none := rfl
  have e2 : addL (.tup a) (.tup b) = none := rfl
  unfold addX orT
  simp only [e0, e1, e2, e]
theorem res_ok {m : Nat} {ts l : List T} (ha : aL m ts) (h : ∀ u ∈ l, u ∈ ts) (hn : nL l ≤ 2 * nL ts + 5) : BentOk m (.tup ts) (.tup l) := by
  refine ⟨aL_of fun u hu => aT_up (Nat.le_succ m) u (aL_mem ha (h u hu)), ?_, ?_⟩
  · show nL l + 1 ≤ 2 * (nL ts + 1) + 5
    omega
  · have := dep_pos ts
    have := dep_tup_le (ts := l) (n := (T.tup ts).d.depth - 1) fun u hu => by
      have := dep_tup (h u hu)
      omega
    omega
section
variable {d c : Addr}
theorem bA_ok {m : Nat} (fr : FF (deckZ d c)) {ts : List T} (ha : aL m ts) (hn : nL ts + 1 ≤ 1000) (ne : ts ≠ []) (deep : Nat) (h0 : 0 < deep)
    (ih : ∀ (u : T) (s : Deck), aT m u → nT u ≤ 1000 → We (fr [.adr d, u, .int ((deep - 1 : Nat) : Int)] s) fun a _ => BentOk m u a) (x5 : SV) (s : Deck) :
    Wr (bA d c fr (Lb d (.tup ts) deep .un .un x5) s) fun a _ => BentOk m (.tup ts) a := by
  have hl := nL_len ts
  have hp : 0 < ts.length := List.length_pos_iff.mpr ne
  refine wr_seq (wn_par (we_cons (we_drawn rfl (ts.length : Int) (we_call (we_cons (we_name rfl (we_nil ⟨.int ts.length, rfl, rfl, by omega, by omega, fun k s2 hk => we_cons (we_drawn rfl 9 (we_c ⟨rfl, by decide, by decide, fun way s3 _ => we_nil ⟨_, _, rfl, by simp, by simp, ?_⟩⟩))⟩)))))))
  show Wr ((_ : SF (deckZ d c)) (Lb d (.tup ts) deep (.im (.int k)) (.im (.int way)) x5) s3) _
  have hk' : k < ts.length := by omega
  have e1 : ∀ s, x2 (Z := deckZ d c) addX (xName 3) (xC (T.int 1)) (Lb d (.tup ts) deep (.im (.int k)) (.im (.int way)) x5) s = some (.int ((k + 1 : Nat) : Int), s) := fun s => ev_x2 (ev_name rfl) rfl rfl
  have e2 : ∀ s, x2 (Z := deckZ d c) addX (xName 3) (xC (T.int 2)) (Lb d (.tup ts) deep (.im (.int k)) (.im (.int way)) x5) s = some (.int ((k + 2 : Nat) : Int), s) := fun s => ev_x2 (ev_name rfl) rfl rfl
  have c0 : ∀ s, xCut (Z := deckZ d c) (xName 1) oNone (oSome (xName 3)) (Lb d (.tup ts) deep (.im (.int k)) (.im (.int way)) x5) s = some (.tup (ts.take k), s) := fun s =>
    ev_cut (ev_name rfl) rfl (ev_oSome (ev_name rfl)) (by show some (T.tup (cutL ts none (some (k : Int)))) = _; rw [cut_to])
  have c1 : ∀ s, xCut (Z := deckZ d c) (xName 1) oNone (oSome (x2 addX (xName 3) (xC (T.int 1)))) (Lb d (.tup ts) deep (.im (.int k)) (.im (.int way)) x5) s = some (.tup (ts.take (k + 1)), s) := fun s =>
    ev_cut (ev_name rfl) rfl (ev_oSome (e1 s)) (by show some (T.tup (cutL ts none (some ((k + 1 : Nat) : Int)))) = _; rw [cut_to])
  have f0 : ∀ s, xCut (Z := deckZ d c) (xName 1) (oSome (xName 3)) oNone (Lb d (.tup ts) deep (.im (.int k)) (.im (.int way)) x5) s = some (.tup (ts.drop k), s) := fun s =>
    ev_cut (ev_name rfl) (ev_oSome (ev_name rfl)) rfl (by show some (T.tup (cutL ts (some (k : Int)) none)) = _; rw [cut_from])
  have f1 : ∀ s, xCut (Z := deckZ d c) (xName 1) (oSome (x2 addX (xName 3) (xC (T.int 1)))) oNone (Lb d (.tup ts) deep (.im (.int k)) (.im (.int way)) x5) s = some (.tup (ts.drop (k + 1)), s) := fun s =>
    ev_cut (ev_name rfl) (ev_oSome (e1 s)) rfl (by show some (T.tup (cutL ts (some ((k + 1 : Nat) : Int)) none)) = _; rw [cut_from])
  have f2 : ∀ s, xCut (Z := deckZ d c) (xName 1) (oSome (x2 addX (xName 3) (xC (T.int 2)))) oNone (Lb d (.tup ts) deep (.im (.int k)) (.im (.int way)) x5) s = some (.tup (ts.drop (k + 2)), s) := fun s =>
    ev_cut (ev_name rfl) (ev_oSome (e2 s)) rfl (by show some (T.tup (cutL ts (some ((k + 2 : Nat) : Int)) none)) = _; rw [cut_from])
  have m0 : ∀ s, xCut (Z := deckZ d c) (xName 1) (oSome (xName 3)) (oSome (x2 addX (xName 3) (xC (T.int 2)))) (Lb d (.tup ts) deep (.im (.int k)) (.im (.int way)) x5) s = some (.tup ((ts.drop k).take 2), s) := fun s =>
    ev_cut (ev_name rfl) (ev_oSome (ev_name rfl)) (ev_oSome (e2 s)) (by show some (T.tup (cutL ts (some (k : Int)) (some ((k + 2 : Nat) : Int)))) = _; rw [cut_two])
  have n0 := nL_cut ts k
  have n1 := nL_cut ts (k + 1)
  have dk : ts.drop k = ts[k] :: ts.drop (k + 1) := List.drop_eq_getElem_cons hk'
  have nk : nL (ts.drop k) = nT ts[k] + nL (ts.drop (k + 1)) := by rw [dk]; rfl
  have n2 : nL ((ts.drop k).take 2) + nL (ts.drop (k + 2)) = nL (ts.drop k) := by
    have := nL_cut (ts.drop k) 2
    rw [List.drop_drop] at this
    exact this
  have lt0 : (ts.take k).length ≤ ts.length := by rw [List.length_take]; omega
  have lt1 : (ts.take (k + 1)).length ≤ ts.length := by rw [List.length_take]; omega
  have ld0 : (ts.drop k).length ≤ ts.length := by rw [List.length_drop]; omega
  have ld1 : (ts.drop (k + 1)).length ≤ ts.length := by rw [List.length_drop]; omega
  have ld2 : (ts.drop (k + 2)).length ≤ ts.length := by rw [List.length_drop]; omega
  have lm : ((ts.drop k).take 2).length ≤ 2 := by rw [List.length_take]; omega
  refine wr_if_seq (we_eqi (we_name rfl ⟨way, rfl, fun _ => ?_, fun _ => ?_⟩))
  · refine wr_ret ⟨_, s3, ev_x2 (c0 s3) (f1 s3) (addT_ok (by omega)), res_ok ha (fun u hu => ?_) (by rw [nL_app]; omega)⟩
    rcases List.mem_append.mp hu with h | h
    · exact List.mem_of_mem_take h
    · exact List.mem_of_mem_drop h
  refine wr_if_seq (we_eqi (we_name rfl ⟨way, rfl, fun _ => ?_, fun _ => ?_⟩))
  · refine wr_ret ⟨_, s3, ev_x2 (c1 s3) (f0 s3) (addT_ok (by omega)), res_ok ha (fun u hu => ?_) (by rw [nL_app]; omega)⟩
    rcases List.mem_append.mp hu with h | h
    · exact List.mem_of_mem_take h
    · exact List.mem_of_mem_drop h
  refine wr_if_seq (we_eqi (we_name rfl ⟨way, rfl, fun _ => ?_, fun _ => ?_⟩))
  · refine wr_ret ⟨_, s3, ev_x2 (ev_x2 (c0 s3) (ev_x1 (m0 s3) rfl) (addT_ok (by rw [List.length_reverse]; omega))) (f2 s3) (addT_ok (by rw [List.length_append, List.length_reverse]; omega)), res_ok ha (fun u hu => ?_) (by rw [nL_app, nL_app, nL_rev]; omega)⟩
    rcases List.mem_append.mp hu with h | h
    · rcases List.mem_append.mp h with h | h
      · exact List.mem_of_mem_take h
      · exact List.mem_of_mem_drop (List.mem_of_mem_take (List.mem_reverse.mp h))
    · exact List.mem_of_mem_drop h
  refine wr_if_seq (we_eqi (we_name rfl ⟨way, rfl, fun _ => ?_, fun _ => ?_⟩))
  · refine wr_ret ⟨.lst ts, s3, ev_call (ev_cons (ev_name rfl) ev_nil) rfl, aL_up (Nat.le_succ m) ts ha, ?_, ?_⟩
    · show nL ts + 1 ≤ 2 * (nL ts + 1) + 5
      omega
    · rw [dep_lst]
      omega
  have mk : ts[k] ∈ ts := List.getElem_mem hk'
  have nm := nL_mem mk
  obtain ⟨a, s4, e4, p1, p2, p3⟩ := ih ts[k] s3 (aL_mem ha mk) (by omega)
  have ix : ixT (.tup ts) (.int (k : Int)) = some ts[k] := by
    show atI ts (k : Int) = _
    exact atI_nat' hk'
  have sb : subI (.int (deep : Int)) (.int 1) = some (.int ((deep - 1 : Nat) : Int)) := by
    show some (T.int ((deep : Int) - 1)) = _
    congr 2
    omega
  refine wr_ret ⟨_, s4, ev_x2 (ev_x2 (c0 s3) (ev_tup (ev_cons (ev_callF (ev_cons (ev_name rfl) (ev_cons (ev_x2 (ev_name rfl) (ev_name rfl) ix) (ev_cons (ev_x2 (ev_name rfl) rfl sb) ev_nil))) e4) ev_nil) (sz (by simp))) (addT_ok (by simp; omega))) (f1 s4) (addT_ok (by simp; omega)), ?_⟩
  have hmem : ∀ u ∈ ts.take k ++ [a] ++ ts.drop (k + 1), u ∈ ts ∨ u = a := fun u hu => by
    rcases List.mem_append.mp hu with h | h
    · rcases List.mem_append.mp h with h | h
      · exact .inl (List.mem_of_mem_take h)
      · exact .inr (List.mem_singleton.mp h)
    · exact .inl (List.mem_of_mem_drop h)
  refine ⟨aL_of fun u hu => ?_, ?_, ?_⟩
  · rcases hmem u hu with h | h
    · exact aT_up (Nat.le_succ m) u (aL_mem ha h)
    · rw [h]
      exact p1
  · show nL (ts.take k ++ [a] ++ ts.drop (k + 1)) + 1 ≤ 2 * (nL ts + 1) + 5
    rw [nL_app, nL_app]
    simp only [nL]
    omega
  · have := dep_pos ts
    have hk3 := dep_tup mk
    have := dep_tup_le (ts := ts.take k ++ [a] ++ ts.drop (k + 1)) (n := (T.tup ts).d.depth - 1 + 3) fun u hu => by
      rcases hmem u hu with h | h
      · have := dep_tup h
        omega
      · rw [h]
        omega
    omega
theorem bent_succ (n : Nat) : f_law_bent d c (n + 1) = bodyF 3 6 (g_law_bent d c (f_law_bent d c n)) := rfl
theorem bent_some : ∀ (n deep : Nat) (t : T) (m : Nat) (s : Deck), deep < n → aT m t → nT t ≤ 1000 → m ≤ 100 → We (f_law_bent d c n [.adr d, t, .int deep] s) fun a _ => BentOk m t a
  | 0, _, _, _, _, h, _, _, _ => absurd h (by omega)
  | n + 1, deep, t, m, s, hd, ha, hn, hm => by
    rw [bent_succ]
    refine we_ff rfl ?_
    rw [bent_eq]
    show Wr ((_ : SF (deckZ d c)) (Lb d t deep .un .un .un) s) _
    have rest : ∀ s, Wr (bR d c (Lb d t deep .un .un .un) s) fun a _ => BentOk m t a := fun s => bR_ok t ha hm deep .un .un .un s
    have no : isTy "tuple" t = some false → Wr (sSeq (sIf (bC1 d c) (bA d c (f_law_bent d c n)) sSkip) (bR d c) (Lb d t deep .un .un .un) s) fun a _ => BentOk m t a := fun h =>
      wr_if_seq (we_band (we_is (we_name rfl ⟨false, h, (fun h => nomatch h), fun _ => ⟨(fun h => nomatch h), fun _ => rest s⟩⟩)))
    cases t with
    | tup ts =>
      refine wr_if_seq (we_band (we_is (we_name rfl ⟨true, rfl, fun _ => ?_, (fun h => nomatch h)⟩)))
      refine we_band (we_xb ⟨.bl (!ts.isEmpty), s, ev_x2 (ev_name rfl) (ev_tup ev_nil (sz (by simp))) (neY_nil ts), !ts.isEmpty, rfl, fun he => ?_, fun _ => ⟨(fun h => nomatch h), fun _ => rest s⟩⟩)
      have ne : ts ≠ [] := by
        intro h
        rw [h] at he
        cases he
      refine we_band (we_gti (we_name rfl ⟨(deep : Int), rfl, fun h0 => ?_, fun _ => ⟨(fun h => nomatch h), fun _ => rest s⟩⟩))
      have h0 : (0 : Int) < (deep : Int) := of_decide_eq_true h0
      refine we_gti (we_drawn rfl 7 (we_c ⟨rfl, by decide, by decide, fun k s2 hk => ⟨k, rfl, fun _ => ?_, fun _ => rest s2⟩⟩))
      exact bA_ok (f_law_bent d c n) ha hn ne deep (by omega) (fun u s hu hun => bent_some n (deep - 1) u m s (by omega) hu hun hm) .un s2
    | non => exact no rfl
    | lst ts => exact no rfl
    | dct ps => exact no rfl
    | bl b => exact no rfl
    | int i => exact no rfl
    | str x => exact no rfl
    | ins _ _ => exact ha.elim
    | adr _ => exact ha.elim
    | exc _ _ _ _ _ => exact ha.elim
    | ltp _ => exact ha.elim
    | exv _ _ => exact ha.elim
end
end L2.TL
namespace L2.TL
open PySem PySem.Spec
open PyProof.Rows
section
variable {K : PySem.W.Frag} {E : Ec 3} {B : Addr}
theorem ev_isC {Z : Res} {f : EF Z} {τ : List SV} {s s1 : Z.S} {Ds : List (Addr × Bool)} {a : T} {b : Bool} (h : f τ s = some (a, s1)) (h2 : isC Ds a = some b) : xIsC Ds f τ s = some (.bl b, s1) := by
  unfold xIsC
  simp only [h, h2]
theorem ev_fld {Z : Res} {f : EF Z} {τ : List SV} {s s1 : Z.S} {Cs : List Addr} {C : Addr} {fs : List (Str × T)} {fn : Str} {t : T} (h : f τ s = some (.ins C fs, s1)) (hC : C ∈ Cs) (hl : fs.lookup fn = some t) : xFld Cs fn f τ s = some (t, s1) := by
  unfold xFld
  simp only [h, hC, if_true, hl]
theorem ev_xgood {Z : Res} {g : EFx Z} {τ : List SV} {s s1 : Z.S} {a : T} (h : g τ s = some (.ok a s1)) : xGood g τ s = some (a, s1) := by
  unfold xGood
  simp only [h]
theorem isC_book {k o c w y : T} : isC [(B, true)] (BookT B k o c w y) = some true := by
  unfold isC BookT
  simp [List.find?]
theorem fld_k {Z : Res} {f : EF Z} {τ : List SV} {s s1 : Z.S} {k o c w y : T} (h : f τ s = some (BookT B k o c w y, s1)) : xFld [B] "kinds" f τ s = some (k, s1) := ev_fld h (List.mem_singleton.mpr rfl) rfl
theorem fld_o {Z : Res} {f : EF Z} {τ : List SV} {s s1 : Z.S} {k o c w y : T} (h : f τ s = some (BookT B k o c w y, s1)) : xFld [B] "openings" f τ s = some (o, s1) := ev_fld h (List.mem_singleton.mpr rfl) rfl
theorem orT_none {f g : T → T → Option T} {a b : T} (h : f a b = none) : orT f g a b = g a b := by
  unfold orT
  rw [h]
theorem ev_not {Z : Res} {f : EF Z} {τ : List SV} {s s1 : Z.S} {a : T} {k : Bool} (h : f τ s = some (a, s1)) (h2 : tru a = some k) : xNot f τ s = some (.bl (!k), s1) := by
  unfold xNot
  simp only [h, h2]
theorem eqBk_eq {k o c w y b : T} : eqBk K E B (BookT B k o c w y) b = eqO B (f_Book_eq K E B) (BookT B k o c w y) b := by
  have e1 : eqX false (BookT B k o c w y) b = none := by
    have e0 : eqS false (BookT B k o c w y) b = none := by
      unfold eqS
      have e0 : scV (BookT B k o c w y) = none := rfl
      simp only [e0]
    refine (orT_none e0).trans ?_
    unfold eqT
    exact if_neg fun h => nomatch h.1
  exact orT_none ((orT_none e1).trans rfl)
theorem book_eq {k1 o1 c1 w1 y1 k2 o2 c2 w2 y2 : T} {x z : Bool} (hk : eqX false k1 k2 = some (.bl x)) (ho : eqX false o1 o2 = some (.bl z)) : eqBk K E B (BookT B k1 o1 c1 w1 y1) (BookT B k2 o2 c2 w2 y2) = some (.bl (x && z)) := by
  rw [eqBk_eq]
  have i0 : xIsC (Z := Z0) [(B, true)] (xName 1) [.im (BookT B k1 o1 c1 w1 y1), .im (BookT B k2 o2 c2 w2 y2)] () = some (.bl true, ()) := ev_isC (Z := Z0) (s1 := (() : Z0.S)) (ev_name rfl) isC_book
  have i1 : x2 (Z := Z0) (eqX false) (xFld [B] "kinds" (xName 0)) (xFld [B] "kinds" (xName 1)) [.im (BookT B k1 o1 c1 w1 y1), .im (BookT B k2 o2 c2 w2 y2)] () = some (.bl x, ()) := ev_x2 (Z := Z0) (s1 := (() : Z0.S)) (s2 := (() : Z0.S)) (fld_k (Z := Z0) (s1 := (() : Z0.S)) (ev_name rfl)) (fld_k (Z := Z0) (s1 := (() : Z0.S)) (ev_name rfl)) hk
  have i2 : x2 (Z := Z0) (eqX false) (xFld [B] "openings" (xName 0)) (xFld [B] "openings" (xName 1)) [.im (BookT B k1 o1 c1 w1 y1), .im (BookT B k2 o2 c2 w2 y2)] () = some (.bl z, ()) := ev_x2 (Z := Z0) (s1 := (() : Z0.S)) (s2 := (() : Z0.S)) (fld_o (Z := Z0) (s1 := (() : Z0.S)) (ev_name rfl)) (fld_o (Z := Z0) (s1 := (() : Z0.S)) (ev_name rfl)) ho
  have f : f_Book_eq K E B [BookT B k1 o1 c1 w1 y1, BookT B k2 o2 c2 w2 y2] = some (.bl (x && z)) := by
    refine ev_fp rfl (ev_ret (ev_and_t (Z := Z0) (s1 := (() : Z0.S)) i0 rfl ?_))
    cases x with
    | true => exact ev_and_t (Z := Z0) (s1 := (() : Z0.S)) i1 rfl i2
    | false => exact ev_and_f (Z := Z0) (s1 := (() : Z0.S)) i1 rfl
  have hi : (tyName (BookT B k2 o2 c2 w2 y2)).isSome = true ∨ insOf B (BookT B k2 o2 c2 w2 y2) = true := .inr (decide_eq_true rfl)
  show (if B = B ∧ ((tyName (BookT B k2 o2 c2 w2 y2)).isSome = true ∨ insOf B (BookT B k2 o2 c2 w2 y2) = true) then (match f_Book_eq K E B [BookT B k1 o1 c1 w1 y1, BookT B k2 o2 c2 w2 y2] with | some (.bl k) => some (T.bl k) | _ => none) else none) = _
  rw [if_pos ⟨rfl, hi⟩, f]
theorem book_ne {k o c w y b : T} (hb : (tyName b).isSome = true) : eqBk K E B (BookT B k o c w y) b = some (.bl false) := by
  rw [eqBk_eq]
  have hc : isC [(B, true)] b = some false := by
    cases b <;> first | rfl | cases hb
  have i0 : xIsC (Z := Z0) [(B, true)] (xName 1) [.im (BookT B k o c w y), .im b] () = some (.bl false, ()) := ev_isC (Z := Z0) (s1 := (() : Z0.S)) (ev_name rfl) hc
  have f : f_Book_eq K E B [BookT B k o c w y, b] = some (.bl false) := ev_fp rfl (ev_ret (ev_and_f (Z := Z0) (s1 := (() : Z0.S)) i0 rfl))
  show (if B = B ∧ ((tyName b).isSome = true ∨ insOf B b = true) then (match f_Book_eq K E B [BookT B k o c w y, b] with | some (.bl k) => some (T.bl k) | _ => none) else none) = _
  rw [if_pos ⟨rfl, .inl hb⟩, f]
theorem ev_notN {Z : Res} {f : EF Z} {τ : List SV} {s s1 : Z.S} {a : T} {b : Bool} (h : f τ s = some (a, s1)) (h2 : notNT a = some (.bl b)) : xb (x1 notNT f) τ s = some (b, s1) := ev_xb (ev_x1 h h2)
theorem same_txt (neg : Bool) (x : Str) : eqX neg (.str x) (.str x) = some (.bl (!neg)) := by
  rw [eq_str]
  cases neg <;> simp
theorem repr_t {t : T} (h : showOk2 t = true) : reprT2 [t] = some (.str t.show) := if_pos h
/-- the two expected answers -/
abbrev badL (p : Str) : T := .lst [.str "part", .str p]
theorem show_k : showOk2 (badL "kinds") = true := by decide +kernel
theorem show_o : showOk2 (badL "openings") = true := by decide +kernel
abbrev Lr (k o : T) (b : Bool) (x3 x4 x5 : SV) : List SV := [.im k, .im o, .im (.bl b), x3, x4, x5]
theorem repr_ko {k o : T} {b : Bool} {x3 x4 x5 : SV} {sh : Str} (h : reprT2 [.tup [k, o]] = some (.str sh)) : xCall (Z := Z0) reprT2 (xCons (xTup (xCons (xName 0) (xCons (xName 1) (xNil)))) (xNil)) (Lr k o b x3 x4 x5) () = some (.str sh, ()) :=
  ev_call (Z := Z0) (s1 := (() : Z0.S)) (ev_cons (ev_tup (Z := Z0) (s1 := (() : Z0.S)) (ev_cons (ev_name rfl) (ev_cons (ev_name rfl) ev_nil)) (sz (by simp))) ev_nil) h
theorem right_bad {k o : T} {b : Bool} {p : Str} (hs : showOk2 (.tup [k, o]) = true) (hp : showOk2 (badL p) = true)
    (h4 : ∀ sh : Str, (sIf (Z := Z0) (xbNot (xTru (xCallP (f_law_is_kinds) (xCons (xName 0) (xNil))))) (sSet 4 (xLst (xCons (xC (T.str "part")) (xCons (xC (T.str "kinds")) (xNil))))) (sIf (xbNot (xTru (xCallP (f_law_is_openings) (xCons (xName 0) (xCons (xName 1) (xNil)))))) (sSet 4 (xLst (xCons (xC (T.str "part")) (xCons (xC (T.str "openings")) (xNil))))) (sSkip))) (Lr k o b (.im (.str sh)) (.im .non) .un) () = some (.nx (Lr k o b (.im (.str sh)) (.im (badL p)) .un) ()))
    (hh : f_law_heard K E B [k, o, .bl b] = some (badL p)) : f_law_right K E B [k, o, .bl b] = some (.bl true) := by
  have r := repr_t hs
  have rp := repr_t hp
  generalize T.show (.tup [k, o]) = sh at r
  generalize T.show (badL p) = sp at rp
  refine ev_fp rfl (ev_seq (Z := Z0) (τ' := Lr k o b (.im (.str sh)) (.im .non) .un) (s1 := (() : Z0.S)) (ev_par (Z := Z0) (s1 := (() : Z0.S)) (ev_cons (repr_ko r) (ev_cons rfl ev_nil)) (show 3 < 6 by decide) (show 4 < 6 by decide)) ?_)
  refine ev_seq (Z := Z0) (s1 := (() : Z0.S)) (h4 sh) ?_
  refine ev_seq (Z := Z0) (τ' := Lr k o b (.im (.str sh)) (.im (badL p)) (.im (badL p))) (s1 := (() : Z0.S)) (ev_set (Z := Z0) (s1 := (() : Z0.S)) (ev_callP (Z := Z0) (s1 := (() : Z0.S)) (ev_cons (ev_name rfl) (ev_cons (ev_name rfl) (ev_cons (ev_name rfl) ev_nil))) hh) (show 5 < 6 by decide)) ?_
  refine ev_seq (Z := Z0) (s1 := (() : Z0.S)) (ev_if_f (Z := Z0) (s1 := (() : Z0.S)) (ev_xb (ev_x2 (Z := Z0) (s1 := (() : Z0.S)) (s2 := (() : Z0.S)) (repr_ko r) (ev_name rfl) (same_txt true sh))) rfl) ?_
  refine ev_seq_rt (ev_if_t (Z := Z0) (s1 := (() : Z0.S)) (ev_notN (Z := Z0) (s1 := (() : Z0.S)) (ev_name rfl) rfl) (ev_ret (ev_x2 (Z := Z0) (s1 := (() : Z0.S)) (s2 := (() : Z0.S)) (ev_call (Z := Z0) (s1 := (() : Z0.S)) (ev_cons (ev_name rfl) ev_nil) rp) (ev_call (Z := Z0) (s1 := (() : Z0.S)) (ev_cons (ev_name rfl) ev_nil) rp) (same_txt false sp))))
theorem not_k {k o : T} {b q : Bool} {x3 x4 x5 : SV} (h : f_law_is_kinds [k] = some (.bl q)) : xbNot (Z := Z0) (xTru (xCallP (f_law_is_kinds) (xCons (xName 0) (xNil)))) (Lr k o b x3 x4 x5) () = some (!q, ()) :=
  ev_bnot (Z := Z0) (s1 := (() : Z0.S)) (ev_tru (Z := Z0) (s1 := (() : Z0.S)) (ev_callP (Z := Z0) (s1 := (() : Z0.S)) (ev_cons (ev_name rfl) ev_nil) h) rfl)
theorem not_o {k o : T} {b q : Bool} {x3 x4 x5 : SV} (h : f_law_is_openings [k, o] = some (.bl q)) : xbNot (Z := Z0) (xTru (xCallP (f_law_is_openings) (xCons (xName 0) (xCons (xName 1) (xNil))))) (Lr k o b x3 x4 x5) () = some (!q, ()) :=
  ev_bnot (Z := Z0) (s1 := (() : Z0.S)) (ev_tru (Z := Z0) (s1 := (() : Z0.S)) (ev_callP (Z := Z0) (s1 := (() : Z0.S)) (ev_cons (ev_name rfl) (ev_cons (ev_name rfl) ev_nil)) h) rfl)
theorem law_right {k o : T} (b : Bool) (hk : bT k) (ho : bT o) (hs : showOk2 (.tup [k, o]) = true) : f_law_right K E B [k, o, .bl b] = some (.bl true) := by
  have lk := kinds_l k hk
  cases e1 : kindsB k with
  | false =>
    rw [e1] at lk
    refine right_bad (p := "kinds") hs show_k (fun sh => ?_) (heard_bad (book_bad_k hk e1))
    exact ev_if_t (Z := Z0) (s1 := (() : Z0.S)) (not_k lk) (ev_set (Z := Z0) (s1 := (() : Z0.S)) (ev_lst (Z := Z0) (s1 := (() : Z0.S)) (ev_cons rfl (ev_cons rfl ev_nil)) (sz (by simp))) (show 4 < 6 by decide))
  | true =>
    rw [e1] at lk
    have lo := openings_l e1 o ho
    cases e2 : openB (cntOf k) o with
    | false =>
      rw [e2] at lo
      refine right_bad (p := "openings") hs show_o (fun sh => ?_) (heard_bad (book_bad_o hk ho e1 e2))
      exact ev_if_f (Z := Z0) (s1 := (() : Z0.S)) (not_k lk) (ev_if_t (Z := Z0) (s1 := (() : Z0.S)) (not_o lo) (ev_set (Z := Z0) (s1 := (() : Z0.S)) (ev_lst (Z := Z0) (s1 := (() : Z0.S)) (ev_cons rfl (ev_cons rfl ev_nil)) (sz (by simp))) (show 4 < 6 by decide)))
    | true =>
      rw [e2] at lo
      obtain ⟨c, w, y, hm⟩ := book_ok (K := K) (E := E) (B := B) hk ho e1 e2
      have hh := heard_ok (b := b) hm
      obtain ⟨ka, kb, kd⟩ := kinds_fl e1 hk
      obtain ⟨oa, ob, od⟩ := opens_fl e2 ho
      have kk := eq_same ka kb kd
      have oo := eq_same oa ob od
      have r := repr_t hs
      generalize T.show (.tup [k, o]) = sh at r
      let bk := BookT B k o c w y
      refine ev_fp rfl (ev_seq (Z := Z0) (τ' := Lr k o b (.im (.str sh)) (.im .non) .un) (s1 := (() : Z0.S)) (ev_par (Z := Z0) (s1 := (() : Z0.S)) (ev_cons (repr_ko r) (ev_cons rfl ev_nil)) (show 3 < 6 by decide) (show 4 < 6 by decide)) ?_)
      refine ev_seq (Z := Z0) (τ' := Lr k o b (.im (.str sh)) (.im .non) .un) (s1 := (() : Z0.S)) (ev_if_f (Z := Z0) (s1 := (() : Z0.S)) (not_k lk) (ev_if_f (Z := Z0) (s1 := (() : Z0.S)) (not_o lo) rfl)) ?_
      refine ev_seq (Z := Z0) (τ' := Lr k o b (.im (.str sh)) (.im .non) (.im bk)) (s1 := (() : Z0.S)) (ev_set (Z := Z0) (s1 := (() : Z0.S)) (ev_callP (Z := Z0) (s1 := (() : Z0.S)) (ev_cons (ev_name rfl) (ev_cons (ev_name rfl) (ev_cons (ev_name rfl) ev_nil))) hh) (show 5 < 6 by decide)) ?_
      refine ev_seq (Z := Z0) (s1 := (() : Z0.S)) (ev_if_f (Z := Z0) (s1 := (() : Z0.S)) (ev_xb (ev_x2 (Z := Z0) (s1 := (() : Z0.S)) (s2 := (() : Z0.S)) (repr_ko r) (ev_name rfl) (same_txt true sh))) rfl) ?_
      refine ev_seq (Z := Z0) (s1 := (() : Z0.S)) (ev_if_f (Z := Z0) (s1 := (() : Z0.S)) (ev_notN (Z := Z0) (s1 := (() : Z0.S)) (ev_name rfl) rfl) rfl) ?_
      have r5 : xCall (Z := Z0) reprT2 (xCons (xTup (xCons (xFld [B] "kinds" (xName 5)) (xCons (xFld [B] "openings" (xName 5)) (xNil)))) (xNil)) (Lr k o b (.im (.str sh)) (.im .non) (.im bk)) () = some (.str sh, ()) :=
        ev_call (Z := Z0) (s1 := (() : Z0.S)) (ev_cons (ev_tup (Z := Z0) (s1 := (() : Z0.S)) (ev_cons (fld_k (Z := Z0) (s1 := (() : Z0.S)) (ev_name rfl)) (ev_cons (fld_o (Z := Z0) (s1 := (() : Z0.S)) (ev_name rfl)) ev_nil)) (sz (by simp))) ev_nil) r
      refine ev_seq (Z := Z0) (s1 := (() : Z0.S)) (ev_if_f (Z := Z0) (s1 := (() : Z0.S)) (ev_or_f (Z := Z0) (s1 := (() : Z0.S)) (ev_bnot (k := true) (ev_tru (ev_isC (Z := Z0) (s1 := (() : Z0.S)) (ev_name rfl) isC_book) rfl)) (ev_xb (ev_x2 (Z := Z0) (s1 := (() : Z0.S)) (s2 := (() : Z0.S)) r5 (ev_name rfl) (same_txt true sh)))) rfl) ?_
      have mk : xGood (Z := Z0) (rMake (m_Book K E B) (xCons (xName 0) (xCons (xName 1) (xNil)))) (Lr k o b (.im (.str sh)) (.im .non) (.im bk)) () = some (bk, ()) := ev_xgood (Z := Z0) (s1 := (() : Z0.S)) (ev_make (Z := Z0) (s1 := (() : Z0.S)) (ev_cons (ev_name rfl) (ev_cons (ev_name rfl) ev_nil)) hm)
      refine ev_ret (ev_and_t (Z := Z0) (s1 := (() : Z0.S)) (ev_x2 (Z := Z0) (s1 := (() : Z0.S)) (s2 := (() : Z0.S)) (ev_name rfl) mk (book_eq kk oo)) rfl ?_)
      refine ev_and_t (Z := Z0) (s1 := (() : Z0.S)) (ev_not (Z := Z0) (s1 := (() : Z0.S)) (ev_x2 (Z := Z0) (s1 := (() : Z0.S)) (s2 := (() : Z0.S)) (ev_name rfl) (ev_tup (Z := Z0) (s1 := (() : Z0.S)) (ev_cons (ev_name rfl) (ev_cons (ev_name rfl) ev_nil)) (sz (by simp))) (book_ne rfl)) rfl) rfl ?_
      exact ev_not (Z := Z0) (s1 := (() : Z0.S)) (ev_x2 (Z := Z0) (s1 := (() : Z0.S)) (s2 := (() : Z0.S)) (ev_name rfl) rfl (book_ne rfl)) rfl
end
end L2.TL
namespace L2.TL
open PySem PySem.Spec
open PyProof.Rows
theorem getT_map (k j : Key) (t : T) : ∀ ps : List (Key × T), getT (ps.map fun kv => if kv.1 = k then (kv.1, t) else kv) j = (getT ps j).map fun x => if j = k then t else x
  | [] => rfl
  | p :: r => by
    have ih := getT_map k j t r
    unfold getT at ih ⊢
    rw [List.map_cons]
    by_cases hk : p.1 = k
    · rw [if_pos hk]
      by_cases hj : p.1 = j
      · rw [List.find?_cons_of_pos (by simpa using hj), List.find?_cons_of_pos (by simpa using hj)]
        simp [← hj, hk]
      · rw [List.find?_cons_of_neg (by simpa using hj), List.find?_cons_of_neg (by simpa using hj)]
        exact ih
    · rw [if_neg hk]
      by_cases hj : p.1 = j
      · rw [List.find?_cons_of_pos (by simpa using hj), List.find?_cons_of_pos (by simpa using hj)]
        have : ¬ j = k := fun z => hk (hj.trans z)
        simp [this]
      · rw [List.find?_cons_of_neg (by simpa using hj), List.find?_cons_of_neg (by simpa using hj)]
        exact ih
theorem getT_snoc (k j : Key) (t : T) : ∀ ps : List (Key × T), (ps.any fun kv => decide (kv.1 = k)) = false → getT (ps ++ [(k, t)]) j = if j = k then some t else getT ps j
  | [], _ => by
    unfold getT
    by_cases e : k = j
    · rw [if_pos e.symm]
      simp [e]
    · rw [if_neg fun z => e z.symm]
      simp [e]
  | p :: r, h => by
    rw [List.any_cons, Bool.or_eq_false_iff] at h
    have hk : ¬ p.1 = k := by simpa using h.1
    have ih := getT_snoc k j t r h.2
    unfold getT at ih ⊢
    rw [List.cons_append]
    by_cases hj : p.1 = j
    · rw [List.find?_cons_of_pos (by simpa using hj), List.find?_cons_of_pos (by simpa using hj)]
      have : ¬ j = k := fun z => hk (hj.trans z)
      rw [if_neg this]
    · rw [List.find?_cons_of_neg (by simpa using hj), List.find?_cons_of_neg (by simpa using hj)]
      exact ih
theorem getT_some {k : Key} : ∀ {ps : List (Key × T)}, (ps.any fun kv => decide (kv.1 = k)) = true → ∃ t, getT ps k = some t
  | [], h => by cases h
  | p :: r, h => by
    unfold getT
    by_cases hk : p.1 = k
    · rw [List.find?_cons_of_pos (by simpa using hk)]
      exact ⟨_, rfl⟩
    · rw [List.find?_cons_of_neg (by simpa using hk)]
      rw [List.any_cons, Bool.or_eq_true] at h
      rcases h with h | h
      · exact absurd (of_decide_eq_true h) hk
      · exact getT_some h
theorem getT_put (ps : List (Key × T)) (k j : Key) (t : T) : getT (putT ps k t) j = if j = k then some t else getT ps j := by
  unfold putT
  split
  · rename_i h
    rw [getT_map]
    by_cases e : j = k
    · subst e
      obtain ⟨u, hu⟩ := getT_some h
      rw [hu, if_pos rfl]
      simp
    · rw [if_neg e]
      cases getT ps j <;> simp [e]
  · rename_i h
    exact getT_snoc k j t ps (Bool.eq_false_iff.mpr h)
theorem merge_none {k : Key} : ∀ (ps acc : List (Key × T)), k ∉ ps.map (·.1) → getT (mergeT acc ps) k = getT acc k
  | [], _, _ => rfl
  | (j, t) :: r, acc, h => by
    simp only [List.map_cons, List.mem_cons, not_or] at h
    show getT (mergeT (putT acc j t) r) k = _
    rw [merge_none r _ h.2, getT_put, if_neg h.1]
theorem merge_some {k : Key} {t : T} : ∀ (ps acc : List (Key × T)), (ps.map (·.1)).Nodup → (k, t) ∈ ps → getT (mergeT acc ps) k = some t
  | (j, u) :: r, acc, hn, hm => by
    simp only [List.map_cons, List.nodup_cons] at hn
    show getT (mergeT (putT acc j u) r) k = _
    rcases List.mem_cons.mp hm with e | hm
    · cases e
      rw [merge_none r _ hn.1, getT_put, if_pos rfl]
    · exact merge_some r _ hn.2 hm
/-- a kind: its word, how many parts -/
def kvOf : T → Key × T
  | .tup [.str x, v] => (.inr x, v)
  | _ => (.inr "", .non)
theorem pairs_kv : ∀ {ts : List T}, (∀ e ∈ ts, ∃ (x : Str) (v : T), e = .tup [.str x, v]) → pairsT ts = some (ts.map kvOf)
  | [], _ => rfl
  | e :: r, h => by
    obtain ⟨x, v, rfl⟩ := h e (List.mem_cons_self ..)
    have ih := pairs_kv (ts := r) fun u hu => h u (List.mem_cons_of_mem _ hu)
    show (match keyOf (.str x), pairsT r with
      | some k, some ps => some ((k, v) :: ps)
      | _, _ => none) = _
    rw [ih]
    rfl
theorem cnt_kv {ts : List T} (h : ∀ e ∈ ts, ∃ (x : Str) (v : T), e = .tup [.str x, v]) : cntOf (.tup ts) = mergeT [] (ts.map kvOf) := by
  unfold cntOf
  simp only [pairs_kv h]
theorem keys_kv {ts : List T} (h : ∀ e ∈ ts, ∃ (x : Str) (v : T), e = .tup [.str x, v]) : (ts.map kvOf).map (·.1) = (ts.map headS).map Sum.inr := by
  rw [List.map_map, List.map_map]
  refine List.map_congr_left fun e he => ?_
  obtain ⟨x, v, rfl⟩ := h e he
  rfl
theorem cnt_in {ts : List T} (h : ∀ e ∈ ts, ∃ (x : Str) (v : T), e = .tup [.str x, v]) (hn : (ts.map headS).Nodup) {x : Str} {v : T} (hm : T.tup [.str x, v] ∈ ts) : getT (cntOf (.tup ts)) (.inr x) = some v := by
  rw [cnt_kv h]
  refine merge_some _ _ ?_ (List.mem_map.mpr ⟨_, hm, rfl⟩)
  rw [keys_kv h]
  exact List.Pairwise.map _ (fun a b ne e => ne (Sum.inr.inj e)) hn
theorem cnt_out {ts : List T} (h : ∀ e ∈ ts, ∃ (x : Str) (v : T), e = .tup [.str x, v]) {x : Str} (hx : x ∉ ts.map headS) : getT (cntOf (.tup ts)) (.inr x) = none := by
  rw [cnt_kv h, merge_none]
  · rfl
  · rw [keys_kv h]
    intro hm
    obtain ⟨y, hy, e⟩ := List.mem_map.mp hm
    exact hx (Sum.inr.inj e ▸ hy)
/-! sorted by the words that they begin with -/
theorem asc_of {l : List Str} (h : l.Pairwise fun a b => sLt a b = true) : ascB l = true := by
  unfold ascB
  rw [List.all_eq_true]
  intro i hi
  have hi := List.mem_range.mp hi
  have h1 : i < l.length := by omega
  have h2 : i + 1 < l.length := by omega
  have e := List.pairwise_iff_getElem.mp h i (i + 1) h1 h2 (by omega)
  simpa [List.getD, h1, h2] using e
theorem lt_of_le {x y : Str} (h : leS x y = true) (ne : x ≠ y) : sLt x y = true := by
  have a := leS_iff.mp h
  refine decide_eq_true ?_
  refine Decidable.byContradiction fun q => ne ?_
  have b := List.not_lt.mp q
  have e := List.le_antisymm a b
  obtain ⟨⟨x⟩⟩ := x
  obtain ⟨⟨y⟩⟩ := y
  have e : x = y := e
  rw [e]
theorem zip_heads : ∀ {ts : List T} {ks : List Str}, fstsT ts = some ks → ∀ p ∈ ks.zip ts, headS p.2 = p.1
  | [], ks, e, p, hp => by
    cases e
    cases hp
  | t :: r, ks, e, p, hp => by
    simp only [fstsT] at e
    split at e
    · rename_i k ks' e1 e2
      cases e
      rcases List.mem_cons.mp hp with rfl | hp
      · unfold fstT at e1
        split at e1
        · cases e1
          rfl
        · cases e1
      · exact zip_heads e2 p hp
    · cases e
theorem sortF_asc {ks : List Str} {ts : List T} (h : fstsT ts = some ks) (hn : ks.Nodup) : ((sortF ks ts).map headS).Pairwise fun a b => sLt a b = true := by
  have hl := fstsT_len h
  have pm := List.mergeSort_perm (ks.zip ts) leK
  have hd : ∀ p ∈ (ks.zip ts).mergeSort leK, headS p.2 = p.1 := fun p hp => zip_heads h p (pm.mem_iff.mp hp)
  have e1 : (sortF ks ts).map headS = ((ks.zip ts).mergeSort leK).map (·.1) := by
    unfold sortF
    rw [List.map_map]
    exact List.map_congr_left hd
  have nd : (((ks.zip ts).mergeSort leK).map (·.1)).Nodup := by
    refine ((pm.map (·.1)).nodup_iff).mpr ?_
    rw [List.map_fst_zip (by omega)]
    exact hn
  rw [e1]
  have s := List.pairwise_mergeSort leK_trans leK_total (ks.zip ts)
  have s2 : (((ks.zip ts).mergeSort leK).map (·.1)).Pairwise fun a b => leS a b = true := List.Pairwise.map _ (fun a b h => h) s
  exact (s2.and nd).imp fun h => lt_of_le h.1 h.2
theorem headsOf {ts : List T} : ∀ {ks : List Str}, fstsT ts = some ks → ts.map headS = ks := by
  intro ks h
  have z := zip_heads h
  have hl := fstsT_len h
  have e : (ks.zip ts).map (fun p => headS p.2) = (ks.zip ts).map (·.1) := List.map_congr_left z
  rw [List.map_fst_zip (by omega)] at e
  have e2 : (ks.zip ts).map (fun p => headS p.2) = ((ks.zip ts).map (·.2)).map headS := by rw [List.map_map]; rfl
  rw [e2, List.map_snd_zip (by omega)] at e
  exact e
theorem sorted_asc {ts : List T} {ks : List Str} (h : fstsT ts = some ks) (hn : ks.Nodup) : ∃ us, sortedT [.lst ts] = some (.lst us) ∧ us.length = ts.length ∧ (∀ t ∈ us, t ∈ ts) ∧ (us.map headS).Pairwise (fun a b => sLt a b = true) := by
  by_cases h0 : ts = []
  · subst h0
    refine ⟨[], ?_, rfl, fun t h => h, List.Pairwise.nil⟩
    have e := sorted_strs (ys := []) (by decide)
    have e0 : sortS [] = [] := by simp [sortS]
    rw [e0] at e
    exact e
  · refine ⟨sortF ks ts, ?_, sortF_len (fstsT_len h), sortF_mem, sortF_asc h hn⟩
    have e1 : sortST [.lst ts] = none := by
      simp only [sortST, strs?_none h h0]
    have e2 : sortFT [.lst ts] = some (.lst (sortF ks ts)) := by
      simp only [sortFT, h]
      exact if_pos ⟨hn, fstsT_len h⟩
    simp only [sortedT, opOr, e1, e2]
theorem lt_nodup {l : List Str} (h : l.Pairwise fun a b => sLt a b = true) : l.Nodup :=
  h.imp fun {a b} h e => by
    rw [e] at h
    exact absurd (of_decide_eq_true h) (List.lt_irrefl _)
end L2.TL
namespace L2.TL
open PySem PySem.Spec
open PyProof.Rows
abbrev poolS : List Str := ["box", "half", "k", "lock", "open", "pair", "zzzzzzzz"]
abbrev openS : List Str := ["y", "first", "get", "untie"]
def okW (x : Str) : Bool := wordB x && (decide (x.length ≤ 45) && x.cps.toList.all fun c => decide (c < 128))
theorem poolS_ok : ∀ x ∈ poolS, okW x = true := by decide +kernel
theorem openS_ok : ∀ x ∈ openS, okW x = true := by decide +kernel
theorem poolS_nd : poolS.Nodup := by decide +kernel
theorem openS_nd : openS.Nodup := by decide +kernel
theorem openS_out : ∀ x ∈ openS, x ∉ poolS := by decide +kernel
theorem okW_w {x : Str} (h : okW x = true) : wordB x = true := (Bool.and_eq_true_iff.mp h).1
theorem okW_t {x : Str} {m : Nat} (h : okW x = true) : aT m (.str x) := txt_ok (Bool.and_eq_true_iff.mp h).2
/-- a kind as the law draws it -/
def kT (e : T) : Prop := ∃ (x : Str) (n : Int), e = .tup [.str x, .int n] ∧ x ∈ poolS ∧ 1 ≤ n ∧ n ≤ 3
/-- kinds with their counts -/
def KOk (ks : List T) (cs : List (Key × T)) : Prop := (∀ e ∈ ks, ∃ (x : Str) (n : Int), e = .tup [.str x, .int n] ∧ x ∈ poolS ∧ 1 ≤ n ∧ n ≤ 3 ∧ getT cs (.inr x) = some (.int n)) ∧ ∀ x ∈ openS, getT cs (.inr x) = none
/-- a comprehension with a test -/
theorem lcGo_few2 {Z : Res} {gt : GF} {ft : EFb Z} {fe : EF Z} {τ : List SV} {P : T → Prop} : ∀ (items : List T) (s : Z.S), (∀ a ∈ items, ∃ τ', gt a τ = some τ' ∧ ∀ s, ∃ b s1, ft τ' s = some (b, s1) ∧ ∃ x s2, fe τ' s1 = some (x, s2) ∧ (b = true → P x)) → ∃ bs s', lcGo gt ft fe τ items s = some (bs, s') ∧ bs.length ≤ items.length ∧ ∀ b ∈ bs, P b
  | [], s, _ => ⟨[], s, rfl, Nat.le_refl _, fun _ h => by cases h⟩
  | a :: r, s, h => by
    obtain ⟨τ', e1, h1⟩ := h a (by simp)
    obtain ⟨b, s1, e2, x, s2, e3, hp⟩ := h1 s
    cases b with
    | true =>
      obtain ⟨bs, s3, e4, hl, hP⟩ := lcGo_few2 r s2 fun b hb => h b (by simp [hb])
      refine ⟨x :: bs, s3, ?_, by simp; omega, fun y hy => ?_⟩
      · unfold lcGo
        simp only [e1, e2, e3, e4]
      · rcases List.mem_cons.mp hy with rfl | hy
        · exact hp rfl
        · exact hP y hy
    | false =>
      obtain ⟨bs, s3, e4, hl, hP⟩ := lcGo_few2 r s1 fun b hb => h b (by simp [hb])
      refine ⟨bs, s3, ?_, by simp; omega, hP⟩
      unfold lcGo
      simp only [e1, e2, e4]
/-- a need as the law draws it -/
def nOk (cs : List (Key × T)) (m : Int) (a : T) : Prop := needB cs m a = true ∧ aT 0 a ∧ nT a ≤ 4 ∧ a.d.depth ≤ 1
theorem isStr_self (x : Str) : isStr x (.str x) = true := by
  unfold isStr
  exact decide_eq_true rfl
theorem whole_in {m : Int} {k : Nat} (h : (k : Int) < m) : wholeB 0 m (.int k) = true := by
  show (decide ((0 : Int) ≤ (k : Int)) && decide ((k : Int) < m)) = true
  rw [decide_eq_true (by omega), decide_eq_true h]
  rfl
theorem one_ok {cs : List (Key × T)} {x : Str} (h : getT cs (.inr x) = some (.int 1)) : singleB cs (.str x) = true := by
  simp only [singleB, h]
  rfl
theorem need_part {cs : List (Key × T)} {m : Int} {k : Nat} (h : (k : Int) < m) (hm : m ≤ 3) : nOk cs m (.tup [.str "part", .int k]) := by
  refine ⟨?_, ⟨txt_ok (by decide +kernel), num_ok ?_, trivial⟩, by simp [nT, nL], by simp [T.d, dL, PyData.depth, PyData.depthAll]⟩
  · show (isStr "part" (.str "part") && wholeB 0 m (.int k)) = true
    rw [isStr_self, whole_in h]
    rfl
  · have : k ≤ 3 := by omega
    exact Nat.le_trans this (by decide)
theorem need_around {cs : List (Key × T)} {m : Int} {k : Nat} {x : Str} (hx : okW x = true) (e : getT cs (.inr x) = some (.int 1)) (h : (k : Int) < m) (hm : m ≤ 3) : nOk cs m (.tup [.str "around", .str x, .int k]) := by
  refine ⟨?_, ⟨txt_ok (by decide +kernel), okW_t hx, num_ok ?_, trivial⟩, by simp [nT, nL], by simp [T.d, dL, PyData.depth, PyData.depthAll]⟩
  · show ((isStr "around" (.str "around") && (singleB cs (.str x) && wholeB 0 m (.int k))) || _) = true
    rw [isStr_self, whole_in h, one_ok e]
    rfl
  · have : k ≤ 3 := by omega
    exact Nat.le_trans this (by decide)
theorem need_inside {cs : List (Key × T)} {m : Int} {k : Nat} {x : Str} (hx : okW x = true) (e : getT cs (.inr x) = some (.int 1)) (h : (k : Int) < m) (hm : m ≤ 3) : nOk cs m (.tup [.str "inside", .int k, .str x]) := by
  refine ⟨?_, ⟨txt_ok (by decide +kernel), num_ok ?_, okW_t hx, trivial⟩, by simp [nT, nL], by simp [T.d, dL, PyData.depth, PyData.depthAll]⟩
  · show ((isStr "around" (.str "inside") && (singleB cs (.int k) && wholeB 0 m (.str x))) || (isStr "inside" (.str "inside") && (wholeB 0 m (.int k) && singleB cs (.str x)))) = true
    rw [isStr_self, whole_in h, one_ok e, Bool.and_self, Bool.and_self, Bool.or_true]
  · have : k ≤ 3 := by omega
    exact Nat.le_trans this (by decide)
section
variable {d c : Addr}
theorem need_some {ks : List T} {cs : List (Key × T)} (hks : KOk ks cs) (hl : ks.length ≤ 1000) {m : Int} (h1 : 1 ≤ m) (h3 : m ≤ 3) (s : Deck) : We (f_law_need d c [.adr d, .tup ks, .int m] s) fun a _ => nOk cs m a := by
  refine we_ff rfl ?_
  show Wr (g_law_need d c [.im (.adr d), .im (.tup ks), .im (.int m), .un, .un, .un, .un, .un] s) _
  refine wr_seq (wn_par ?_)
  obtain ⟨bs, s1, eg, hb, hP⟩ := lcGo_few2 (Z := deckZ d c) (gt := gTupT 2 (gsCons (gSet 5) (gsCons (gSet 6) gsNil))) (ft := xb (x2 (eqX false) (xName 6) (xC (T.int 1)))) (fe := xName 5) (τ := wipeT [.im (.adr d), .im (.tup ks), .im (.int m), .un, .un, .un, .un, .un] [5, 6]) (P := fun b => ∃ x : Str, b = .str x ∧ x ∈ poolS ∧ getT cs (.inr x) = some (.int 1)) ks s fun e he => by
    obtain ⟨k, q, rfl, hk, _, _, hg⟩ := hks.1 e he
    exact ⟨[.im (.adr d), .im (.tup ks), .im (.int m), .un, .un, .im (.str k), .im (.int q), .un], rfl, fun s => ⟨_, s, ev_xb (ev_x2 (ev_name rfl) rfl (eq_int false q 1)), _, s, ev_name rfl, fun hb => ⟨k, rfl, hk, by
      have hq : q = 1 := of_decide_eq_true hb
      rw [hg, hq]⟩⟩⟩
  have lc : xLc (Z := deckZ d c) [5, 6] (iTupl (xName 1)) (gTupT 2 (gsCons (gSet 5) (gsCons (gSet 6) gsNil))) (xb (x2 (eqX false) (xName 6) (xC (T.int 1)))) (xName 5) [.im (.adr d), .im (.tup ks), .im (.int m), .un, .un, .un, .un, .un] s = some (.lst bs, s1) :=
    ev_lc (items := ks) rfl (sz (by omega)) rfl eg
  refine we_cons ⟨_, s1, lc, ?_⟩
  refine we_cons (we_drawn rfl m (we_name rfl ⟨rfl, by omega, by omega, fun spot s2 hs => ?_⟩))
  refine we_nil ⟨_, _, rfl, by simp, by simp, ?_⟩
  show Wr ((_ : SF (deckZ d c)) [.im (.adr d), .im (.tup ks), .im (.int m), .im (.lst bs), .im (.int spot), .un, .un, .un] s2) _
  have plain : ∀ t ∈ bs, t.plain = true ∧ t.d.canLay0 = true ∧ t.d.depth ≤ 60 := fun t ht => by
    obtain ⟨x, rfl, hx, _⟩ := hP t ht
    have a := okW_t (m := 0) (poolS_ok x hx)
    refine ⟨rfl, ?_, Nat.zero_le _⟩
    show (x.cps.all fun c => decide (c < 0x110000)) = true
    rw [← Array.all_toList]
    exact List.all_eq_true.mpr fun c hc => decide_eq_true (Nat.lt_trans (a.2 c hc) (by decide))
  refine wr_seq (wn_set ?_)
  refine we_if ⟨_, s2, ev_xb (ev_x2 (ev_name rfl) (ev_lst rfl (sz (by decide))) (eq_nil true bs plain)), fun hb => ?_, fun _ => we_c ⟨by simp, ?_⟩⟩
  · refine we_drawn rfl 3 (we_c ⟨rfl, by decide, by decide, fun way s3 hw => ⟨by simp, ?_⟩⟩)
    show Wr ((_ : SF (deckZ d c)) [.im (.adr d), .im (.tup ks), .im (.int m), .im (.lst bs), .im (.int spot), .un, .un, .im (.int way)] s3) _
    have nb : 1 ≤ bs.length := by
      cases bs with
      | nil => cases hb
      | cons _ _ => simp
    refine wr_if_seq (we_eqi (we_name rfl ⟨_, rfl, fun _ => wr_ret (we_tup (we_cons (we_c (we_cons (we_name rfl (we_nil ⟨by simp, need_part hs h3⟩)))))), fun _ => ?_⟩))
    refine wr_ret (we_if (we_eqi (we_name rfl ⟨_, rfl, fun _ => ?_, fun _ => ?_⟩)))
    · exact we_tup (we_cons (we_c (we_cons (we_pickL rfl (we_name rfl ⟨bs, rfl, nb, by omega, fun t ht s4 => by
        obtain ⟨x, rfl, hx, hg⟩ := hP t ht
        exact we_cons (we_name rfl (we_nil ⟨by simp, need_around (poolS_ok x hx) hg hs h3⟩))⟩)))))
    · exact we_tup (we_cons (we_c (we_cons (we_name rfl (we_cons (we_pickL rfl (we_name rfl ⟨bs, rfl, nb, by omega, fun t ht s4 => by
        obtain ⟨x, rfl, hx, hg⟩ := hP t ht
        exact we_nil ⟨by simp, need_inside (poolS_ok x hx) hg hs h3⟩⟩)))))))
  · show Wr ((_ : SF (deckZ d c)) [.im (.adr d), .im (.tup ks), .im (.int m), .im (.lst bs), .im (.int spot), .un, .un, .im (.int 0)] s2) _
    exact wr_if_seq (we_eqi (we_name rfl ⟨_, rfl, fun _ => wr_ret (we_tup (we_cons (we_c (we_cons (we_name rfl (we_nil ⟨by simp, need_part hs h3⟩)))))), fun h => by cases h⟩))
end
end L2.TL
namespace L2.TL
open PySem PySem.Spec
open PyProof.Rows
abbrev stdK : List T := [.tup [.str "half", .int 1], .tup [.str "lock", .int 2], .tup [.str "mark", .int 1], .tup [.str "pair", .int 2], .tup [.str "seal", .int 2], .tup [.str "sign", .int 2]]
abbrev stdO : List T := [.tup [.str "first", .str "pair", .int 0, .tup []], .tup [.str "open", .str "lock", .int 0, .tup [.tup [.str "part", .int 1]]], .tup [.str "second", .str "pair", .int 1, .tup []], .tup [.str "shown", .str "sign", .int 0, .tup []], .tup [.str "signed", .str "sign", .int 0, .tup [.tup [.str "around", .str "half", .int 1]]], .tup [.str "unseal", .str "seal", .int 0, .tup [.tup [.str "inside", .int 1, .str "half"]]]]
theorem std_eq : f_law_standard [] = some (.dct [(Sum.inr "kinds", .tup stdK), (Sum.inr "openings", .tup stdO)]) := by
  first | rfl | kernel_rfl
/-- what is known of a plan's parts -/
structure POk (k o : T) : Prop where
  kb : kindsB k = true
  ob : openB (cntOf k) o = true
  ka : aT 0 k
  oa : aT 0 o
  kn : nT k ≤ 85
  on : nT o ≤ 85
  kd : k.d.depth ≤ 8
  od : o.d.depth ≤ 8
def WOk (w : T) : Prop := ∃ k o, w = .dct [(Sum.inr "kinds", k), (Sum.inr "openings", o)] ∧ POk k o
mutual
/-- aT 0, decided -/
def aB : T → Bool
  | .non => true
  | .bl _ => true
  | .int i => decide (i.natAbs ≤ 1000)
  | .str x => decide (x.length ≤ 45) && x.cps.toList.all fun c => decide (c < 128)
  | .tup ts => aBL ts
  | _ => false
def aBL : List T → Bool
  | [] => true
  | t :: r => aB t && aBL r
end
mutual
theorem aB_ok : ∀ t : T, aB t = true → aT 0 t
  | .non, _ => trivial
  | .bl _, _ => trivial
  | .int i, h => by
    have h : i.natAbs ≤ 1000 := of_decide_eq_true h
    exact num_ok (Nat.le_trans h (by decide))
  | .str x, h => txt_ok h
  | .tup ts, h => aBL_ok ts h
  | .lst _, h => nomatch h
  | .dct _, h => nomatch h
  | .ins _ _, h => nomatch h
  | .adr _, h => nomatch h
  | .exc _ _ _ _ _, h => nomatch h
  | .ltp _, h => nomatch h
  | .exv _ _, h => nomatch h
theorem aBL_ok : ∀ ts : List T, aBL ts = true → aL 0 ts
  | [], _ => trivial
  | t :: r, h => by
    have h : (aB t && aBL r) = true := h
    rw [Bool.and_eq_true] at h
    exact ⟨aB_ok t h.1, aBL_ok r h.2⟩
end
theorem std_p : POk (.tup stdK) (.tup stdO) where
  kb := by decide +kernel
  ob := by decide +kernel
  ka := aB_ok _ (by decide +kernel)
  oa := aB_ok _ (by decide +kernel)
  kn := by decide +kernel
  on := by decide +kernel
  kd := by decide +kernel
  od := by decide +kernel
theorem std_ok : ∃ w, f_law_standard [] = some w ∧ WOk w := ⟨_, std_eq, _, _, rfl, std_p⟩
theorem kindB_kT {e : T} (h : kT e) : kindB e = true ∧ aT 0 e ∧ nT e ≤ 3 ∧ e.d.depth ≤ 1 := by
  obtain ⟨x, n, rfl, hx, h1, h3⟩ := h
  have hw := poolS_ok x hx
  refine ⟨?_, ⟨okW_t hw, ?_, trivial⟩, by simp [nT, nL], by simp [T.d, dL, PyData.depth, PyData.depthAll]⟩
  · show (wordB x && (decide ((1 : Int) ≤ n) && decide (n < 4))) = true
    rw [okW_w hw, decide_eq_true h1, decide_eq_true (by omega)]
    rfl
  · have : n.natAbs ≤ 1000 := by omega
    exact num_ok (Nat.le_trans this (by decide))
/-- an opening as the law draws it -/
def oT (cs : List (Key × T)) (t : T) : Prop := openingB cs t = true ∧ aT 0 t ∧ nT t ≤ 13 ∧ t.d.depth ≤ 4
theorem nL_le {ts : List T} {n : Nat} (h : ∀ t ∈ ts, nT t ≤ n) : nL ts ≤ ts.length * n := by
  induction ts with
  | nil => exact Nat.zero_le _
  | cons t r ih =>
    have a := h t (List.mem_cons_self ..)
    have b := ih fun u hu => h u (List.mem_cons_of_mem _ hu)
    rw [List.length_cons, Nat.add_mul, Nat.one_mul]
    simp only [nL]
    omega
theorem open_oT {cs : List (Key × T)} {x y : Str} {n : Int} {g : Nat} {l : List T} (hx : x ∈ openS) (ho : getT cs (.inr x) = none) (hy : y ∈ poolS) (hg : getT cs (.inr y) = some (.int n)) (hn : n ≤ 3) (g0 : (g : Int) < n) (hl : l.length ≤ 2) (hb : ∀ b ∈ l, nOk cs n b) : oT cs (.tup [.str x, .str y, .int g, .tup l]) := by
  have wx := openS_ok x hx
  have wy := poolS_ok y hy
  have ix : inB cs (.str x) = false := by
    show (getT cs (.inr x)).isSome = false
    rw [ho]
    rfl
  have iy : inB cs (.str y) = true := by
    show (getT cs (.inr y)).isSome = true
    rw [hg]
    rfl
  have cy : cntB cs (.str y) = n := by
    simp only [cntB, hg]
  refine ⟨?_, ⟨okW_t wx, okW_t wy, ?_, aL_of fun b hb' => (hb b hb').2.1, trivial⟩, ?_, ?_⟩
  · show (wordB x && (!inB cs (.str x) && (wordB y && (inB cs (.str y) && (wholeB 0 (cntB cs (.str y)) (.int g) && (decide (l.length ≤ 2) && l.all (needB cs (cntB cs (.str y))))))))) = true
    rw [okW_w wx, okW_w wy, ix, iy, cy, whole_in g0, decide_eq_true hl, List.all_eq_true.mpr fun b hb' => (hb b hb').1]
    rfl
  · have : g ≤ 3 := by omega
    exact Nat.le_trans this (by decide)
  · have := nL_le (ts := l) (n := 4) fun b hb' => (hb b hb').2.2.1
    have : l.length * 4 ≤ 8 := by omega
    simp only [nT, nL]
    omega
  · have := depthL_le (n := 1) fun b hb' => (hb b hb').2.2.2
    simp only [T.d, dL, PyData.depth, PyData.depthAll]
    omega
/-- kinds, sorted -/
theorem kinds_ok {us : List T} (hn : us ≠ []) (h4 : us.length ≤ 4) (hk : ∀ e ∈ us, kT e) (ha : (us.map headS).Pairwise fun a b => sLt a b = true) : kindsB (.tup us) = true ∧ aT 0 (.tup us) ∧ nT (.tup us) ≤ 85 ∧ (T.tup us).d.depth ≤ 8 ∧ KOk us (cntOf (.tup us)) := by
  have he : ∀ e ∈ us, ∃ (x : Str) (v : T), e = .tup [.str x, v] := fun e h => by
    obtain ⟨x, n, rfl, _⟩ := hk e h
    exact ⟨x, _, rfl⟩
  refine ⟨?_, aL_of fun e h => (kindB_kT (hk e h)).2.1, ?_, ?_, fun e h => ?_, fun x hx => ?_⟩
  · show (!us.isEmpty && us.all kindB && ascB (us.map headS)) = true
    rw [List.all_eq_true.mpr fun e h => (kindB_kT (hk e h)).1, asc_of ha]
    cases us with
    | nil => exact absurd rfl hn
    | cons _ _ => rfl
  · have := nL_le (ts := us) (n := 3) fun e h => (kindB_kT (hk e h)).2.2.1
    show nL us + 1 ≤ 85
    omega
  · have := dep_tup_le (ts := us) (n := 1) fun e h => (kindB_kT (hk e h)).2.2.2
    omega
  · obtain ⟨x, n, rfl, hx, h1, h3⟩ := hk e h
    exact ⟨x, n, rfl, hx, h1, h3, cnt_in he (lt_nodup ha) h⟩
  · refine cnt_out he fun hm => ?_
    obtain ⟨e, h, rfl⟩ := List.mem_map.mp hm
    obtain ⟨y, n, rfl, hy, _⟩ := hk e h
    exact openS_out _ hx hy
theorem opens_ok {cs : List (Key × T)} {us : List T} (h4 : us.length ≤ 4) (hk : ∀ e ∈ us, oT cs e) (ha : (us.map headS).Pairwise fun a b => sLt a b = true) : openB cs (.tup us) = true ∧ aT 0 (.tup us) ∧ nT (.tup us) ≤ 85 ∧ (T.tup us).d.depth ≤ 8 := by
  refine ⟨?_, aL_of fun e h => (hk e h).2.1, ?_, ?_⟩
  · show (us.all (openingB cs) && ascB (us.map headS)) = true
    rw [List.all_eq_true.mpr fun e h => (hk e h).1, asc_of ha]
    rfl
  · have := nL_le (ts := us) (n := 13) fun e h => (hk e h).2.2.1
    show nL us + 1 ≤ 85
    omega
  · have := dep_tup_le (ts := us) (n := 4) fun e h => (hk e h).2.2.2
    omega
end L2.TL
namespace L2.TL
open PySem PySem.Spec
open PyProof.Rows
def PInv (d : Addr) (n : Nat) (τ : List SV) : Prop := ∃ (pool : List Str) (kinds : List T) (ns : List Str) (x3 : SV), τ = [.im (.adr d), .ow (.lst (pool.map T.str)), .ow (.lst kinds), x3, .un, .un, .un, .un, .un] ∧ pool.length + n = 7 ∧ kinds.length = n ∧ (∀ x ∈ pool, x ∈ poolS) ∧ fstsT kinds = some ns ∧ (ns ++ pool).Nodup ∧ ∀ e ∈ kinds, kT e
def OInv (d : Addr) (ks : List T) (cs : List (Key × T)) (n : Nat) (τ : List SV) : Prop := ∃ (x1 x3 x5 x6 x7 x8 : SV) (ops : List T), τ = [.im (.adr d), x1, .im (.tup ks), x3, .ow (.lst ops), x5, x6, x7, x8] ∧ isOw x8 = false ∧ ops.length = n ∧ fstsT ops = some (openS.take n) ∧ ∀ e ∈ ops, oT cs e
section
variable {d c : Addr}
theorem pick_tup (l : List T) (h1 : 1 ≤ l.length) (h2 : l.length ≤ 1000) (s : Deck) : ∃ t ∈ l, ∃ s', f_law_pick d c [.adr d, .tup l] s = some (t, s') := by
  obtain ⟨k, s2, e2, hk⟩ := drawT_some dp dq d c s (l.length : Int) (by omega) (by omega)
  have hk' : k < l.length := by omega
  refine ⟨l[k], List.getElem_mem hk', s2, ev_ff rfl (ev_ret (ev_x2 (ev_name rfl) (ev_callF (ev_cons (ev_name rfl) (ev_cons (ev_call (ev_cons (ev_name rfl) ev_nil) rfl) ev_nil)) e2) ?_))⟩
  exact atI_nat' hk'
theorem we_pickT {τ : List SV} {s : Deck} {f : EF (deckZ d c)} {P : T → Deck → Prop} (h0 : τ[0]? = some (.im (.adr d))) (h : We (f τ s) fun a s1 => ∃ l : List T, a = .tup l ∧ 1 ≤ l.length ∧ l.length ≤ 1000 ∧ ∀ t ∈ l, ∀ s2 : Deck, P t s2) :
    We (xCallF (f_law_pick d c) (xCons (xName 0) (xCons f xNil)) τ s) P := by
  obtain ⟨a, s1, e, x, rfl, h1, h2, q⟩ := h
  obtain ⟨t, ht, s2, e2⟩ := pick_tup x h1 h2 s1
  exact ⟨_, _, ev_callF (ev_cons (ev_name h0) (ev_cons e ev_nil)) e2, q t ht s2⟩
theorem plan_kinds (k : Nat) (hk : k < 4) (τ : List SV) (s : Deck) (i : PInv d k τ) : ∃ τ1, gSet 3 (.int (k : Int)) τ = some τ1 ∧
    Wn ((sDropO (oApp 2 (oTup (oCons (oPopAt 1 (xCallF (drawT dp dq d c) (xCons (xName 0) (xCons (xRead 1 (xCall lenT (xCons (xName 1) (xNil)))) (xNil))))) (oCons (oPure (x2 addX (xC (T.int 1)) (xCallF (drawT dp dq d c) (xCons (xName 0) (xCons (xC (T.int 3)) (xNil)))))) (oNil)))))) τ1 s) fun τ2 _ => PInv d (k + 1) τ2 := by
  obtain ⟨pool, kinds, ns, x3, rfl, hp, hl, hw, hf, hn, hK⟩ := i
  refine ⟨[.im (.adr d), .ow (.lst (pool.map T.str)), .ow (.lst kinds), .im (.int k), .un, .un, .un, .un, .un], rfl, ?_⟩
  obtain ⟨p, s1, e1, hp1⟩ := drawT_some dp dq d c s ((pool.map T.str).length : Int) (by rw [List.length_map]; omega) (by rw [List.length_map]; omega)
  have hpl : p < pool.length := by
    rw [List.length_map] at hp1
    omega
  obtain ⟨m, s2, e2, hm⟩ := drawT_some dp dq d c s1 3 (by decide) (by decide)
  have rd : xRead (Z := deckZ d c) 1 (xCall lenT (xCons (xName 1) (xNil))) [.im (.adr d), .ow (.lst (pool.map T.str)), .ow (.lst kinds), .im (.int k), .un, .un, .un, .un, .un] s = some (.int ((pool.map T.str).length : Int), s) :=
    ev_read (a := .lst (pool.map T.str)) rfl (ev_call (ev_cons (ev_name rfl) ev_nil) rfl) rfl
  have pp : oPopAt (Z := deckZ d c) 1 (xCallF (drawT dp dq d c) (xCons (xName 0) (xCons (xRead 1 (xCall lenT (xCons (xName 1) (xNil)))) (xNil)))) [.im (.adr d), .ow (.lst (pool.map T.str)), .ow (.lst kinds), .im (.int k), .un, .un, .un, .un, .un] s
      = some (.str pool[p], [.im (.adr d), .ow (.lst ((pool.map T.str).eraseIdx p)), .ow (.lst kinds), .im (.int k), .un, .un, .un, .un, .un], s1) :=
    ev_popAt rfl (ev_callF (ev_cons (ev_name rfl) (ev_cons rd ev_nil)) e1) (by rw [List.getElem?_map, List.getElem?_eq_getElem hpl]; rfl) (by omega)
  rw [eraseIdx_map'] at pp
  have on : oPure (Z := deckZ d c) (x2 addX (xC (T.int 1)) (xCallF (drawT dp dq d c) (xCons (xName 0) (xCons (xC (T.int 3)) (xNil))))) [.im (.adr d), .ow (.lst ((pool.eraseIdx p).map T.str)), .ow (.lst kinds), .im (.int k), .un, .un, .un, .un, .un] s1
      = some (.int (1 + (m : Int)), [.im (.adr d), .ow (.lst ((pool.eraseIdx p).map T.str)), .ow (.lst kinds), .im (.int k), .un, .un, .un, .un, .un], s2) :=
    ev_pure (ev_x2 rfl (ev_callF (ev_cons (ev_name rfl) (ev_cons rfl ev_nil)) e2) rfl)
  refine ⟨_, _, ev_dropO (ev_app rfl (ev_oTup (ev_oCons pp (ev_oCons on rfl)) (sz (by simp))) rfl (Nat.lt_of_lt_of_le (by omega : kinds.length < 1000) (sz (by decide)))), ?_⟩
  have pm := erase_perm pool p hpl
  refine ⟨pool.eraseIdx p, kinds ++ [.tup [.str pool[p], .int (1 + (m : Int))]], ns ++ [pool[p]], _, rfl, ?_, by simp [hl], fun x hx => hw x (List.mem_of_mem_eraseIdx hx), fstsT_snoc rfl hf, ?_, ?_⟩
  · rw [List.length_eraseIdx_of_lt hpl]
    omega
  · rw [List.append_assoc]
    exact ((List.Perm.append_left ns pm).nodup_iff).mpr hn
  · intro e he
    rcases List.mem_append.mp he with h | h
    · exact hK e h
    · rw [List.mem_singleton] at h
      exact ⟨_, _, h, hw _ (List.getElem_mem hpl), by omega, by omega⟩
theorem plan_opens {ks : List T} {cs : List (Key × T)} (hks : KOk ks cs) (l1 : 1 ≤ ks.length) (l2 : ks.length ≤ 1000) (k : Nat) (hk : k < 4) (τ : List SV) (s : Deck) (i : OInv d ks cs k τ) : ∃ τ1, gSet 3 (.int (k : Int)) τ = some τ1 ∧
    Wn ((sSeq (sAsg (xCallF (f_law_pick d c) (xCons (xName 0) (xCons (xName 2) (xNil)))) (gTupT 2 (gsCons (gSet 5) (gsCons (gSet 6) (gsNil)))))
    (sSeq (sSetO 7 (xLc [8] (iRng (xCallF (f_law_pick d c) (xCons (xName 0) (xCons (xLst (xCons (xC (T.int 0)) (xCons (xC (T.int 1)) (xCons (xC (T.int 1)) (xCons (xC (T.int 2)) (xNil)))))) (xNil))))) (gSet 8) (xYes) (xCallF (f_law_need d c) (xCons (xName 0) (xCons (xName 2) (xCons (xName 6) (xNil)))))))
    (sFreeze 7 (sDropO (oApp 4 (oPure (xTup (xCons (x2 ixT (xLst (xCons (xC (T.str "y")) (xCons (xC (T.str "first")) (xCons (xC (T.str "get")) (xCons (xC (T.str "untie")) (xNil)))))) (xName 3)) (xCons (xName 5) (xCons (xCallF (drawT dp dq d c) (xCons (xName 0) (xCons (xName 6) (xNil)))) (xCons (xCall tupleT (xCons (xName 7) (xNil))) (xNil)))))))))))) τ1 s) fun τ2 _ => OInv d ks cs (k + 1) τ2 := by
  obtain ⟨x1, x3, x5, x6, x7, x8, ops, rfl, h8, hl, hf, hO⟩ := i
  refine ⟨[.im (.adr d), x1, .im (.tup ks), .im (.int k), .ow (.lst ops), x5, x6, x7, x8], rfl, ?_⟩
  refine wn_seq (wn_asg (we_pickT rfl (we_name rfl ⟨ks, rfl, l1, l2, fun t ht s1 => ?_⟩)))
  obtain ⟨kk, mm, rfl, hkk, m1, m3, hg⟩ := hks.1 t ht
  refine ⟨[.im (.adr d), x1, .im (.tup ks), .im (.int k), .ow (.lst ops), .im (.str kk), .im (.int mm), x7, x8], rfl, ?_⟩
  obtain ⟨q, hq, s2, e2⟩ := pick_lst (d := d) (c := c) [.int 0, .int 1, .int 1, .int 2] (by decide) (by decide) s1
  obtain ⟨n, rfl, hn⟩ : ∃ n : Nat, q = .int (n : Int) ∧ n ≤ 2 := by
    simp only [List.mem_cons, List.not_mem_nil, or_false] at hq
    rcases hq with h | h | h | h
    · exact ⟨0, h, by decide⟩
    · exact ⟨1, h, by decide⟩
    · exact ⟨1, h, by decide⟩
    · exact ⟨2, h, by decide⟩
  obtain ⟨bs, s3, eg, hb, hN⟩ := lcGo_all (Z := deckZ d c) (gt := gSet 8) (fe := xCallF (f_law_need d c) (xCons (xName 0) (xCons (xName 2) (xCons (xName 6) (xNil))))) (τ := wipeT [.im (.adr d), x1, .im (.tup ks), .im (.int k), .ow (.lst ops), .im (.str kk), .im (.int mm), x7, x8] [8]) (P := nOk cs mm) (fun a => ⟨[.im (.adr d), x1, .im (.tup ks), .im (.int k), .ow (.lst ops), .im (.str kk), .im (.int mm), x7, .im a], rfl, fun s => by
    obtain ⟨b, s', e, p⟩ := need_some (d := d) (c := c) hks l2 m1 m3 s
    exact ⟨b, s', ev_callF (ev_cons (ev_name rfl) (ev_cons (ev_name rfl) (ev_cons (ev_name rfl) ev_nil))) e, p⟩⟩) (intsFrom 0 n) s2
  rw [intsFrom_len] at hb
  have lc : xLc (Z := deckZ d c) [8] (iRng (xCallF (f_law_pick d c) (xCons (xName 0) (xCons (xLst (xCons (xC (T.int 0)) (xCons (xC (T.int 1)) (xCons (xC (T.int 1)) (xCons (xC (T.int 2)) (xNil)))))) (xNil))))) (gSet 8) (xYes) (xCallF (f_law_need d c) (xCons (xName 0) (xCons (xName 2) (xCons (xName 6) (xNil))))) [.im (.adr d), x1, .im (.tup ks), .im (.int k), .ow (.lst ops), .im (.str kk), .im (.int mm), x7, x8] s1 = some (.lst bs, s3) :=
    ev_lc (ev_rng (n := (n : Int)) (ev_callF (ev_cons (ev_name rfl) (ev_cons (ev_lst (ev_cons rfl (ev_cons rfl (ev_cons rfl (ev_cons rfl rfl)))) (sz (by simp))) ev_nil)) e2) ⟨by omega, by omega⟩) (by rw [Int.toNat_natCast, intsFrom_len]; exact sz (by omega)) (by simp [h8]) (by rw [Int.toNat_natCast]; exact eg)
  refine wn_seq ⟨_, s3, ev_setO lc (by simp), ?_⟩
  refine wn_freeze (a := .lst bs) rfl ?_
  show Wn ((_ : SF (deckZ d c)) [.im (.adr d), x1, .im (.tup ks), .im (.int k), .ow (.lst ops), .im (.str kk), .im (.int mm), .im (.lst bs), x8] s3) _
  obtain ⟨g, s4, e4, hg4⟩ := drawT_some dp dq d c s3 mm (by omega) (by omega)
  have hk' : k < ([T.str "y", T.str "first", T.str "get", T.str "untie"] : List T).length := hk
  have hk2 : k < openS.length := hk
  have ix : ixT (.lst [T.str "y", T.str "first", T.str "get", T.str "untie"]) (.int (k : Int)) = some (.str openS[k]) := by
    show atI ([T.str "y", T.str "first", T.str "get", T.str "untie"] : List T) (k : Int) = _
    rw [atI_nat' hk']
    have e : ([T.str "y", T.str "first", T.str "get", T.str "untie"] : List T) = openS.map T.str := rfl
    simp only [e, List.getElem_map]
  have tu : xTup (Z := deckZ d c) (xCons (x2 ixT (xLst (xCons (xC (T.str "y")) (xCons (xC (T.str "first")) (xCons (xC (T.str "get")) (xCons (xC (T.str "untie")) (xNil)))))) (xName 3)) (xCons (xName 5) (xCons (xCallF (drawT dp dq d c) (xCons (xName 0) (xCons (xName 6) (xNil)))) (xCons (xCall tupleT (xCons (xName 7) (xNil))) (xNil))))) [.im (.adr d), x1, .im (.tup ks), .im (.int k), .ow (.lst ops), .im (.str kk), .im (.int mm), .im (.lst bs), x8] s3 = some (.tup [.str openS[k], .str kk, .int g, .tup bs], s4) :=
    ev_tup (ev_cons (ev_x2 (ev_lst (ev_cons rfl (ev_cons rfl (ev_cons rfl (ev_cons rfl rfl)))) (sz (by simp))) (ev_name rfl) ix) (ev_cons (ev_name rfl) (ev_cons (ev_callF (ev_cons (ev_name rfl) (ev_cons (ev_name rfl) ev_nil)) e4) (ev_cons (ev_call (ev_cons (ev_name rfl) ev_nil) rfl) ev_nil)))) (sz (by simp))
  refine ⟨_, _, ev_dropO (ev_app rfl (ev_pure tu) rfl (Nat.lt_of_lt_of_le (by omega : ops.length < 1000) (sz (by decide)))), ?_⟩
  refine ⟨x1, _, _, _, _, x8, _, rfl, h8, by simp [hl], ?_, ?_⟩
  · rw [List.take_succ_eq_append_getElem hk2]
    exact fstsT_snoc rfl hf
  · intro e he
    rcases List.mem_append.mp he with h | h
    · exact hO e h
    · rw [List.mem_singleton] at h
      rw [h]
      exact open_oT (List.getElem_mem hk2) (hks.2 _ (List.getElem_mem hk2)) hkk hg m3 hg4 (by omega) hN
theorem plan_some (s : Deck) : We (f_law_plan d c [.adr d] s) fun a _ => WOk a := by
  refine we_ff rfl ?_
  show Wr (g_law_plan d c [.im (.adr d), .un, .un, .un, .un, .un, .un, .un, .un] s) _
  refine wr_if_seq (we_eqi (we_drawn rfl 3 (we_c ⟨rfl, by decide, by decide, fun k s1 hk => ⟨_, rfl, fun _ => ?_, fun _ => ?_⟩⟩)))
  · obtain ⟨w, e, ok⟩ := std_ok
    exact ⟨w, s1, ev_ret (ev_callP ev_nil e), ok⟩
  refine wr_seq ⟨[.im (.adr d), .ow (.lst (poolS.map T.str)), .ow (.lst []), .un, .un, .un, .un, .un, .un], s1, ev_parN (k := true) (l := true) (ev_lst (ev_cons rfl (ev_cons rfl (ev_cons rfl (ev_cons rfl (ev_cons rfl (ev_cons rfl (ev_cons rfl rfl))))))) (sz (by simp))) (ev_lst rfl (sz (by simp))) (by simp) (by simp), ?_⟩
  obtain ⟨n, s2, e2, hn⟩ := drawT_some dp dq d c s1 4 (by decide) (by decide)
  refine wr_seq (wn_rng ⟨_, s2, ev_x2 rfl (ev_callF (ev_cons (ev_name rfl) (ev_cons rfl ev_nil)) e2) rfl, 1 + n, by congr 1, by omega, wn_imp (sFor_ix0 (PInv d) (1 + n) _ _ (fun k hk τ s i => plan_kinds k (by omega) τ s i) ⟨poolS, [], [], _, rfl, rfl, rfl, fun x hx => hx, rfl, poolS_nd, fun e h => by cases h⟩) ?_⟩)
  rintro τ s3 ⟨pool, kinds, ns, x3, rfl, hp, hl, hw, hf, hd, hK⟩
  refine wr_freeze (a := .lst kinds) rfl ?_
  show Wr ((_ : SF (deckZ d c)) [.im (.adr d), .ow (.lst (pool.map T.str)), .im (.lst kinds), x3, .un, .un, .un, .un, .un] s3) _
  obtain ⟨us, eu, ul, um, ua⟩ := sorted_asc hf (List.nodup_append.mp hd).1
  refine wr_seq ⟨[.im (.adr d), .ow (.lst (pool.map T.str)), .im (.tup us), x3, .ow (.lst []), .un, .un, .un, .un], s3, ev_parN (k := false) (l := true) (ev_call (ev_cons (ev_call (ev_cons (ev_name rfl) ev_nil) eu) ev_nil) rfl) (ev_lst rfl (sz (by simp))) (by simp) (by simp), ?_⟩
  have uK : ∀ e ∈ us, kT e := fun e he => hK e (um e he)
  have une : us ≠ [] := by
    intro h
    rw [h] at ul
    simp only [List.length_nil] at ul
    omega
  obtain ⟨k1, k2, k3, k4, k5⟩ := kinds_ok une (by omega) uK ua
  obtain ⟨m, s4, e4, hm⟩ := drawT_some dp dq d c s3 5 (by decide) (by decide)
  refine wr_seq (wn_rng ⟨_, s4, ev_callF (ev_cons (ev_name rfl) (ev_cons rfl ev_nil)) e4, m, rfl, by omega, wn_imp (sFor_ix0 (OInv d us (cntOf (.tup us))) m _ _ (fun k hk τ s i => plan_opens k5 (by omega) (by omega) k (by omega) τ s i) ⟨_, _, _, _, _, _, [], rfl, rfl, rfl, rfl, fun e h => by cases h⟩) ?_⟩)
  rintro τ s5 ⟨x1, x3', x5, x6, x7, x8, ops, rfl, h8, hol, hof, hO⟩
  refine wr_freeze (a := .lst ops) rfl ?_
  show Wr ((_ : SF (deckZ d c)) [.im (.adr d), x1, .im (.tup us), x3', .im (.lst ops), x5, x6, x7, x8] s5) _
  obtain ⟨vs, ev, vl, vm, va⟩ := sorted_asc hof (openS_nd.sublist (List.take_sublist _ _))
  refine ⟨_, s5, ev_ret (ev_dict (as := [.tup us, .tup vs]) (ev_cons (ev_name rfl) (ev_cons (ev_call (ev_cons (ev_call (ev_cons (ev_name rfl) ev_nil) ev) ev_nil) rfl) ev_nil)) ⟨rfl, by decide, by decide⟩), ?_⟩
  obtain ⟨o1, o2, o3, o4⟩ := opens_ok (cs := cntOf (.tup us)) (us := vs) (by omega) (fun e he => hO e (vm e he)) va
  exact ⟨.tup us, .tup vs, rfl, ⟨k1, o1, k2, o2, k3, o3, k4, o4⟩⟩
end
end L2.TL
namespace L2.TL
open PySem PySem.Spec
open PyProof.Rows
def Nn : Nat → Nat
  | 0 => 85
  | m + 1 => 2 * Nn m + 5
/-- kinds and openings behind so many bends -/
structure Pr (m : Nat) (k o : T) : Prop where
  ka : aT m k
  oa : aT m o
  kn : nT k ≤ Nn m
  on : nT o ≤ Nn m
  kd : k.d.depth ≤ 8 + 3 * m
  od : o.d.depth ≤ 8 + 3 * m
theorem Pr.up {m : Nat} {k o : T} (h : Pr m k o) : Pr (m + 1) k o := by
  obtain ⟨h1, h2, h3, h4, h5, h6⟩ := h
  refine ⟨aT_up (Nat.le_succ m) _ h1, aT_up (Nat.le_succ m) _ h2, ?_, ?_, by omega, by omega⟩ <;> (simp only [Nn]; omega)
theorem Pr.le {k o : T} : ∀ {m n : Nat}, m ≤ n → Pr m k o → Pr n k o
  | m, 0, h, p => by
    have : m = 0 := by omega
    subst this
    exact p
  | m, n + 1, h, p => by
    by_cases e : m = n + 1
    · subst e
      exact p
    · exact (Pr.le (by omega) p).up
theorem Pr.bK {m : Nat} {k o a : T} (h : Pr m k o) (b : BentOk m k a) : Pr (m + 1) a o := by
  obtain ⟨h1, h2, h3, h4, h5, h6⟩ := h
  obtain ⟨b1, b2, b3⟩ := b
  refine ⟨b1, aT_up (Nat.le_succ m) _ h2, ?_, ?_, by omega, by omega⟩ <;> (simp only [Nn]; omega)
theorem Pr.bO {m : Nat} {k o a : T} (h : Pr m k o) (b : BentOk m o a) : Pr (m + 1) k a := by
  obtain ⟨h1, h2, h3, h4, h5, h6⟩ := h
  obtain ⟨b1, b2, b3⟩ := b
  refine ⟨aT_up (Nat.le_succ m) _ h1, b1, ?_, ?_, by omega, by omega⟩ <;> (simp only [Nn]; omega)
theorem Pr.sz {k o : T} (h : Pr 3 k o) : nT k ≤ 715 ∧ nT o ≤ 715 := ⟨h.kn, h.on⟩
theorem POk.pr {k o : T} (h : POk k o) : Pr 0 k o := ⟨h.ka, h.oa, h.kn, h.on, h.kd, h.od⟩
theorem show_pair {k o : T} (h : Pr 3 k o) : showOk2 (.tup [k, o]) = true := by
  obtain ⟨z1, z2⟩ := h.sz
  refine show_ok (m := 3) ⟨h.ka, h.oa, trivial⟩ (by decide) ?_ ?_
  · simp only [nT, nL]
    omega
  · have := h.kd
    have := h.od
    have := dep_tup_le (ts := [k, o]) (n := 17) fun t ht => by
      simp only [List.mem_cons, List.not_mem_nil, or_false] at ht
      rcases ht with rfl | rfl <;> omega
    omega
section
variable {K : PySem.W.Frag} {E : Ec 3} {B d c : Addr}
theorem Pr.right {k o : T} (b : Bool) (h : Pr 3 k o) : f_law_right K E B [k, o, .bl b] = some (.bl true) := by
  obtain ⟨z1, z2⟩ := h.sz
  exact law_right b (aT_b (by decide) k h.ka (by omega)) (aT_b (by decide) o h.oa (by omega)) (show_pair h)
theorem atI_last {α : Type} {l : List α} {n : Nat} (h : l.length = n + 1) : atI l (-1) = l[n]? := by
  have e : L2.ixN l.length (-1) = some n := by
    rw [h]
    unfold L2.ixN
    simp
    omega
  unfold atI
  rw [e]
  rfl
theorem atI_first {α : Type} {l : List α} {n : Nat} (h : l.length = n + 1) : atI l 0 = l[0]? := by
  have e : L2.ixN l.length 0 = some 0 := by
    rw [h]
    unfold L2.ixN
    simp
  unfold atI
  rw [e]
  rfl
theorem ev_ixO {Z : Res} {i : Nat} {f : EF Z} {τ : List SV} {s s1 : Z.S} {k : Int} {ts : List T} {a : T} (h : f τ s = some (.int k, s1)) (h2 : τ[i]? = some (.ow (.lst ts))) (h3 : atI ts k = some a) : xIxO i f τ s = some (a, s1) := by
  unfold xIxO
  simp only [h, h2]
  rw [h3]
abbrev Lw (d : Addr) (v0 w2 w3 x4 x5 x6 x7 x8 x9 x10 x11 : SV) : List SV := [v0, .im (.adr d), w2, w3, x4, x5, x6, x7, x8, x9, x10, x11]
def lm (n : Nat) : Nat := if n ≤ 4 then 1 else n - 3
/-- what the pairs are behind n rounds -/
structure LOk (n : Nat) (L : List T) : Prop where
  len : L.length = n + 1
  all : ∀ t ∈ L, ∃ k o, t = T.tup [k, o] ∧ Pr 3 k o
  fst : ∃ k o, L[0]? = some (T.tup [k, o]) ∧ Pr 0 k o
  lst : ∃ k o, L[n]? = some (T.tup [k, o]) ∧ Pr (lm n) k o
def IInv (d : Addr) (v0 w2 w3 x8 x9 x10 x11 : SV) (n : Nat) (τ : List SV) : Prop := ∃ (L : List T) (x5 x6 x7 : SV), τ = Lw d v0 w2 w3 (.ow (.lst L)) x5 x6 x7 x8 x9 x10 x11 ∧ isOw x5 = false ∧ LOk n L
abbrev srcE : EF (deckZ d c) := xIf (xb (x2 ltX (xName 5) (xC (T.int 4)))) (xIxO 4 (xC (T.int 0))) (xIxO 4 (x1 negI (xC (T.int 1))))
abbrev stepB : SF (deckZ d c) := sSeq (sAsg srcE (gTupT 2 (gsCons (gSet 6) (gsCons (gSet 7) (gsNil)))))
    (sSeq (sIf (xb (x2 (eqX false) (xCallF (drawT dp dq d c) (xCons (xName 1) (xCons (xC (T.int 3)) (xNil)))) (xC (T.int 0)))) (sSet 6 (xCallF (f_law_bent d c 5) (xCons (xName 1) (xCons (xName 6) (xCons (xC (T.int 2)) (xNil)))))) (sSet 7 (xCallF (f_law_bent d c 5) (xCons (xName 1) (xCons (xName 7) (xCons (xC (T.int 4)) (xNil)))))))
    (sDropO (oApp 4 (oPure (xTup (xCons (xName 6) (xCons (xName 7) (xNil))))))))
theorem LOk.add {n m : Nat} {L : List T} {k o : T} (h : LOk n L) (p : Pr m k o) (h3 : m ≤ 3) (hm : m ≤ lm (n + 1)) : LOk (n + 1) (L ++ [.tup [k, o]]) := by
  obtain ⟨h1, h2, h4, h5⟩ := h
  refine ⟨by rw [List.length_append, h1]; rfl, fun t ht => ?_, ?_, k, o, ?_, p.le hm⟩
  · rcases List.mem_append.mp ht with ht | ht
    · exact h2 t ht
    · exact ⟨k, o, List.mem_singleton.mp ht, p.le h3⟩
  · obtain ⟨a, b, e, q⟩ := h4
    refine ⟨a, b, ?_, q⟩
    rw [List.getElem?_append_left (by omega)]
    exact e
  · rw [List.getElem?_append_right (by omega), h1, Nat.sub_self]
    rfl
theorem step_ok {v0 w2 w3 x8 x9 x10 x11 : SV} (n : Nat) (hn : n < 6) (τ : List SV) (s : Deck) (i : IInv d v0 w2 w3 x8 x9 x10 x11 n τ) : ∃ τ1, gSet 5 (.int (n : Int)) τ = some τ1 ∧ Wn (stepB (d := d) (c := c) τ1 s) fun τ2 _ => IInv d v0 w2 w3 x8 x9 x10 x11 (n + 1) τ2 := by
  obtain ⟨L, x5, x6, x7, rfl, _, hL⟩ := i
  refine ⟨Lw d v0 w2 w3 (.ow (.lst L)) (.im (.int n)) x6 x7 x8 x9 x10 x11, rfl, ?_⟩
  obtain ⟨k, o, m, es, p, m3, mm⟩ : ∃ k o m, srcE (d := d) (c := c) (Lw d v0 w2 w3 (.ow (.lst L)) (.im (.int n)) x6 x7 x8 x9 x10 x11) s = some (T.tup [k, o], s) ∧ Pr m k o ∧ m + 1 ≤ 3 ∧ m + 1 ≤ lm (n + 1) := by
    have c1 : xb (Z := deckZ d c) (x2 ltX (xName 5) (xC (T.int 4))) (Lw d v0 w2 w3 (.ow (.lst L)) (.im (.int n)) x6 x7 x8 x9 x10 x11) s = some (decide ((n : Int) < 4), s) := ev_xb (ev_x2 (ev_name rfl) rfl rfl)
    by_cases h4 : n < 4
    · rw [decide_eq_true (by omega)] at c1
      obtain ⟨k, o, e, p⟩ := hL.fst
      refine ⟨k, o, 0, ev_xif_t c1 (ev_ixO (k := 0) rfl rfl ?_), p, by decide, by unfold lm; split <;> omega⟩
      rw [atI_first hL.len]
      exact e
    · rw [decide_eq_false (by omega)] at c1
      obtain ⟨k, o, e, p⟩ := hL.lst
      refine ⟨k, o, lm n, ev_xif_f c1 (ev_ixO (k := -1) (ev_x1 rfl rfl) rfl ?_), p, ?_, ?_⟩
      · rw [atI_last hL.len]
        exact e
      · unfold lm
        split <;> omega
      · unfold lm
        split <;> split <;> omega
  refine wn_seq (wn_asg ⟨_, s, es, Lw d v0 w2 w3 (.ow (.lst L)) (.im (.int n)) (.im k) (.im o) x8 x9 x10 x11, rfl, ?_⟩)
  obtain ⟨q, s1, e1, hq⟩ := drawT_some dp dq d c s 3 (by decide) (by decide)
  have c2 : xb (Z := deckZ d c) (x2 (eqX false) (xCallF (drawT dp dq d c) (xCons (xName 1) (xCons (xC (T.int 3)) (xNil)))) (xC (T.int 0))) (Lw d v0 w2 w3 (.ow (.lst L)) (.im (.int n)) (.im k) (.im o) x8 x9 x10 x11) s = some (decide ((q : Int) = 0), s1) :=
    ev_xb (ev_x2 (ev_callF (ev_cons (ev_name rfl) (ev_cons rfl ev_nil)) e1) rfl (eq_int false q 0))
  have p3 : Pr 3 k o := p.le (by omega)
  obtain ⟨z1, z2⟩ := p3.sz
  have fin : ∀ (k' o' : T) (s2 : Deck), Pr (m + 1) k' o' → Wn (sDropO (Z := deckZ d c) (oApp 4 (oPure (xTup (xCons (xName 6) (xCons (xName 7) (xNil)))))) (Lw d v0 w2 w3 (.ow (.lst L)) (.im (.int n)) (.im k') (.im o') x8 x9 x10 x11) s2) fun τ2 _ => IInv d v0 w2 w3 x8 x9 x10 x11 (n + 1) τ2 := fun k' o' s2 p' => by
    have tu : xTup (Z := deckZ d c) (xCons (xName 6) (xCons (xName 7) (xNil))) (Lw d v0 w2 w3 (.ow (.lst L)) (.im (.int n)) (.im k') (.im o') x8 x9 x10 x11) s2 = some (.tup [k', o'], s2) := ev_tup (ev_cons (ev_name rfl) (ev_cons (ev_name rfl) ev_nil)) (sz (by simp))
    have lz : L.length < sizeLine := Nat.lt_of_lt_of_le (by have := hL.len; omega : L.length < 1000) (sz (by decide))
    exact ⟨_, s2, ev_dropO (ev_app rfl (ev_pure tu) rfl lz), L ++ [.tup [k', o']], _, _, _, rfl, rfl, hL.add p' m3 mm⟩
  by_cases h0 : (q : Int) = 0
  · rw [decide_eq_true h0] at c2
    obtain ⟨a, s2, e2, b⟩ := bent_some (d := d) (c := c) 5 2 k m s1 (by decide) p.ka (by omega) (by omega)
    exact wn_seq ⟨_, s2, ev_if_t c2 (ev_set (ev_callF (ev_cons (ev_name rfl) (ev_cons (ev_name rfl) (ev_cons rfl ev_nil))) e2) (by simp)), fin a o s2 (p.bK b)⟩
  · rw [decide_eq_false h0] at c2
    obtain ⟨a, s2, e2, b⟩ := bent_some (d := d) (c := c) 5 4 o m s1 (by decide) p.oa (by omega) (by omega)
    exact wn_seq ⟨_, s2, ev_if_f c2 (ev_set (ev_callF (ev_cons (ev_name rfl) (ev_cons (ev_name rfl) (ev_cons rfl ev_nil))) e2) (by simp)), fin k a s2 (p.bO b)⟩
end
end L2.TL
namespace L2.TL
open PySem PySem.Spec
open PyProof.Rows
theorem POk.bk {k o : T} (h : POk k o) : bT k ∧ bT o := ⟨aT_b (by decide) k h.ka (by have := h.kn; omega), aT_b (by decide) o h.oa (by have := h.on; omega)⟩
/-- what equality of plain parts asks -/
theorem POk.fit {k o : T} (h : POk k o) : (k.plain = true ∧ SeqAt.shaped k.d = true) ∧ (o.plain = true ∧ SeqAt.shaped o.d = true) := by
  obtain ⟨b1, b2⟩ := h.bk
  obtain ⟨f1, _, d1⟩ := kinds_fl h.kb b1
  obtain ⟨f2, _, d2⟩ := opens_fl h.ob b2
  obtain ⟨p1, c1, _⟩ := fl_facts _ f1
  obtain ⟨p2, c2, _⟩ := fl_facts _ f2
  have sh : ∀ d : PyData, d.canLay0 = true → d.depth ≤ 64 → SeqAt.shaped d = true := fun d a b => by
    unfold SeqAt.shaped
    rw [a, decide_eq_true b]
    rfl
  exact ⟨⟨p1, sh _ c1 d1⟩, p2, sh _ c2 d2⟩
theorem eq_two {a b : T} (ha : ∃ ts, a = .tup ts) (hp : a.plain = true ∧ SeqAt.shaped a.d = true) (hq : b.plain = true ∧ SeqAt.shaped b.d = true) : eqX false a b = some (.bl (PyData.eqv a.d b.d)) := by
  obtain ⟨ts, rfl⟩ := ha
  have e : eqX false (.tup ts) b = eqT false (.tup ts) b := rfl
  rw [e]
  unfold eqT
  rw [if_pos ⟨hp.1, hq.1, hp.2, hq.2⟩]
  rfl
theorem orT_some {f g : T → T → Option T} {a b c : T} (h : f a b = some c) : orT f g a b = some c := by
  unfold orT
  rw [h]
section
variable {K : PySem.W.Frag} {E : Ec 3} {B d c : Addr}
/-- == of two plans -/
theorem plans_eq {k1 o1 k2 o2 : T} (p : POk k1 o1) (q : POk k2 o2) : eqBk K E B (.dct [(Sum.inr "kinds", k1), (Sum.inr "openings", o1)]) (.dct [(Sum.inr "kinds", k2), (Sum.inr "openings", o2)]) = some (.bl (PyData.eqv k1.d k2.d && PyData.eqv o1.d o2.d)) := by
  obtain ⟨⟨a1, a2⟩, a3, a4⟩ := p.fit
  obtain ⟨⟨b1, b2⟩, b3, b4⟩ := q.fit
  have nd : ((Sum.inr "kinds" : Key) :: [(Sum.inr "openings" : Key)]).Nodup := by decide +kernel
  have f1 : fitD [((Sum.inr "kinds" : Key), k1), (Sum.inr "openings", o1)] := ⟨nd, by simp [fitV, a1, a2, a3, a4]⟩
  have f2 : fitD [((Sum.inr "kinds" : Key), k2), (Sum.inr "openings", o2)] := ⟨nd, by simp [fitV, b1, b2, b3, b4]⟩
  have e1 : eqX false (.dct [(Sum.inr "kinds", k1), (Sum.inr "openings", o1)]) (.dct [(Sum.inr "kinds", k2), (Sum.inr "openings", o2)]) = none := by
    have e0 : eqS false (.dct [(Sum.inr "kinds", k1), (Sum.inr "openings", o1)]) (.dct [(Sum.inr "kinds", k2), (Sum.inr "openings", o2)]) = none := rfl
    refine (orT_none e0).trans ?_
    unfold eqT
    exact if_neg fun h => nomatch h.2.2.1
  have g1 : getT [((Sum.inr "kinds" : Key), k2), (Sum.inr "openings", o2)] (Sum.inr "kinds") = some k2 := by first | rfl | kernel_rfl
  have g2 : getT [((Sum.inr "kinds" : Key), k2), (Sum.inr "openings", o2)] (Sum.inr "openings") = some o2 := by first | rfl | kernel_rfl
  have e2 : eqD false (.dct [(Sum.inr "kinds", k1), (Sum.inr "openings", o1)]) (.dct [(Sum.inr "kinds", k2), (Sum.inr "openings", o2)]) = some (.bl (PyData.eqv k1.d k2.d && PyData.eqv o1.d o2.d)) := by
    unfold eqD
    simp only [if_pos (And.intro f1 f2)]
    unfold eqPs
    simp only [List.all_cons, List.all_nil, g1, g2, Bool.and_true]
    simp
  unfold eqBk
  exact orT_some ((orT_none e1).trans e2)
theorem lcGo_none {Z : Res} {gt : GF} {ft : EFb Z} {fe : EF Z} {τ : List SV} {s : Z.S} : ∀ (items : List T), (∀ a ∈ items, ∃ τ', gt a τ = some τ' ∧ ft τ' s = some (false, s)) → lcGo gt ft fe τ items s = some ([], s)
  | [], _ => rfl
  | a :: r, k => by
    obtain ⟨τ', e1, e2⟩ := k a (List.mem_cons_self ..)
    have e3 := lcGo_none (fe := fe) r fun b hb => k b (List.mem_cons_of_mem _ hb)
    unfold lcGo
    simp only [e1, e2, e3]
theorem ev_enumT {Z : Res} {f : EF Z} {τ : List SV} {s s1 : Z.S} {ts : List T} (h : f τ s = some (.lst ts, s1)) : iEnumT f τ s = some (pairUp 0 ts, s1) := by
  unfold iEnumT
  simp only [h]
theorem all_right {v0 w2 w3 x5 x6 x7 x8 x9 x10 x11 : SV} {L : List T} (hL : LOk 6 L) (h5 : isOw x5 = false) (h8 : isOw x8 = false) (s : Deck) :
    xb (Z := deckZ d c) (x2 (eqX true) (xLc [5, 8] (iEnumT (xName 4)) (gTupT 2 (gsCons (gSet 5) (gsCons (gSet 8) gsNil))) (xbNot (xTru (xCallP (f_law_right K E B) (xCons (x2 ixT (xName 8) (xC (T.int 0))) (xCons (x2 ixT (xName 8) (xC (T.int 1))) (xCons (x2 (eqX false) (x2 modI (xName 5) (xC (T.int 2))) (xC (T.int 0))) (xNil))))))) (xName 5)) (xLst (xNil)))
      (Lw d v0 w2 w3 (.im (.lst L)) x5 x6 x7 x8 x9 x10 x11) s = some (false, s) := by
  refine ev_xb (ev_x2 (a := .lst []) (s1 := s) (ev_lc (s1 := s) (items := pairUp 0 L) ?_ (by rw [pairUp_len, hL.len]; exact sz (by decide)) ?_ (lcGo_none _ fun a ha => ?_)) (ev_lst ev_nil (sz (by simp))) (eq_nil true [] fun t ht => nomatch ht))
  · exact ev_enumT (ev_name rfl)
  · show (!isOw x5 && (!isOw x8 && true)) = true
    rw [h5, h8]
    rfl
  · obtain ⟨i, hi⟩ := List.getElem?_of_mem ha
    obtain ⟨u, hu, rfl⟩ := pairUp_at 0 L i a hi
    obtain ⟨k, o, rfl, p⟩ := hL.all u (List.mem_of_getElem? hu)
    refine ⟨Lw d v0 w2 w3 (.im (.lst L)) (.im (.int ((0 + i : Nat) : Int))) x6 x7 (.im (.tup [k, o])) x9 x10 x11, rfl, ?_⟩
    refine ev_bnot (k := true) (ev_tru (ev_callP (ev_cons (ev_x2 (ev_name rfl) rfl rfl) (ev_cons (ev_x2 (ev_name rfl) rfl rfl) (ev_cons (ev_x2 (ev_x2 (ev_name rfl) rfl rfl) rfl (eq_int false _ 0)) ev_nil))) (Pr.right _ p)) rfl)
end
end L2.TL
namespace L2.TL
open PySem PySem.Spec
open PyProof.Rows
abbrev planT (k o : T) : T := .dct [(Sum.inr "kinds", k), (Sum.inr "openings", o)]
section
variable {K : PySem.W.Frag} {E : Ec 3} {B d c : Addr}
theorem get_k {Z : Res} {i : Nat} {τ : List SV} {s : Z.S} {k o : T} (h : τ[i]? = some (.im (planT k o))) : x2 (Z := Z) dgetT (xName i) (xC (T.str "kinds")) τ s = some (k, s) := ev_x2 (ev_name h) rfl (by first | rfl | kernel_rfl)
theorem get_o {Z : Res} {i : Nat} {τ : List SV} {s : Z.S} {k o : T} (h : τ[i]? = some (.im (planT k o))) : x2 (Z := Z) dgetT (xName i) (xC (T.str "openings")) τ s = some (o, s) := ev_x2 (ev_name h) rfl (by first | rfl | kernel_rfl)
theorem made {i : Nat} {τ : List SV} {s : Deck} {k o : T} (h : τ[i]? = some (.im (planT k o))) (p : POk k o) : ∃ c1 w1 y1, xGood (Z := deckZ d c) (rMake (m_Book K E B) (xCons (x2 dgetT (xName i) (xC (T.str "kinds"))) (xCons (x2 dgetT (xName i) (xC (T.str "openings"))) (xNil)))) τ s = some (BookT B k o c1 w1 y1, s) := by
  obtain ⟨b1, b2⟩ := p.bk
  obtain ⟨c1, w1, y1, e⟩ := book_ok (K := K) (E := E) (B := B) b1 b2 p.kb p.ob
  exact ⟨c1, w1, y1, ev_xgood (ev_make (ev_cons (get_k h) (ev_cons (get_o h) ev_nil)) e)⟩
def OutI (d : Addr) (v0 : SV) (τ : List SV) : Prop := ∃ w2 w3 x4 x5 x6 x7 x8 x9 x10 x11 : SV, τ = Lw d v0 w2 w3 x4 x5 x6 x7 x8 x9 x10 x11 ∧ isOw x5 = false ∧ isOw x8 = false
theorem std_show : showOk2 (.lst [.tup stdK, .tup stdO]) = true := by decide +kernel
theorem std_made : ∃ c1 w1 y1, f_standard_book K E B [] = some (BookT B (.tup stdK) (.tup stdO) c1 w1 y1) := by
  obtain ⟨b1, b2⟩ := std_p.bk
  obtain ⟨c1, w1, y1, e⟩ := book_ok (K := K) (E := E) (B := B) b1 b2 std_p.kb std_p.ob
  exact ⟨c1, w1, y1, ev_fp rfl (ev_ret (ev_xgood (Z := Z0) (s1 := (() : Z0.S)) (ev_make (Z := Z0) (s1 := (() : Z0.S)) (ev_cons rfl (ev_cons rfl ev_nil)) e)))⟩
theorem same_bl (b : Bool) : eqX true (.bl b) (.bl b) = some (.bl false) := by
  cases b <;> rfl
theorem law_some (s : Deck) (v0 : SV) : Wr (g_law K E B d c [v0, .im (.adr d), .un, .un, .un, .un, .un, .un, .un, .un, .un, .un] s) fun a _ => a = .bl true := by
  refine wr_seq (wn_rng ⟨_, s, rfl, 4, rfl, by decide, wn_imp (sFor_ix0 (fun _ => OutI d v0) 4 _ _ (fun w hw τ s i => ?_) ⟨_, _, _, _, _, _, _, _, _, _, rfl, rfl, rfl⟩) ?_⟩)
  · obtain ⟨w2, w3, x4, x5, x6, x7, x8, x9, x10, x11, rfl, h5, h8⟩ := i
    refine ⟨Lw d v0 (.im (.int w)) w3 x4 x5 x6 x7 x8 x9 x10 x11, rfl, ?_⟩
    obtain ⟨_, s1, e1, k, o, rfl, p⟩ := plan_some (d := d) (c := c) s
    refine wn_seq ⟨Lw d v0 (.im (.int w)) (.im (planT k o)) x4 x5 x6 x7 x8 x9 x10 x11, s1, ev_set (ev_callF (ev_cons (ev_name rfl) ev_nil) e1) (by simp), ?_⟩
    refine wn_seq ⟨Lw d v0 (.im (.int w)) (.im (planT k o)) (.ow (.lst [.tup [k, o]])) x5 x6 x7 x8 x9 x10 x11, s1, ev_setO (ev_lst (ev_cons (ev_tup (ev_cons (get_k rfl) (ev_cons (get_o rfl) ev_nil)) (sz (by simp))) ev_nil) (sz (by simp))) (by simp), ?_⟩
    have p0 := p.pr
    refine wn_seq (wn_rng ⟨_, s1, rfl, 6, rfl, by decide, wn_imp (sFor_ix0 (IInv d v0 (.im (.int w)) (.im (planT k o)) x8 x9 x10 x11) 6 _ _ (fun n hn τ s i => step_ok n hn τ s i) ⟨[.tup [k, o]], x5, x6, x7, rfl, h5, ⟨rfl, fun t ht => ⟨k, o, List.mem_singleton.mp ht, p0.le (by decide)⟩, ⟨k, o, rfl, p0⟩, ⟨k, o, rfl, p0.le (by decide)⟩⟩⟩) ?_⟩)
    rintro τ s2 ⟨L, y5, y6, y7, rfl, g5, hL⟩
    refine wn_freeze (a := .lst L) rfl ?_
    show Wn ((_ : SF (deckZ d c)) (Lw d v0 (.im (.int w)) (.im (planT k o)) (.im (.lst L)) y5 y6 y7 x8 x9 x10 x11) s2) _
    refine wn_seq ⟨_, s2, ev_if_f (all_right hL g5 h8 s2) rfl, ?_⟩
    obtain ⟨_, s3, e3, k', o', rfl, p'⟩ := plan_some (d := d) (c := c) s2
    refine wn_seq ⟨Lw d v0 (.im (.int w)) (.im (planT k o)) (.im (.lst L)) y5 y6 y7 x8 (.im (planT k' o')) x10 x11, s3, ev_set (ev_callF (ev_cons (ev_name rfl) ev_nil) e3) (by simp), ?_⟩
    obtain ⟨c1, w1, z1, m1⟩ := made (K := K) (E := E) (B := B) (d := d) (c := c) (i := 3) (τ := Lw d v0 (.im (.int w)) (.im (planT k o)) (.im (.lst L)) y5 y6 y7 x8 (.im (planT k' o')) x10 x11) (s := s3) rfl p
    obtain ⟨c2, w2', z2, m2⟩ := made (K := K) (E := E) (B := B) (d := d) (c := c) (i := 9) (τ := Lw d v0 (.im (.int w)) (.im (planT k o)) (.im (.lst L)) y5 y6 y7 x8 (.im (planT k' o')) x10 x11) (s := s3) rfl p'
    refine wn_seq ⟨Lw d v0 (.im (.int w)) (.im (planT k o)) (.im (.lst L)) y5 y6 y7 x8 (.im (planT k' o')) (.im (BookT B k o c1 w1 z1)) (.im (BookT B k' o' c2 w2' z2)), s3, ev_par (ev_cons m1 (ev_cons m2 ev_nil)) (by simp) (by simp), ?_⟩
    obtain ⟨f1, f2⟩ := p.fit
    obtain ⟨f3, f4⟩ := p'.fit
    have ek : eqX false k k' = some (.bl (PyData.eqv k.d k'.d)) := eq_two (kinds_fl p.kb p.bk.1).2.1 f1 f3
    have eo : eqX false o o' = some (.bl (PyData.eqv o.d o'.d)) := eq_two (opens_fl p.ob p.bk.2).2.1 f2 f4
    exact ⟨_, s3, ev_if_f (ev_xb (ev_x2 (ev_x2 (ev_name rfl) (ev_name rfl) (book_eq ek eo)) (ev_x2 (ev_name rfl) (ev_name rfl) (plans_eq p p')) (same_bl _))) rfl, _, _, _, _, _, _, _, _, _, _, rfl, g5, h8⟩
  rintro τ s1 ⟨w2, w3, x4, x5, x6, x7, x8, x9, x10, x11, rfl, h5, h8⟩
  refine wr_seq ⟨Lw d v0 w2 (.im (planT (.tup stdK) (.tup stdO))) x4 x5 x6 x7 x8 x9 x10 x11, s1, ev_set (ev_callP ev_nil std_eq) (by simp), ?_⟩
  obtain ⟨c1, w1, y1, em⟩ := std_made (K := K) (E := E) (B := B)
  have r := repr_t std_show
  generalize T.show (.lst [.tup stdK, .tup stdO]) = sh at r
  refine wr_ret ⟨_, s1, ev_x2 (a := .str sh) (b := .str sh) (s1 := s1) (ev_call (ev_cons (ev_lst (ev_cons (fld_k (ev_callP ev_nil em)) (ev_cons (fld_o (ev_callP ev_nil em)) ev_nil)) (sz (by simp))) ev_nil) r) (ev_call (ev_cons (ev_lst (ev_cons (get_k rfl) (ev_cons (get_o rfl) ev_nil)) (sz (by simp))) ev_nil) r) (same_txt false sh), rfl⟩
end
end L2.TL
namespace L2.TL
open PySem PySem.Spec
open PyProof.Rows
def spLaw (K : PySem.W.Frag) : Sp := fun vs H Q _ => ∃ (a : Addr) (ns : List Int), vs = [.ref a] ∧ SqL K H a (ns.map V.int) ∧ ns.length ≤ 63 ∧ ∀ H' : Hp, Q (.bl true) H'
def noH : Hp := fun _ => none
section
variable {P : Program} {w : World} {K : PySem.W.Frag} {mg : Str → Option Value} {base : Heap}
theorem ok_law (W : Txt K mg) {f : Addr} {fd : FuncData} (F : Fun K "law" "law" s_law f fd) : FnG P w K mg base 9 f fd ["_law_script"] (spLaw K) := by
  refine fn_g F sc_law (fun vs H Q E h => ?_) fun cdv A out z H vs Q E gd hr h => ?_
  · obtain ⟨a, ns, rfl, _⟩ := h
    rfl
  · obtain ⟨a, ns, rfl, hS, hl, q⟩ := h
    refine ⟨_, pss_cons (ps_set (i := 1) sc_law.nd rfl (.inl rfl) (pe_call (ok_deck W.d_law_deck.F ⟨W.b_int, W.b_list⟩) (hr.mono (by decide)) (by rfl) W.d_law_deck.m W.d_law_deck.F.kp W.d_law_deck.b .nil pass0 (pa_cons (pv 0) pa_nil)))
      (pss_ex fun i : Addr × Addr => (rest_law W i.1 i.2 f cdv A out z H E gd hr).pss), ?_⟩
    refine ⟨_, rfl, a, ns, rfl, hS, hl, fun H' d c s sub hd hc dk => ?_⟩
    obtain ⟨t, s', e, rfl⟩ := law_some (K := K) (E := W.E) (B := W.B) (d := d) (c := c) s .un
    refine ⟨(d, c), noH, noH, [.un, .im (.adr d), .un, .un, .un, .un, .un, .un, .un, .un, .un, .un], s, _, ?_, e, ?_⟩
    · have no : ∀ (i : Nat) (t : L2.TL.T), ([.un, .im (.adr d), .un, .un, .un, .un, .un, .un, .un, .un, .un, .un] : List SV)[i]? ≠ some (.ow t) := fun i t h => by
        match i, h with
        | 0, h => cases h
        | 1, h => cases h
        | 2, h => cases h
        | 3, h => cases h
        | 4, h => cases h
        | 5, h => cases h
        | 6, h => cases h
        | 7, h => cases h
        | 8, h => cases h
        | 9, h => cases h
        | 10, h => cases h
        | 11, h => cases h
        | n + 12, h => cases h
      exact
        { sub := fun _ _ h => by cases h
          res := dk
          rf := fun _ _ => ⟨rfl, rfl⟩
          fr := fun _ _ h => by cases h
          len := rfl
          im := fun i t h => by
            match i, h with
            | 0, h => cases h
            | 1, h =>
              cases h
              exact ⟨.ref d, rfl, rfl⟩
            | 2, h => cases h
            | 3, h => cases h
            | 4, h => cases h
            | 5, h => cases h
            | 6, h => cases h
            | 7, h => cases h
            | 8, h => cases h
            | 9, h => cases h
            | 10, h => cases h
            | 11, h => cases h
            | n + 12, h => cases h
          ow := fun i t h => absurd h (no i t)
          inj := fun i j t u p _ h => absurd h (no i t) }
    · intro I' H1 v _ _ hv
      have hv : v = .bl true := hv
      subst hv
      exact q _
end
end L2.TL
namespace L2.TL
open PySem PySem.Spec
open PyProof.Rows
/-! the end: what the top has written -/
theorem ec_inj {l : List Addr} (h : l.Nodup) (i j : Nat) (hi : i < l.length) (hj : j < l.length) (e : l.getD i 0 = l.getD j 0) : i = j := by
  have k : ∀ m, m < l.length → l[m]? = some (l.getD m 0) := fun m hm => by
    rw [List.getD_eq_getElem?_getD, List.getElem?_eq_getElem hm]
    rfl
  exact (List.getElem?_inj hi h).mp (by rw [k i hi, k j hj, e])
theorem all_mk {l : PySem.W.OpenLaw} {w : World} {K : PySem.W.Frag} {h : Heap} {mg : Str → Option Value} {fa : Addr} (X : K.In h) (G : h.Ns mainGlobals mg) (hfa : mg "law" = some (.ref fa))
    {C0 : Addr}
    (nE0 : PySem.W.nsIn K mainGlobals "CircleError" = some (some (.ref C0)))
    {C1 : Addr}
    (nE1 : PySem.W.nsIn K mainGlobals "BadBook" = some (some (.ref C1)))
    {C2 : Addr}
    (nE2 : PySem.W.nsIn K mainGlobals "BadText" = some (some (.ref C2)))
    {nm0 q0 : Str} {N0 : Addr} {bs0 sub0 : List Value} {sn0 : List Str} {ab0 : Bool} {col0 : Option Bool} {dd0 : Option Addr} {ka0 kb0 kc0 kd0 ke0 : Option Value}
    (lE0 : K.lookup C0 = some (excClassObj nm0 q0 C0 N0 bs0 tlE true sn0 sub0 ab0 col0 dd0 ka0 kb0 kc0 kd0 ke0 "Exception.__new__"))
    (sE0 : PySem.W.findIn K (.ref C0) "__setattr__" = some (some (.builtin "object.__setattr__")))
    (gE0 : PySem.W.findIn K (.ref C0) "__getattribute__" = some (some (.builtin "BaseException.__getattribute__")))
    (hE0 : PySem.W.findIn K (.ref C0) "__getattr__" = some none)
    (kE0 : PySem.W.keepIn K (.ref C0) = true)
    (jE0 : PySem.W.findIn K (.ref C0) "__class__" = some (some (.builtin "object.__class__")))
    {nm1 q1 : Str} {N1 : Addr} {bs1 sub1 : List Value} {sn1 : List Str} {ab1 : Bool} {col1 : Option Bool} {dd1 : Option Addr} {ka1 kb1 kc1 kd1 ke1 : Option Value}
    (lE1 : K.lookup C1 = some (excClassObj nm1 q1 C1 N1 bs1 (.ref C0 :: tlE) true sn1 sub1 ab1 col1 dd1 ka1 kb1 kc1 kd1 ke1 "Exception.__new__"))
    (sE1 : PySem.W.findIn K (.ref C1) "__setattr__" = some (some (.builtin "object.__setattr__")))
    (gE1 : PySem.W.findIn K (.ref C1) "__getattribute__" = some (some (.builtin "BaseException.__getattribute__")))
    (hE1 : PySem.W.findIn K (.ref C1) "__getattr__" = some none)
    (kE1 : PySem.W.keepIn K (.ref C1) = true)
    (jE1 : PySem.W.findIn K (.ref C1) "__class__" = some (some (.builtin "object.__class__")))
    {fI1 : Addr} {odi1 ani1 : Option Addr} {sli1 : Array (Option Value)} {oci1 kVi1 dci1 pmi1 cdi1 cti1 : Value}
    (iE1 : PySem.W.findIn K (.ref C1) "__init__" = some (some (.ref fI1)))
    (oE1 : PySem.W.findIn K (.ref C1) "part" = some none)
    (tE1 : PySem.W.typeIn K (.ref fI1) = some (.type "function"))
    (mE1 : K.lookup fI1 = some ⟨oci1, odi1, .func (PySem.W.fnOf "__init__" "BadBook.__init__" (defArgs s_init_BadBook) (defBody s_init_BadBook) (defScope s_init_BadBook) .none kVi1 dci1 pmi1 ani1 cdi1 cti1), sli1⟩)
    (dE1 : PySem.W.codeIn K cdi1 "BadBook.__init__" = true)
    (pE1 : PySem.W.keepIn K (.ref fI1) = true)
    {nm2 q2 : Str} {N2 : Addr} {bs2 sub2 : List Value} {sn2 : List Str} {ab2 : Bool} {col2 : Option Bool} {dd2 : Option Addr} {ka2 kb2 kc2 kd2 ke2 : Option Value}
    (lE2 : K.lookup C2 = some (excClassObj nm2 q2 C2 N2 bs2 (.ref C0 :: tlE) true sn2 sub2 ab2 col2 dd2 ka2 kb2 kc2 kd2 ke2 "Exception.__new__"))
    (sE2 : PySem.W.findIn K (.ref C2) "__setattr__" = some (some (.builtin "object.__setattr__")))
    (gE2 : PySem.W.findIn K (.ref C2) "__getattribute__" = some (some (.builtin "BaseException.__getattribute__")))
    (hE2 : PySem.W.findIn K (.ref C2) "__getattr__" = some none)
    (kE2 : PySem.W.keepIn K (.ref C2) = true)
    (jE2 : PySem.W.findIn K (.ref C2) "__class__" = some (some (.builtin "object.__class__")))
    {fI2 : Addr} {odi2 ani2 : Option Addr} {sli2 : Array (Option Value)} {oci2 kVi2 dci2 pmi2 cdi2 cti2 : Value}
    (iE2 : PySem.W.findIn K (.ref C2) "__init__" = some (some (.ref fI2)))
    (oE2 : PySem.W.findIn K (.ref C2) "line" = some none)
    (tE2 : PySem.W.typeIn K (.ref fI2) = some (.type "function"))
    (mE2 : K.lookup fI2 = some ⟨oci2, odi2, .func (PySem.W.fnOf "__init__" "BadText.__init__" (defArgs s_init_BadText) (defBody s_init_BadText) (defScope s_init_BadText) .none kVi2 dci2 pmi2 ani2 cdi2 cti2), sli2⟩)
    (dE2 : PySem.W.codeIn K cdi2 "BadText.__init__" = true)
    (pE2 : PySem.W.keepIn K (.ref fI2) = true)
    {CB fIB fQB : Addr} {odI anI odQ anQ : Option Addr} {slI slQ : Array (Option Value)} {ocI kVI dcI pmI cdI ctI ocQ kVQ dcQ pmQ cdQ ctQ : Value}
    (nB : PySem.W.nsIn K mainGlobals "Book" = some (some (.ref CB)))
    (pgB : PySem.W.plainGet K CB Str.empty = true)
    (hdB : PySem.W.hasDictIn K CB = true)
    (poB : PySem.W.plainOver K CB = true)
    (saB : PySem.W.findIn K (.ref CB) "__setattr__" = some (some (.builtin "object.__setattr__")))
    (haB : PySem.W.findIn K (.ref CB) "__class__" = some (some (.builtin "object.__class__")))
    (hmB : PySem.W.mroIn K CB (.type "object") = some true)
    (icB : PySem.W.isClsIn K CB = true)
    (tyB : PySem.W.typeIn K (.ref CB) = some (.type "type"))
    (sub_NoneType : PySem.W.subIn K (.type "NoneType") (.ref CB) = some false)
    (sub_bool : PySem.W.subIn K (.type "bool") (.ref CB) = some false)
    (sub_int : PySem.W.subIn K (.type "int") (.ref CB) = some false)
    (sub_str : PySem.W.subIn K (.type "str") (.ref CB) = some false)
    (sub_tuple : PySem.W.subIn K (.type "tuple") (.ref CB) = some false)
    (sub_list : PySem.W.subIn K (.type "list") (.ref CB) = some false)
    (sub_dict : PySem.W.subIn K (.type "dict") (.ref CB) = some false)
    (na_kinds : PySem.W.findIn K (.ref CB) "kinds" = some none)
    (na_openings : PySem.W.findIn K (.ref CB) "openings" = some none)
    (na_counts : PySem.W.findIn K (.ref CB) "counts" = some none)
    (na_by_word : PySem.W.findIn K (.ref CB) "by_word" = some none)
    (na_ways : PySem.W.findIn K (.ref CB) "ways" = some none)
    (mkB : PySem.W.makesIn K CB = true)
    (inB : PySem.W.findIn K (.ref CB) "__init__" = some (some (.ref fIB)))
    (fnB : PySem.W.isFn K (.ref fIB) = true)
    (kpB : PySem.W.keepIn K (.ref CB) = true)
    (lIB : K.lookup fIB = some ⟨ocI, odI, .func (PySem.W.fnOf "__init__" "Book.__init__" (defArgs s_Book_init) (defBody s_Book_init) (defScope s_Book_init) .none kVI dcI pmI anI cdI ctI), slI⟩)
    (cIB : PySem.W.codeIn K cdI "Book.__init__" = true)
    (pIB : PySem.W.keepIn K (.ref fIB) = true)
    (eqB : PySem.W.findIn K (.ref CB) "__eq__" = some (some (.ref fQB)))
    (fnQ : PySem.W.isFn K (.ref fQB) = true)
    (lQB : K.lookup fQB = some ⟨ocQ, odQ, .func (PySem.W.fnOf "__eq__" "Book.__eq__" (defArgs s_Book_eq) (defBody s_Book_eq) (defScope s_Book_eq) .none kVQ dcQ pmQ anQ cdQ ctQ), slQ⟩)
    (cQB : PySem.W.codeIn K cdQ "Book.__eq__" = true)
    (pQB : PySem.W.keepIn K (.ref fQB) = true)
    {tk2_0_1 : Tok}
    {tk2_1_1 : Tok}
    {u1 : Addr} {un1 : Nat} {us1 : Array (Option Value)}
    {tk3_0_2 : Tok}
    {tk3_1_2 : Tok}
    {u2 : Addr} {un2 : Nat} {us2 : Array (Option Value)}
    {tk4_0_3 : Tok}
    {tk4_1_3 : Tok}
    {u3 : Addr} {un3 : Nat} {us3 : Array (Option Value)}
    {tk5_0_4 : Tok}
    {tk5_1_4 : Tok}
    {u4 : Addr} {un4 : Nat} {us4 : Array (Option Value)}
    {tk6_0_5 : Tok}
    {tk6_1_5 : Tok}
    {u5 : Addr} {un5 : Nat} {us5 : Array (Option Value)}
    {tk7_0_6 : Tok}
    {tk7_1_6 : Tok}
    {u6 : Addr} {un6 : Nat} {us6 : Array (Option Value)}
    {u0 : Addr} {un0 : Nat} {us0 : Array (Option Value)}
    (gc_STANDARD_KINDS : PySem.W.nsIn K mainGlobals "STANDARD_KINDS" = some (some (.ref u0)))
    (lu0 : K.lookup u0 = some ⟨.type "tuple", none, .seq (List.toArray [.ref u1, .ref u2, .ref u3, .ref u4, .ref u5, .ref u6]) un0, us0⟩)
    (lu1 : K.lookup u1 = some ⟨.type "tuple", none, .seq (List.toArray [.str "half" tk2_0_1, .int 1 tk2_1_1]) un1, us1⟩)
    (lu2 : K.lookup u2 = some ⟨.type "tuple", none, .seq (List.toArray [.str "lock" tk3_0_2, .int 2 tk3_1_2]) un2, us2⟩)
    (lu3 : K.lookup u3 = some ⟨.type "tuple", none, .seq (List.toArray [.str "mark" tk4_0_3, .int 1 tk4_1_3]) un3, us3⟩)
    (lu4 : K.lookup u4 = some ⟨.type "tuple", none, .seq (List.toArray [.str "pair" tk5_0_4, .int 2 tk5_1_4]) un4, us4⟩)
    (lu5 : K.lookup u5 = some ⟨.type "tuple", none, .seq (List.toArray [.str "seal" tk6_0_5, .int 2 tk6_1_5]) un5, us5⟩)
    (lu6 : K.lookup u6 = some ⟨.type "tuple", none, .seq (List.toArray [.str "sign" tk7_0_6, .int 2 tk7_1_6]) un6, us6⟩)
    {tk9_0_8 : Tok}
    {tk9_1_8 : Tok}
    {tk9_2_8 : Tok}
    {u9 : Addr} {un9 : Nat} {us9 : Array (Option Value)}
    {u8 : Addr} {un8 : Nat} {us8 : Array (Option Value)}
    {tk11_0_10 : Tok}
    {tk11_1_10 : Tok}
    {tk11_2_10 : Tok}
    {tk13_0_12 : Tok}
    {tk13_1_12 : Tok}
    {u12 : Addr} {un12 : Nat} {us12 : Array (Option Value)}
    {u11 : Addr} {un11 : Nat} {us11 : Array (Option Value)}
    {u10 : Addr} {un10 : Nat} {us10 : Array (Option Value)}
    {tk14_0_13 : Tok}
    {tk14_1_13 : Tok}
    {tk14_2_13 : Tok}
    {u14 : Addr} {un14 : Nat} {us14 : Array (Option Value)}
    {u13 : Addr} {un13 : Nat} {us13 : Array (Option Value)}
    {tk16_0_15 : Tok}
    {tk16_1_15 : Tok}
    {tk16_2_15 : Tok}
    {u16 : Addr} {un16 : Nat} {us16 : Array (Option Value)}
    {u15 : Addr} {un15 : Nat} {us15 : Array (Option Value)}
    {tk18_0_17 : Tok}
    {tk18_1_17 : Tok}
    {tk18_2_17 : Tok}
    {tk20_0_19 : Tok}
    {tk20_1_19 : Tok}
    {tk20_2_19 : Tok}
    {u19 : Addr} {un19 : Nat} {us19 : Array (Option Value)}
    {u18 : Addr} {un18 : Nat} {us18 : Array (Option Value)}
    {u17 : Addr} {un17 : Nat} {us17 : Array (Option Value)}
    {tk21_0_20 : Tok}
    {tk21_1_20 : Tok}
    {tk21_2_20 : Tok}
    {tk23_0_22 : Tok}
    {tk23_1_22 : Tok}
    {tk23_2_22 : Tok}
    {u22 : Addr} {un22 : Nat} {us22 : Array (Option Value)}
    {u21 : Addr} {un21 : Nat} {us21 : Array (Option Value)}
    {u20 : Addr} {un20 : Nat} {us20 : Array (Option Value)}
    {u7 : Addr} {un7 : Nat} {us7 : Array (Option Value)}
    (gc_STANDARD_OPENINGS : PySem.W.nsIn K mainGlobals "STANDARD_OPENINGS" = some (some (.ref u7)))
    (lu7 : K.lookup u7 = some ⟨.type "tuple", none, .seq (List.toArray [.ref u8, .ref u10, .ref u13, .ref u15, .ref u17, .ref u20]) un7, us7⟩)
    (lu8 : K.lookup u8 = some ⟨.type "tuple", none, .seq (List.toArray [.str "first" tk9_0_8, .str "pair" tk9_1_8, .int 0 tk9_2_8, .ref u9]) un8, us8⟩)
    (lu9 : K.lookup u9 = some ⟨.type "tuple", none, .seq (List.toArray []) un9, us9⟩)
    (lu10 : K.lookup u10 = some ⟨.type "tuple", none, .seq (List.toArray [.str "open" tk11_0_10, .str "lock" tk11_1_10, .int 0 tk11_2_10, .ref u11]) un10, us10⟩)
    (lu11 : K.lookup u11 = some ⟨.type "tuple", none, .seq (List.toArray [.ref u12]) un11, us11⟩)
    (lu12 : K.lookup u12 = some ⟨.type "tuple", none, .seq (List.toArray [.str "part" tk13_0_12, .int 1 tk13_1_12]) un12, us12⟩)
    (lu13 : K.lookup u13 = some ⟨.type "tuple", none, .seq (List.toArray [.str "second" tk14_0_13, .str "pair" tk14_1_13, .int 1 tk14_2_13, .ref u14]) un13, us13⟩)
    (lu14 : K.lookup u14 = some ⟨.type "tuple", none, .seq (List.toArray []) un14, us14⟩)
    (lu15 : K.lookup u15 = some ⟨.type "tuple", none, .seq (List.toArray [.str "shown" tk16_0_15, .str "sign" tk16_1_15, .int 0 tk16_2_15, .ref u16]) un15, us15⟩)
    (lu16 : K.lookup u16 = some ⟨.type "tuple", none, .seq (List.toArray []) un16, us16⟩)
    (lu17 : K.lookup u17 = some ⟨.type "tuple", none, .seq (List.toArray [.str "signed" tk18_0_17, .str "sign" tk18_1_17, .int 0 tk18_2_17, .ref u18]) un17, us17⟩)
    (lu18 : K.lookup u18 = some ⟨.type "tuple", none, .seq (List.toArray [.ref u19]) un18, us18⟩)
    (lu19 : K.lookup u19 = some ⟨.type "tuple", none, .seq (List.toArray [.str "around" tk20_0_19, .str "half" tk20_1_19, .int 1 tk20_2_19]) un19, us19⟩)
    (lu20 : K.lookup u20 = some ⟨.type "tuple", none, .seq (List.toArray [.str "unseal" tk21_0_20, .str "seal" tk21_1_20, .int 0 tk21_2_20, .ref u21]) un20, us20⟩)
    (lu21 : K.lookup u21 = some ⟨.type "tuple", none, .seq (List.toArray [.ref u22]) un21, us21⟩)
    (lu22 : K.lookup u22 = some ⟨.type "tuple", none, .seq (List.toArray [.str "inside" tk23_0_22, .int 1 tk23_1_22, .str "half" tk23_2_22]) un22, us22⟩)
    (oa : PySem.W.specialIn K (.builtin "object.__class__") "__get__" = some (some (.builtin "getset_descriptor.__get__")))
    (ob : PySem.W.takesIn K (.builtin "object.__class__") = some true)
    (nd : ([C0, C1, C2] : List Addr).Nodup)
    {f0 : Addr} {od0 an0 : Option Addr} {sl0 : Array (Option Value)} {oc0 kV0 dc0 pm0 cd0 ct0 : Value}
    (a0 : PySem.W.nsIn K mainGlobals "is_whole" = some (some (.ref f0)))
    (l0 : K.lookup f0 = some ⟨oc0, od0, .func (PySem.W.fnOf "is_whole" "is_whole" (defArgs s_is_whole) (defBody s_is_whole) (defScope s_is_whole) .none kV0 dc0 pm0 an0 cd0 ct0), sl0⟩)
    (c0 : PySem.W.codeIn K cd0 "is_whole" = true)
    (k0 : PySem.W.keepIn K (.ref f0) = true)
    {f1 : Addr} {od1 an1 : Option Addr} {sl1 : Array (Option Value)} {oc1 kV1 dc1 pm1 cd1 ct1 : Value}
    (a1 : PySem.W.nsIn K mainGlobals "ascends" = some (some (.ref f1)))
    (l1 : K.lookup f1 = some ⟨oc1, od1, .func (PySem.W.fnOf "ascends" "ascends" (defArgs s_ascends) (defBody s_ascends) (defScope s_ascends) .none kV1 dc1 pm1 an1 cd1 ct1), sl1⟩)
    (c1 : PySem.W.codeIn K cd1 "ascends" = true)
    (k1 : PySem.W.keepIn K (.ref f1) = true)
    {f2 : Addr} {od2 an2 : Option Addr} {sl2 : Array (Option Value)} {oc2 kV2 dc2 pm2 cd2 ct2 : Value}
    (a2 : PySem.W.nsIn K mainGlobals "is_word" = some (some (.ref f2)))
    (l2 : K.lookup f2 = some ⟨oc2, od2, .func (PySem.W.fnOf "is_word" "is_word" (defArgs s_is_word) (defBody s_is_word) (defScope s_is_word) .none kV2 dc2 pm2 an2 cd2 ct2), sl2⟩)
    (c2 : PySem.W.codeIn K cd2 "is_word" = true)
    (k2 : PySem.W.keepIn K (.ref f2) = true)
    {f3 : Addr} {od3 an3 : Option Addr} {sl3 : Array (Option Value)} {oc3 kV3 dc3 pm3 cd3 ct3 : Value}
    (a3 : PySem.W.nsIn K mainGlobals "is_kind" = some (some (.ref f3)))
    (l3 : K.lookup f3 = some ⟨oc3, od3, .func (PySem.W.fnOf "is_kind" "is_kind" (defArgs s_is_kind) (defBody s_is_kind) (defScope s_is_kind) .none kV3 dc3 pm3 an3 cd3 ct3), sl3⟩)
    (c3 : PySem.W.codeIn K cd3 "is_kind" = true)
    (k3 : PySem.W.keepIn K (.ref f3) = true)
    {f4 : Addr} {od4 an4 : Option Addr} {sl4 : Array (Option Value)} {oc4 kV4 dc4 pm4 cd4 ct4 : Value}
    (a4 : PySem.W.nsIn K mainGlobals "are_kinds" = some (some (.ref f4)))
    (l4 : K.lookup f4 = some ⟨oc4, od4, .func (PySem.W.fnOf "are_kinds" "are_kinds" (defArgs s_are_kinds) (defBody s_are_kinds) (defScope s_are_kinds) .none kV4 dc4 pm4 an4 cd4 ct4), sl4⟩)
    (c4 : PySem.W.codeIn K cd4 "are_kinds" = true)
    (k4 : PySem.W.keepIn K (.ref f4) = true)
    {f5 : Addr} {od5 an5 : Option Addr} {sl5 : Array (Option Value)} {oc5 kV5 dc5 pm5 cd5 ct5 : Value}
    (a5 : PySem.W.nsIn K mainGlobals "is_single" = some (some (.ref f5)))
    (l5 : K.lookup f5 = some ⟨oc5, od5, .func (PySem.W.fnOf "is_single" "is_single" (defArgs s_is_single) (defBody s_is_single) (defScope s_is_single) .none kV5 dc5 pm5 an5 cd5 ct5), sl5⟩)
    (c5 : PySem.W.codeIn K cd5 "is_single" = true)
    (k5 : PySem.W.keepIn K (.ref f5) = true)
    {f6 : Addr} {od6 an6 : Option Addr} {sl6 : Array (Option Value)} {oc6 kV6 dc6 pm6 cd6 ct6 : Value}
    (a6 : PySem.W.nsIn K mainGlobals "is_need" = some (some (.ref f6)))
    (l6 : K.lookup f6 = some ⟨oc6, od6, .func (PySem.W.fnOf "is_need" "is_need" (defArgs s_is_need) (defBody s_is_need) (defScope s_is_need) .none kV6 dc6 pm6 an6 cd6 ct6), sl6⟩)
    (c6 : PySem.W.codeIn K cd6 "is_need" = true)
    (k6 : PySem.W.keepIn K (.ref f6) = true)
    {f7 : Addr} {od7 an7 : Option Addr} {sl7 : Array (Option Value)} {oc7 kV7 dc7 pm7 cd7 ct7 : Value}
    (a7 : PySem.W.nsIn K mainGlobals "is_opening" = some (some (.ref f7)))
    (l7 : K.lookup f7 = some ⟨oc7, od7, .func (PySem.W.fnOf "is_opening" "is_opening" (defArgs s_is_opening) (defBody s_is_opening) (defScope s_is_opening) .none kV7 dc7 pm7 an7 cd7 ct7), sl7⟩)
    (c7 : PySem.W.codeIn K cd7 "is_opening" = true)
    (k7 : PySem.W.keepIn K (.ref f7) = true)
    {f8 : Addr} {od8 an8 : Option Addr} {sl8 : Array (Option Value)} {oc8 kV8 dc8 pm8 cd8 ct8 : Value}
    (a8 : PySem.W.nsIn K mainGlobals "are_openings" = some (some (.ref f8)))
    (l8 : K.lookup f8 = some ⟨oc8, od8, .func (PySem.W.fnOf "are_openings" "are_openings" (defArgs s_are_openings) (defBody s_are_openings) (defScope s_are_openings) .none kV8 dc8 pm8 an8 cd8 ct8), sl8⟩)
    (c8 : PySem.W.codeIn K cd8 "are_openings" = true)
    (k8 : PySem.W.keepIn K (.ref f8) = true)
    {f9 : Addr} {od9 an9 : Option Addr} {sl9 : Array (Option Value)} {oc9 kV9 dc9 pm9 cd9 ct9 : Value}
    (a9 : PySem.W.nsIn K mainGlobals "standard_book" = some (some (.ref f9)))
    (l9 : K.lookup f9 = some ⟨oc9, od9, .func (PySem.W.fnOf "standard_book" "standard_book" (defArgs s_standard_book) (defBody s_standard_book) (defScope s_standard_book) .none kV9 dc9 pm9 an9 cd9 ct9), sl9⟩)
    (c9 : PySem.W.codeIn K cd9 "standard_book" = true)
    (k9 : PySem.W.keepIn K (.ref f9) = true)
    {f10 : Addr} {od10 an10 : Option Addr} {sl10 : Array (Option Value)} {oc10 kV10 dc10 pm10 cd10 ct10 : Value}
    (a10 : PySem.W.nsIn K mainGlobals "_law_deck" = some (some (.ref f10)))
    (l10 : K.lookup f10 = some ⟨oc10, od10, .func (PySem.W.fnOf "_law_deck" "_law_deck" (defArgs sDeck) (defBody sDeck) (defScope sDeck) .none kV10 dc10 pm10 an10 cd10 ct10), sl10⟩)
    (c10 : PySem.W.codeIn K cd10 "_law_deck" = true)
    (k10 : PySem.W.keepIn K (.ref f10) = true)
    {f11 : Addr} {od11 an11 : Option Addr} {sl11 : Array (Option Value)} {oc11 kV11 dc11 pm11 cd11 ct11 : Value}
    (a11 : PySem.W.nsIn K mainGlobals "_law_draw" = some (some (.ref f11)))
    (l11 : K.lookup f11 = some ⟨oc11, od11, .func (PySem.W.fnOf "_law_draw" "_law_draw" (defArgs sDraw) (defBody sDraw) (defScope sDraw) .none kV11 dc11 pm11 an11 cd11 ct11), sl11⟩)
    (c11 : PySem.W.codeIn K cd11 "_law_draw" = true)
    (k11 : PySem.W.keepIn K (.ref f11) = true)
    {f12 : Addr} {od12 an12 : Option Addr} {sl12 : Array (Option Value)} {oc12 kV12 dc12 pm12 cd12 ct12 : Value}
    (a12 : PySem.W.nsIn K mainGlobals "_law_pick" = some (some (.ref f12)))
    (l12 : K.lookup f12 = some ⟨oc12, od12, .func (PySem.W.fnOf "_law_pick" "_law_pick" (defArgs s_law_pick) (defBody s_law_pick) (defScope s_law_pick) .none kV12 dc12 pm12 an12 cd12 ct12), sl12⟩)
    (c12 : PySem.W.codeIn K cd12 "_law_pick" = true)
    (k12 : PySem.W.keepIn K (.ref f12) = true)
    {f13 : Addr} {od13 an13 : Option Addr} {sl13 : Array (Option Value)} {oc13 kV13 dc13 pm13 cd13 ct13 : Value}
    (a13 : PySem.W.nsIn K mainGlobals "_law_is_word" = some (some (.ref f13)))
    (l13 : K.lookup f13 = some ⟨oc13, od13, .func (PySem.W.fnOf "_law_is_word" "_law_is_word" (defArgs s_law_is_word) (defBody s_law_is_word) (defScope s_law_is_word) .none kV13 dc13 pm13 an13 cd13 ct13), sl13⟩)
    (c13 : PySem.W.codeIn K cd13 "_law_is_word" = true)
    (k13 : PySem.W.keepIn K (.ref f13) = true)
    {f14 : Addr} {od14 an14 : Option Addr} {sl14 : Array (Option Value)} {oc14 kV14 dc14 pm14 cd14 ct14 : Value}
    (a14 : PySem.W.nsIn K mainGlobals "_law_standard" = some (some (.ref f14)))
    (l14 : K.lookup f14 = some ⟨oc14, od14, .func (PySem.W.fnOf "_law_standard" "_law_standard" (defArgs s_law_standard) (defBody s_law_standard) (defScope s_law_standard) .none kV14 dc14 pm14 an14 cd14 ct14), sl14⟩)
    (c14 : PySem.W.codeIn K cd14 "_law_standard" = true)
    (k14 : PySem.W.keepIn K (.ref f14) = true)
    {f15 : Addr} {od15 an15 : Option Addr} {sl15 : Array (Option Value)} {oc15 kV15 dc15 pm15 cd15 ct15 : Value}
    (a15 : PySem.W.nsIn K mainGlobals "_law_need" = some (some (.ref f15)))
    (l15 : K.lookup f15 = some ⟨oc15, od15, .func (PySem.W.fnOf "_law_need" "_law_need" (defArgs s_law_need) (defBody s_law_need) (defScope s_law_need) .none kV15 dc15 pm15 an15 cd15 ct15), sl15⟩)
    (c15 : PySem.W.codeIn K cd15 "_law_need" = true)
    (k15 : PySem.W.keepIn K (.ref f15) = true)
    {f16 : Addr} {od16 an16 : Option Addr} {sl16 : Array (Option Value)} {oc16 kV16 dc16 pm16 cd16 ct16 : Value}
    (a16 : PySem.W.nsIn K mainGlobals "_law_plan" = some (some (.ref f16)))
    (l16 : K.lookup f16 = some ⟨oc16, od16, .func (PySem.W.fnOf "_law_plan" "_law_plan" (defArgs s_law_plan) (defBody s_law_plan) (defScope s_law_plan) .none kV16 dc16 pm16 an16 cd16 ct16), sl16⟩)
    (c16 : PySem.W.codeIn K cd16 "_law_plan" = true)
    (k16 : PySem.W.keepIn K (.ref f16) = true)
    {f17 : Addr} {od17 an17 : Option Addr} {sl17 : Array (Option Value)} {oc17 kV17 dc17 pm17 cd17 ct17 : Value}
    (a17 : PySem.W.nsIn K mainGlobals "_law_is_whole" = some (some (.ref f17)))
    (l17 : K.lookup f17 = some ⟨oc17, od17, .func (PySem.W.fnOf "_law_is_whole" "_law_is_whole" (defArgs s_law_is_whole) (defBody s_law_is_whole) (defScope s_law_is_whole) .none kV17 dc17 pm17 an17 cd17 ct17), sl17⟩)
    (c17 : PySem.W.codeIn K cd17 "_law_is_whole" = true)
    (k17 : PySem.W.keepIn K (.ref f17) = true)
    {f18 : Addr} {od18 an18 : Option Addr} {sl18 : Array (Option Value)} {oc18 kV18 dc18 pm18 cd18 ct18 : Value}
    (a18 : PySem.W.nsIn K mainGlobals "_law_is_kinds" = some (some (.ref f18)))
    (l18 : K.lookup f18 = some ⟨oc18, od18, .func (PySem.W.fnOf "_law_is_kinds" "_law_is_kinds" (defArgs s_law_is_kinds) (defBody s_law_is_kinds) (defScope s_law_is_kinds) .none kV18 dc18 pm18 an18 cd18 ct18), sl18⟩)
    (c18 : PySem.W.codeIn K cd18 "_law_is_kinds" = true)
    (k18 : PySem.W.keepIn K (.ref f18) = true)
    {f19 : Addr} {od19 an19 : Option Addr} {sl19 : Array (Option Value)} {oc19 kV19 dc19 pm19 cd19 ct19 : Value}
    (a19 : PySem.W.nsIn K mainGlobals "_law_is_need" = some (some (.ref f19)))
    (l19 : K.lookup f19 = some ⟨oc19, od19, .func (PySem.W.fnOf "_law_is_need" "_law_is_need" (defArgs s_law_is_need) (defBody s_law_is_need) (defScope s_law_is_need) .none kV19 dc19 pm19 an19 cd19 ct19), sl19⟩)
    (c19 : PySem.W.codeIn K cd19 "_law_is_need" = true)
    (k19 : PySem.W.keepIn K (.ref f19) = true)
    {f20 : Addr} {od20 an20 : Option Addr} {sl20 : Array (Option Value)} {oc20 kV20 dc20 pm20 cd20 ct20 : Value}
    (a20 : PySem.W.nsIn K mainGlobals "_law_is_openings" = some (some (.ref f20)))
    (l20 : K.lookup f20 = some ⟨oc20, od20, .func (PySem.W.fnOf "_law_is_openings" "_law_is_openings" (defArgs s_law_is_openings) (defBody s_law_is_openings) (defScope s_law_is_openings) .none kV20 dc20 pm20 an20 cd20 ct20), sl20⟩)
    (c20 : PySem.W.codeIn K cd20 "_law_is_openings" = true)
    (k20 : PySem.W.keepIn K (.ref f20) = true)
    {f21 : Addr} {od21 an21 : Option Addr} {sl21 : Array (Option Value)} {oc21 kV21 dc21 pm21 cd21 ct21 : Value}
    (a21 : PySem.W.nsIn K mainGlobals "_law_bent" = some (some (.ref f21)))
    (l21 : K.lookup f21 = some ⟨oc21, od21, .func (PySem.W.fnOf "_law_bent" "_law_bent" (defArgs s_law_bent) (defBody s_law_bent) (defScope s_law_bent) .none kV21 dc21 pm21 an21 cd21 ct21), sl21⟩)
    (c21 : PySem.W.codeIn K cd21 "_law_bent" = true)
    (k21 : PySem.W.keepIn K (.ref f21) = true)
    {f22 : Addr} {od22 an22 : Option Addr} {sl22 : Array (Option Value)} {oc22 kV22 dc22 pm22 cd22 ct22 : Value}
    (a22 : PySem.W.nsIn K mainGlobals "_law_heard" = some (some (.ref f22)))
    (l22 : K.lookup f22 = some ⟨oc22, od22, .func (PySem.W.fnOf "_law_heard" "_law_heard" (defArgs s_law_heard) (defBody s_law_heard) (defScope s_law_heard) .none kV22 dc22 pm22 an22 cd22 ct22), sl22⟩)
    (c22 : PySem.W.codeIn K cd22 "_law_heard" = true)
    (k22 : PySem.W.keepIn K (.ref f22) = true)
    {f23 : Addr} {od23 an23 : Option Addr} {sl23 : Array (Option Value)} {oc23 kV23 dc23 pm23 cd23 ct23 : Value}
    (a23 : PySem.W.nsIn K mainGlobals "_law_right" = some (some (.ref f23)))
    (l23 : K.lookup f23 = some ⟨oc23, od23, .func (PySem.W.fnOf "_law_right" "_law_right" (defArgs s_law_right) (defBody s_law_right) (defScope s_law_right) .none kV23 dc23 pm23 an23 cd23 ct23), sl23⟩)
    (c23 : PySem.W.codeIn K cd23 "_law_right" = true)
    (k23 : PySem.W.keepIn K (.ref f23) = true)
    {f24 : Addr} {od24 an24 : Option Addr} {sl24 : Array (Option Value)} {oc24 kV24 dc24 pm24 cd24 ct24 : Value}
    (a24 : PySem.W.nsIn K mainGlobals "law" = some (some (.ref f24)))
    (l24 : K.lookup f24 = some ⟨oc24, od24, .func (PySem.W.fnOf "law" "law" (defArgs s_law) (defBody s_law) (defScope s_law) .none kV24 dc24 pm24 an24 cd24 ct24), sl24⟩)
    (c24 : PySem.W.codeIn K cd24 "law" = true)
    (k24 : PySem.W.keepIn K (.ref f24) = true)
    (z_all : PySem.W.nsIn K mainGlobals "all" = some none)
    (z_bool : PySem.W.nsIn K mainGlobals "bool" = some none)
    (z_dict : PySem.W.nsIn K mainGlobals "dict" = some none)
    (z_enumerate : PySem.W.nsIn K mainGlobals "enumerate" = some none)
    (z_int : PySem.W.nsIn K mainGlobals "int" = some none)
    (z_isinstance : PySem.W.nsIn K mainGlobals "isinstance" = some none)
    (z_len : PySem.W.nsIn K mainGlobals "len" = some none)
    (z_list : PySem.W.nsIn K mainGlobals "list" = some none)
    (z_range : PySem.W.nsIn K mainGlobals "range" = some none)
    (z_repr : PySem.W.nsIn K mainGlobals "repr" = some none)
    (z_sorted : PySem.W.nsIn K mainGlobals "sorted" = some none)
    (z_str : PySem.W.nsIn K mainGlobals "str" = some none)
    (z_tuple : PySem.W.nsIn K mainGlobals "tuple" = some none)
    {t_LONGEST : Tok}
    (v_LONGEST : PySem.W.nsIn K mainGlobals "LONGEST" = some (some (.int 8 t_LONGEST)))
    {t_MOST_NEEDS : Tok}
    (v_MOST_NEEDS : PySem.W.nsIn K mainGlobals "MOST_NEEDS" = some (some (.int 2 t_MOST_NEEDS)))
    {t_MOST_PARTS : Tok}
    (v_MOST_PARTS : PySem.W.nsIn K mainGlobals "MOST_PARTS" = some (some (.int 3 t_MOST_PARTS)))
    : ∃ fd : FuncData, (∀ (s : Shared) (v : Value), BindsTo s fd ⟨[v], []⟩ [("_law_script", v)]) ∧ ∀ base : Heap, K.In base → base.Ns mainGlobals mg → FnG l.prog w K mg base 9 fa fd ["_law_script"] (spLaw K) := by
  have e := hfa.symm.trans (PySem.W.mg_of X G a24)
  cases e
  have F0 := fun_mk (st := s_is_whole) l0 c0 k0
  have B0 := F0.binds (ps := ["value", "low", "high"]) fun _ _ _ _ _ _ us hl => match us, hl with | [_, _, _], _ => rfl
  have F1 := fun_mk (st := s_ascends) l1 c1 k1
  have B1 := F1.binds (ps := ["items"]) fun _ _ _ _ _ _ us hl => match us, hl with | [_], _ => rfl
  have F2 := fun_mk (st := s_is_word) l2 c2 k2
  have B2 := F2.binds (ps := ["thing"]) fun _ _ _ _ _ _ us hl => match us, hl with | [_], _ => rfl
  have F3 := fun_mk (st := s_is_kind) l3 c3 k3
  have B3 := F3.binds (ps := ["value"]) fun _ _ _ _ _ _ us hl => match us, hl with | [_], _ => rfl
  have F4 := fun_mk (st := s_are_kinds) l4 c4 k4
  have B4 := F4.binds (ps := ["value"]) fun _ _ _ _ _ _ us hl => match us, hl with | [_], _ => rfl
  have F5 := fun_mk (st := s_is_single) l5 c5 k5
  have B5 := F5.binds (ps := ["value", "counts"]) fun _ _ _ _ _ _ us hl => match us, hl with | [_, _], _ => rfl
  have F6 := fun_mk (st := s_is_need) l6 c6 k6
  have B6 := F6.binds (ps := ["value", "count", "counts"]) fun _ _ _ _ _ _ us hl => match us, hl with | [_, _, _], _ => rfl
  have F7 := fun_mk (st := s_is_opening) l7 c7 k7
  have B7 := F7.binds (ps := ["value", "counts"]) fun _ _ _ _ _ _ us hl => match us, hl with | [_, _], _ => rfl
  have F8 := fun_mk (st := s_are_openings) l8 c8 k8
  have B8 := F8.binds (ps := ["value", "kinds"]) fun _ _ _ _ _ _ us hl => match us, hl with | [_, _], _ => rfl
  have F9 := fun_mk (st := s_standard_book) l9 c9 k9
  have B9 := F9.binds (ps := []) fun _ _ _ _ _ _ us hl => match us, hl with | [], _ => rfl
  have F10 := fun_mk (st := sDeck) l10 c10 k10
  have B10 := F10.binds (ps := ["_law_script"]) fun _ _ _ _ _ _ us hl => match us, hl with | [_], _ => rfl
  have F11 := fun_mk (st := sDraw) l11 c11 k11
  have B11 := F11.binds (ps := ["_law_deck_here", "_law_many"]) fun _ _ _ _ _ _ us hl => match us, hl with | [_, _], _ => rfl
  have F12 := fun_mk (st := s_law_pick) l12 c12 k12
  have B12 := F12.binds (ps := ["_law_deck_here", "_law_some"]) fun _ _ _ _ _ _ us hl => match us, hl with | [_, _], _ => rfl
  have F13 := fun_mk (st := s_law_is_word) l13 c13 k13
  have B13 := F13.binds (ps := ["_law_it"]) fun _ _ _ _ _ _ us hl => match us, hl with | [_], _ => rfl
  have F14 := fun_mk (st := s_law_standard) l14 c14 k14
  have B14 := F14.binds (ps := []) fun _ _ _ _ _ _ us hl => match us, hl with | [], _ => rfl
  have F15 := fun_mk (st := s_law_need) l15 c15 k15
  have B15 := F15.binds (ps := ["_law_deck_here", "_law_kinds", "_law_many"]) fun _ _ _ _ _ _ us hl => match us, hl with | [_, _, _], _ => rfl
  have F16 := fun_mk (st := s_law_plan) l16 c16 k16
  have B16 := F16.binds (ps := ["_law_deck_here"]) fun _ _ _ _ _ _ us hl => match us, hl with | [_], _ => rfl
  have F17 := fun_mk (st := s_law_is_whole) l17 c17 k17
  have B17 := F17.binds (ps := ["_law_it", "_law_least", "_law_most"]) fun _ _ _ _ _ _ us hl => match us, hl with | [_, _, _], _ => rfl
  have F18 := fun_mk (st := s_law_is_kinds) l18 c18 k18
  have B18 := F18.binds (ps := ["_law_it"]) fun _ _ _ _ _ _ us hl => match us, hl with | [_], _ => rfl
  have F19 := fun_mk (st := s_law_is_need) l19 c19 k19
  have B19 := F19.binds (ps := ["_law_numbers", "_law_many", "_law_it"]) fun _ _ _ _ _ _ us hl => match us, hl with | [_, _, _], _ => rfl
  have F20 := fun_mk (st := s_law_is_openings) l20 c20 k20
  have B20 := F20.binds (ps := ["_law_kinds", "_law_it"]) fun _ _ _ _ _ _ us hl => match us, hl with | [_, _], _ => rfl
  have F21 := fun_mk (st := s_law_bent) l21 c21 k21
  have B21 := F21.binds (ps := ["_law_deck_here", "_law_it", "_law_deep"]) fun _ _ _ _ _ _ us hl => match us, hl with | [_, _, _], _ => rfl
  have F22 := fun_mk (st := s_law_heard) l22 c22 k22
  have B22 := F22.binds (ps := ["_law_kinds", "_law_openings", "_law_is_named"]) fun _ _ _ _ _ _ us hl => match us, hl with | [_, _, _], _ => rfl
  have F23 := fun_mk (st := s_law_right) l23 c23 k23
  have B23 := F23.binds (ps := ["_law_kinds", "_law_openings", "_law_is_named"]) fun _ _ _ _ _ _ us hl => match us, hl with | [_, _, _], _ => rfl
  let E : Ec 3 := ⟨fun i => ([C0, C1, C2] : List Addr).getD i 0, ec_inj nd⟩
  have cE : ∀ i, i < 3 → ClsE K E i := fun i hi => by
    match i, hi with
    | 0, _ => exact ⟨⟨_, _, _, _, _, _, _, _, _, _, _, _, _, _, lE0⟩, sE0, gE0, hE0, kE0, jE0⟩
    | 1, _ => exact ⟨⟨_, _, _, _, _, _, _, _, _, _, _, _, _, _, lE1⟩, sE1, gE1, hE1, kE1, jE1⟩
    | 2, _ => exact ⟨⟨_, _, _, _, _, _, _, _, _, _, _, _, _, _, lE2⟩, sE2, gE2, hE2, kE2, jE2⟩
  have clB : Cls K CB := ⟨pgB, hdB, poB, saB⟩
  have xiB : XI K CB := ⟨haB, oa, ob, hmB⟩
  have FI := fun_mk (st := s_Book_init) lIB cIB pIB
  have FQ := fun_mk (st := s_Book_eq) lQB cQB pQB
  have BI := FI.binds (ps := ["self", "kinds", "openings"]) fun _ _ _ _ _ _ us hl => match us, hl with | [_, _, _], _ => rfl
  have BQ := FQ.binds (ps := ["self", "other"]) fun _ _ _ _ _ _ us hl => match us, hl with | [_, _], _ => rfl
  have J1 := fun_mk (st := s_init_BadBook) mE1 dE1 pE1
  have JB1 := J1.binds (ps := ["self", "part"]) fun _ _ _ _ _ _ us hl => match us, hl with | [_, _], _ => rfl
  have J2 := fun_mk (st := s_init_BadText) mE2 dE2 pE2
  have JB2 := J2.binds (ps := ["self", "line"]) fun _ _ _ _ _ _ us hl => match us, hl with | [_, _], _ => rfl
  have W : Txt K mg :=
    { b_all := PySem.W.mg_none_of X G z_all
      b_bool := PySem.W.mg_none_of X G z_bool
      b_dict := PySem.W.mg_none_of X G z_dict
      b_enumerate := PySem.W.mg_none_of X G z_enumerate
      b_int := PySem.W.mg_none_of X G z_int
      b_isinstance := PySem.W.mg_none_of X G z_isinstance
      b_len := PySem.W.mg_none_of X G z_len
      b_list := PySem.W.mg_none_of X G z_list
      b_range := PySem.W.mg_none_of X G z_range
      b_repr := PySem.W.mg_none_of X G z_repr
      b_sorted := PySem.W.mg_none_of X G z_sorted
      b_str := PySem.W.mg_none_of X G z_str
      b_tuple := PySem.W.mg_none_of X G z_tuple
      c_LONGEST := ⟨_, PySem.W.mg_of X G v_LONGEST⟩
      c_MOST_NEEDS := ⟨_, PySem.W.mg_of X G v_MOST_NEEDS⟩
      c_MOST_PARTS := ⟨_, PySem.W.mg_of X G v_MOST_PARTS⟩
      d_is_whole := ⟨_, _, F0, PySem.W.mg_of X G a0, B0⟩
      d_ascends := ⟨_, _, F1, PySem.W.mg_of X G a1, B1⟩
      d_is_word := ⟨_, _, F2, PySem.W.mg_of X G a2, B2⟩
      d_is_kind := ⟨_, _, F3, PySem.W.mg_of X G a3, B3⟩
      d_are_kinds := ⟨_, _, F4, PySem.W.mg_of X G a4, B4⟩
      d_is_single := ⟨_, _, F5, PySem.W.mg_of X G a5, B5⟩
      d_is_need := ⟨_, _, F6, PySem.W.mg_of X G a6, B6⟩
      d_is_opening := ⟨_, _, F7, PySem.W.mg_of X G a7, B7⟩
      d_are_openings := ⟨_, _, F8, PySem.W.mg_of X G a8, B8⟩
      d_standard_book := ⟨_, _, F9, PySem.W.mg_of X G a9, B9⟩
      d_law_deck := ⟨_, _, F10, PySem.W.mg_of X G a10, B10⟩
      d_law_draw := ⟨_, _, F11, PySem.W.mg_of X G a11, B11⟩
      d_law_pick := ⟨_, _, F12, PySem.W.mg_of X G a12, B12⟩
      d_law_is_word := ⟨_, _, F13, PySem.W.mg_of X G a13, B13⟩
      d_law_standard := ⟨_, _, F14, PySem.W.mg_of X G a14, B14⟩
      d_law_need := ⟨_, _, F15, PySem.W.mg_of X G a15, B15⟩
      d_law_plan := ⟨_, _, F16, PySem.W.mg_of X G a16, B16⟩
      d_law_is_whole := ⟨_, _, F17, PySem.W.mg_of X G a17, B17⟩
      d_law_is_kinds := ⟨_, _, F18, PySem.W.mg_of X G a18, B18⟩
      d_law_is_need := ⟨_, _, F19, PySem.W.mg_of X G a19, B19⟩
      d_law_is_openings := ⟨_, _, F20, PySem.W.mg_of X G a20, B20⟩
      d_law_bent := ⟨_, _, F21, PySem.W.mg_of X G a21, B21⟩
      d_law_heard := ⟨_, _, F22, PySem.W.mg_of X G a22, B22⟩
      d_law_right := ⟨_, _, F23, PySem.W.mg_of X G a23, B23⟩
      B := CB
      mB := PySem.W.mg_of X G nB
      clB := clB
      xiB := xiB
      ktB := kit_mk clB xiB icB tyB sub_NoneType sub_bool sub_int sub_str sub_tuple sub_list sub_dict
      no_kinds := na_kinds
      no_openings := na_openings
      no_counts := na_counts
      no_by_word := na_by_word
      no_ways := na_ways
      fB := fIB
      dB := _
      FB := FI
      MB := ⟨mkB, inB, fnB, kpB⟩
      bB := BI
      kB := fun u ws hl => match ws, hl with | [_, _], _ => rfl
      fQ := fQB
      dQ := _
      FQ := FQ
      bQ := BQ
      hQ := eqB
      iQ := fnQ
      g_STANDARD_KINDS := ⟨_, PySem.W.mg_of X G gc_STANDARD_KINDS, is_tupK lu0 (by simp) (lv_ref (is_tupK lu1 (by simp) (lv_str (lv_int (lv_nil)))) (lv_ref (is_tupK lu2 (by simp) (lv_str (lv_int (lv_nil)))) (lv_ref (is_tupK lu3 (by simp) (lv_str (lv_int (lv_nil)))) (lv_ref (is_tupK lu4 (by simp) (lv_str (lv_int (lv_nil)))) (lv_ref (is_tupK lu5 (by simp) (lv_str (lv_int (lv_nil)))) (lv_ref (is_tupK lu6 (by simp) (lv_str (lv_int (lv_nil)))) (lv_nil)))))))⟩
      g_STANDARD_OPENINGS := ⟨_, PySem.W.mg_of X G gc_STANDARD_OPENINGS, is_tupK lu7 (by simp) (lv_ref (is_tupK lu8 (by simp) (lv_str (lv_str (lv_int (lv_ref (is_tupK lu9 (by simp) (lv_nil)) (lv_nil)))))) (lv_ref (is_tupK lu10 (by simp) (lv_str (lv_str (lv_int (lv_ref (is_tupK lu11 (by simp) (lv_ref (is_tupK lu12 (by simp) (lv_str (lv_int (lv_nil)))) (lv_nil))) (lv_nil)))))) (lv_ref (is_tupK lu13 (by simp) (lv_str (lv_str (lv_int (lv_ref (is_tupK lu14 (by simp) (lv_nil)) (lv_nil)))))) (lv_ref (is_tupK lu15 (by simp) (lv_str (lv_str (lv_int (lv_ref (is_tupK lu16 (by simp) (lv_nil)) (lv_nil)))))) (lv_ref (is_tupK lu17 (by simp) (lv_str (lv_str (lv_int (lv_ref (is_tupK lu18 (by simp) (lv_ref (is_tupK lu19 (by simp) (lv_str (lv_str (lv_int (lv_nil))))) (lv_nil))) (lv_nil)))))) (lv_ref (is_tupK lu20 (by simp) (lv_str (lv_str (lv_int (lv_ref (is_tupK lu21 (by simp) (lv_ref (is_tupK lu22 (by simp) (lv_str (lv_int (lv_str (lv_nil))))) (lv_nil))) (lv_nil)))))) (lv_nil)))))))⟩
      E := E
      oC := ⟨oa, ob⟩
      cE := cE
      mE_CircleError := PySem.W.mg_of X G nE0
      mE_BadBook := PySem.W.mg_of X G nE1
      iE_BadBook := ⟨_, _, oE1, iE1, tE1, J1, JB1, fun u v => rfl⟩
      mE_BadText := PySem.W.mg_of X G nE2
      iE_BadText := ⟨_, _, oE2, iE2, tE2, J2, JB2, fun u v => rfl⟩ }
  exact ⟨PySem.W.fnOf "law" "law" (defArgs s_law) (defBody s_law) (defScope s_law) .none kV24 dc24 pm24 an24 cd24 ct24, fun s v => .of_eq rfl, fun base _ _ => ok_law W (fun_mk (st := s_law) l24 c24 k24)⟩
end L2.TL
open PySem PySem.W PyProof.Rows in
set_option maxRecDepth 100000 in
set_option maxHeartbeats 0 in
theorem PySem.Challenge.cw_circlekeep_k04_books_of_any_values_holds : PySem.Challenge.rw_circlekeep_k04_books_of_any_values.Holds := by
  w_on; o_law; k_head; (case hw => w_witness2)
  k_fill
  refine L2.TL.walk_g (l := PySem.Challenge.rw_circlekeep_k04_books_of_any_values) (n := 63) (k := 9) (x := "_law_script") (sp := L2.TL.spLaw) rfl (by decide) rfl ⟨rfl, by decide, by decide⟩ (fun w h Y => PySem.W.kIn_of Y) ?F (fun _ _ a ns hl _ hS => ⟨a, ns, rfl, hS, hl, fun _ => rfl⟩)
  case F =>
    intro w mg fa h KX G hmg
    refine' L2.TL.all_mk KX G hmg ?nE0 ?nE1 ?nE2 ?lE0 ?sE0 ?gE0 ?hE0 ?kE0 ?jE0 ?lE1 ?sE1 ?gE1 ?hE1 ?kE1 ?jE1 ?iE1 ?oE1 ?tE1 ?mE1 ?dE1 ?pE1 ?lE2 ?sE2 ?gE2 ?hE2 ?kE2 ?jE2 ?iE2 ?oE2 ?tE2 ?mE2 ?dE2 ?pE2 ?nB ?pgB ?hdB ?poB ?saB ?haB ?hmB ?icB ?tyB ?sub_NoneType ?sub_bool ?sub_int ?sub_str ?sub_tuple ?sub_list ?sub_dict ?na_kinds ?na_openings ?na_counts ?na_by_word ?na_ways ?mkB ?inB ?fnB ?kpB ?lIB ?cIB ?pIB ?eqB ?fnQ ?lQB ?cQB ?pQB ?gc_STANDARD_KINDS ?lu0 ?lu1 ?lu2 ?lu3 ?lu4 ?lu5 ?lu6 ?gc_STANDARD_OPENINGS ?lu7 ?lu8 ?lu9 ?lu10 ?lu11 ?lu12 ?lu13 ?lu14 ?lu15 ?lu16 ?lu17 ?lu18 ?lu19 ?lu20 ?lu21 ?lu22 ?oa ?ob ?nd ?a0 ?l0 ?c0 ?k0 ?a1 ?l1 ?c1 ?k1 ?a2 ?l2 ?c2 ?k2 ?a3 ?l3 ?c3 ?k3 ?a4 ?l4 ?c4 ?k4 ?a5 ?l5 ?c5 ?k5 ?a6 ?l6 ?c6 ?k6 ?a7 ?l7 ?c7 ?k7 ?a8 ?l8 ?c8 ?k8 ?a9 ?l9 ?c9 ?k9 ?a10 ?l10 ?c10 ?k10 ?a11 ?l11 ?c11 ?k11 ?a12 ?l12 ?c12 ?k12 ?a13 ?l13 ?c13 ?k13 ?a14 ?l14 ?c14 ?k14 ?a15 ?l15 ?c15 ?k15 ?a16 ?l16 ?c16 ?k16 ?a17 ?l17 ?c17 ?k17 ?a18 ?l18 ?c18 ?k18 ?a19 ?l19 ?c19 ?k19 ?a20 ?l20 ?c20 ?k20 ?a21 ?l21 ?c21 ?k21 ?a22 ?l22 ?c22 ?k22 ?a23 ?l23 ?c23 ?k23 ?a24 ?l24 ?c24 ?k24 ?z_all ?z_bool ?z_dict ?z_enumerate ?z_int ?z_isinstance ?z_len ?z_list ?z_range ?z_repr ?z_sorted ?z_str ?z_tuple ?v_LONGEST ?v_MOST_NEEDS ?v_MOST_PARTS
    (case nE0 => k_is)
    (case nE1 => k_is)
    (case nE2 => k_is)
    (case lE0 => k_is)
    (case sE0 => k_is)
    (case gE0 => k_is)
    (case hE0 => k_is)
    (case kE0 => k_is)
    (case jE0 => k_is)
    (case lE1 => k_is)
    (case sE1 => k_is)
    (case gE1 => k_is)
    (case hE1 => k_is)
    (case kE1 => k_is)
    (case jE1 => k_is)
    (case iE1 => k_is)
    (case oE1 => k_is)
    (case tE1 => k_is)
    (case mE1 => k_is)
    (case dE1 => k_is)
    (case pE1 => k_is)
    (case lE2 => k_is)
    (case sE2 => k_is)
    (case gE2 => k_is)
    (case hE2 => k_is)
    (case kE2 => k_is)
    (case jE2 => k_is)
    (case iE2 => k_is)
    (case oE2 => k_is)
    (case tE2 => k_is)
    (case mE2 => k_is)
    (case dE2 => k_is)
    (case pE2 => k_is)
    (case nB => k_is)
    (case pgB => k_is)
    (case hdB => k_is)
    (case poB => k_is)
    (case saB => k_is)
    (case haB => k_is)
    (case hmB => k_is)
    (case icB => k_is)
    (case tyB => k_is)
    (case sub_NoneType => k_is)
    (case sub_bool => k_is)
    (case sub_int => k_is)
    (case sub_str => k_is)
    (case sub_tuple => k_is)
    (case sub_list => k_is)
    (case sub_dict => k_is)
    (case na_kinds => k_is)
    (case na_openings => k_is)
    (case na_counts => k_is)
    (case na_by_word => k_is)
    (case na_ways => k_is)
    (case mkB => k_is)
    (case inB => k_is)
    (case fnB => k_is)
    (case kpB => k_is)
    (case lIB => k_is)
    (case cIB => k_is)
    (case pIB => k_is)
    (case eqB => k_is)
    (case fnQ => k_is)
    (case lQB => k_is)
    (case cQB => k_is)
    (case pQB => k_is)
    (case gc_STANDARD_KINDS => k_is)
    (case lu0 => k_is)
    (case lu1 => k_is)
    (case lu2 => k_is)
    (case lu3 => k_is)
    (case lu4 => k_is)
    (case lu5 => k_is)
    (case lu6 => k_is)
    (case gc_STANDARD_OPENINGS => k_is)
    (case lu7 => k_is)
    (case lu8 => k_is)
    (case lu9 => k_is)
    (case lu10 => k_is)
    (case lu11 => k_is)
    (case lu12 => k_is)
    (case lu13 => k_is)
    (case lu14 => k_is)
    (case lu15 => k_is)
    (case lu16 => k_is)
    (case lu17 => k_is)
    (case lu18 => k_is)
    (case lu19 => k_is)
    (case lu20 => k_is)
    (case lu21 => k_is)
    (case lu22 => k_is)
    (case oa => k_is)
    (case ob => k_is)
    (case nd => decide)
    (case a0 => k_is)
    (case l0 => k_is)
    (case c0 => k_is)
    (case k0 => k_is)
    (case a1 => k_is)
    (case l1 => k_is)
    (case c1 => k_is)
    (case k1 => k_is)
    (case a2 => k_is)
    (case l2 => k_is)
    (case c2 => k_is)
    (case k2 => k_is)
    (case a3 => k_is)
    (case l3 => k_is)
    (case c3 => k_is)
    (case k3 => k_is)
    (case a4 => k_is)
    (case l4 => k_is)
    (case c4 => k_is)
    (case k4 => k_is)
    (case a5 => k_is)
    (case l5 => k_is)
    (case c5 => k_is)
    (case k5 => k_is)
    (case a6 => k_is)
    (case l6 => k_is)
    (case c6 => k_is)
    (case k6 => k_is)
    (case a7 => k_is)
    (case l7 => k_is)
    (case c7 => k_is)
    (case k7 => k_is)
    (case a8 => k_is)
    (case l8 => k_is)
    (case c8 => k_is)
    (case k8 => k_is)
    (case a9 => k_is)
    (case l9 => k_is)
    (case c9 => k_is)
    (case k9 => k_is)
    (case a10 => k_is)
    (case l10 => k_is)
    (case c10 => k_is)
    (case k10 => k_is)
    (case a11 => k_is)
    (case l11 => k_is)
    (case c11 => k_is)
    (case k11 => k_is)
    (case a12 => k_is)
    (case l12 => k_is)
    (case c12 => k_is)
    (case k12 => k_is)
    (case a13 => k_is)
    (case l13 => k_is)
    (case c13 => k_is)
    (case k13 => k_is)
    (case a14 => k_is)
    (case l14 => k_is)
    (case c14 => k_is)
    (case k14 => k_is)
    (case a15 => k_is)
    (case l15 => k_is)
    (case c15 => k_is)
    (case k15 => k_is)
    (case a16 => k_is)
    (case l16 => k_is)
    (case c16 => k_is)
    (case k16 => k_is)
    (case a17 => k_is)
    (case l17 => k_is)
    (case c17 => k_is)
    (case k17 => k_is)
    (case a18 => k_is)
    (case l18 => k_is)
    (case c18 => k_is)
    (case k18 => k_is)
    (case a19 => k_is)
    (case l19 => k_is)
    (case c19 => k_is)
    (case k19 => k_is)
    (case a20 => k_is)
    (case l20 => k_is)
    (case c20 => k_is)
    (case k20 => k_is)
    (case a21 => k_is)
    (case l21 => k_is)
    (case c21 => k_is)
    (case k21 => k_is)
    (case a22 => k_is)
    (case l22 => k_is)
    (case c22 => k_is)
    (case k22 => k_is)
    (case a23 => k_is)
    (case l23 => k_is)
    (case c23 => k_is)
    (case k23 => k_is)
    (case a24 => k_is)
    (case l24 => k_is)
    (case c24 => k_is)
    (case k24 => k_is)
    (case z_all => k_is)
    (case z_bool => k_is)
    (case z_dict => k_is)
    (case z_enumerate => k_is)
    (case z_int => k_is)
    (case z_isinstance => k_is)
    (case z_len => k_is)
    (case z_list => k_is)
    (case z_range => k_is)
    (case z_repr => k_is)
    (case z_sorted => k_is)
    (case z_str => k_is)
    (case z_tuple => k_is)
    (case v_LONGEST => k_is)
    (case v_MOST_NEEDS => k_is)
    (case v_MOST_PARTS => k_is)
